/-
  The contract of the reference's In.
-/
import Derived.Test.YtfdlfjecgefgfaaFns
import Derived.Deep.Cut
import Derived.Deep.CutRange
namespace Go.Proofs.Ytfdlfjecgefgfaa
open Go.RowKit
attribute [local go_sem ↓] Go.wp_at_zero Go.wp_at_succ

theorem wth_ways (a b : P) (x y : Int) : (crs a b x y < 0 ∧ wth a b x y = false) ∨ (crs a b x y = 0 ∧ fst a b = false ∧ wth a b x y = false) ∨ (crs a b x y = 0 ∧ fst a b = true ∧ wth a b x y = true) ∨ (¬ crs a b x y < 0 ∧ ¬ crs a b x y = 0 ∧ wth a b x y = true) := by
  unfold wth
  generalize crs a b x y = m
  cases fst a b <;> rcases (show m < 0 ∨ m = 0 ∨ 0 < m by omega) with h | h | h <;> simp [h] <;> omega

set_option maxRecDepth 100000 in
set_option maxHeartbeats 1000000 in
theorem rin_any (a b c : P) (x y : Int) (ha : a.sm) (hb : b.sm) (hc : c.sm) (hx0 : -65536 ≤ x) (hx1 : x ≤ 65536) (hy0 : -65536 ≤ y) (hy1 : y ≤ 65536) (w : World) :
    Calls Try.prog 33 #[.agg #[.int .i64 a.x, .int .i64 a.y, .int .i64 a.z, .int .i64 a.a, .int .i64 a.b, .int .i64 a.c, .int .i64 a.d, .int .i64 b.x, .int .i64 b.y, .int .i64 b.z, .int .i64 b.a, .int .i64 b.b, .int .i64 b.c, .int .i64 b.d, .int .i64 c.x, .int .i64 c.y, .int .i64 c.z, .int .i64 c.a, .int .i64 c.b, .int .i64 c.c, .int .i64 c.d], .int .i64 x, .int .i64 y] w fun e w' => e = .returned (.bool (inn a b c x y)) ∧ Below w.heap.size w w' := by
  have HK := Lib.hid fun o => ((Below.refl w.heap.size w).alloc (Nat.le_refl _) o)
  have HA := Lib.hid (rarea_any a b c ha hb hc)
  have H1 := Lib.hid (fun w => rcross_any a b x y ha hb hx0 hx1 hy0 hy1 w)
  have H2 := Lib.hid (fun w => rcross_any b c x y hb hc hx0 hx1 hy0 hy1 w)
  have H3 := Lib.hid (fun w => rcross_any c a x y hc ha hx0 hx1 hy0 hy1 w)
  have F1 := Lib.hid (rfirst_any a b)
  have F2 := Lib.hid (rfirst_any b c)
  have F3 := Lib.hid (rfirst_any c a)
  have W1 := Lib.hid (wth_ways a b x y)
  have W2 := Lib.hid (wth_ways b c x y)
  have W3 := Lib.hid (wth_ways c a x y)
  have hi : inn a b c x y = (decide (0 < area a b c) && (wth a b x y && (wth b c x y && wth c a x y))) := rfl
  generalize area a b c = m at *
  generalize wth a b x y = r1 at *
  generalize wth b c x y = r2 at *
  generalize wth c a x y = r3 at *
  generalize crs a b x y = m1 at *
  generalize crs b c x y = m2 at *
  generalize crs c a x y = m3 at *
  generalize fst a b = f1 at *
  generalize fst b c = f2 at *
  generalize fst c a = f3 at *
  rw [hi]
  clear hi ha hb hc hx0 hx1 hy0 hy1
  have HM := Lib.hid (show m ≤ 0 ∨ (¬ m ≤ 0 ∧ 0 < m) by omega)
  have v1 : IntKind.i64.wrap 1 = 1 := by decide
  have v2 : IntKind.i64.wrap 2 = 2 := by decide
  have v3 : IntKind.i64.wrap 3 = 3 := by decide
  have t1 : (1 : Int).tmod 3 = 1 := by decide
  have t2 : (2 : Int).tmod 3 = 2 := by decide
  have t3 : (3 : Int).tmod 3 = 0 := by decide
  go_enter Try.func33, Try.ntmps33
  go_wp2_with (refine wp_loadT _ rfl rfl rfl (new_at rfl) ?_)
  with_reducible refine (HA.out _).mono ?_
  rintro e w1 ⟨rfl, hb⟩
  have K1 := Lib.hid (bstep (HK.out _) (by simp) hb)
  have T1 := Lib.hid (show w1.heap[w.heap.size]? = some (tB a b c) from tB_grow (new_at rfl) hb)
  obtain ⟨⟨c0, c1, c2, c3, c4, c5, c6⟩, ⟨c7, c8, c9, c10, c11, c12, c13⟩, ⟨c14, c15, c16, c17, c18, c19, c20⟩⟩ := tB_cell T1.out
  have l1 := tB_lt T1.out
  clear hb
  rcases HM.out with h | ⟨h, h'⟩
  · go_wp2
    go_ret
    exact ⟨by simp; omega, K1.out⟩
  · go_wp2
    refine wp_loop_rounds 4 ?_
    rw [rounds_succ]
    go_wp2_with fail
    with_reducible refine (H1.out _).mono ?_
    rintro e w2 ⟨rfl, hb⟩
    have K2 := Lib.hid (bstep ((K1.out.alloc K1.out.size _).alloc (by have := K1.out.size; simp; omega) _) (by have := K1.out.size; simp; omega) hb)
    have T2 := Lib.hid (tB_grow (tB_alloc _ (tB_alloc _ T1.out)) hb)
    have A1 := Lib.hid (show w2.heap[w1.heap.size]? = some (pB a) from pB_grow (new_two _ _).1 hb)
    have B1 := Lib.hid (show w2.heap[w1.heap.size + 1]? = some (pB b) from pB_grow (new_two _ _).2 hb)
    clear hb c0 c1 c2 c3 c4 c5 c6 c7 c8 c9 c10 c11 c12 c13 c14 c15 c16 c17 c18 c19 c20 T1 l1
    obtain ⟨c0, c1, c2, c3, c4, c5, c6⟩ := pB_cell A1.out
    obtain ⟨d0, d1, d2, d3, d4, d5, d6⟩ := pB_cell B1.out
    go_wp2_with fail
    with_reducible refine (F1.out _).mono ?_
    rintro e w3 ⟨rfl, hb⟩
    have K3 := Lib.hid (bstep K2.out K2.out.size hb)
    have T3 := Lib.hid (tB_grow T2.out hb)
    clear hb c0 c1 c2 c3 c4 c5 c6 d0 d1 d2 d3 d4 d5 d6 A1 B1 T2
    go_upto_region 10 with fail
    go_cut [44] from 35 to 44 (fun s wc => s = .bool (!r1) ∧ w3 = wc)
    case first =>
      rcases W1.out with ⟨z1, rfl⟩ | ⟨rfl, rfl, rfl⟩ | ⟨rfl, rfl, rfl⟩ | ⟨z1, z2, rfl⟩
      all_goals
        go_wp2
        go_meet
        case rel => exact ⟨by simp [*], rfl⟩
    obtain ⟨rfl, rfl⟩ := hcut
    obtain ⟨⟨c0, c1, c2, c3, c4, c5, c6⟩, ⟨c7, c8, c9, c10, c11, c12, c13⟩, ⟨c14, c15, c16, c17, c18, c19, c20⟩⟩ := tB_cell T3.out
    have l1 := tB_lt T3.out
    cases r1
    · go_wp2
      go_ret
      exact ⟨by simp, K3.out⟩
    go_wp2
    rw [rounds_succ]
    go_wp2_with fail
    with_reducible refine (H2.out _).mono ?_
    rintro e w4 ⟨rfl, hb⟩
    have K4 := Lib.hid (bstep ((K3.out.alloc K3.out.size _).alloc (by have := K3.out.size; simp; omega) _) (by have := K3.out.size; simp; omega) hb)
    have T4 := Lib.hid (tB_grow (tB_alloc _ (tB_alloc _ T3.out)) hb)
    have A2 := Lib.hid (show w4.heap[w3.heap.size]? = some (pB b) from pB_grow (new_two _ _).1 hb)
    have B2 := Lib.hid (show w4.heap[w3.heap.size + 1]? = some (pB c) from pB_grow (new_two _ _).2 hb)
    clear hb c0 c1 c2 c3 c4 c5 c6 c7 c8 c9 c10 c11 c12 c13 c14 c15 c16 c17 c18 c19 c20 T3 l1
    obtain ⟨c0, c1, c2, c3, c4, c5, c6⟩ := pB_cell A2.out
    obtain ⟨d0, d1, d2, d3, d4, d5, d6⟩ := pB_cell B2.out
    go_wp2_with fail
    with_reducible refine (F2.out _).mono ?_
    rintro e w5 ⟨rfl, hb⟩
    have K5 := Lib.hid (bstep K4.out K4.out.size hb)
    have T5 := Lib.hid (tB_grow T4.out hb)
    clear hb c0 c1 c2 c3 c4 c5 c6 d0 d1 d2 d3 d4 d5 d6 A2 B2 T4
    go_upto_region 10 with fail
    go_cut [44] from 35 to 44 (fun s wc => s = .bool (!r2) ∧ w5 = wc)
    case first =>
      rcases W2.out with ⟨z1, rfl⟩ | ⟨rfl, rfl, rfl⟩ | ⟨rfl, rfl, rfl⟩ | ⟨z1, z2, rfl⟩
      all_goals
        go_wp2
        go_meet
        case rel => exact ⟨by simp [*], rfl⟩
    obtain ⟨rfl, rfl⟩ := hcut
    obtain ⟨⟨c0, c1, c2, c3, c4, c5, c6⟩, ⟨c7, c8, c9, c10, c11, c12, c13⟩, ⟨c14, c15, c16, c17, c18, c19, c20⟩⟩ := tB_cell T5.out
    have l1 := tB_lt T5.out
    cases r2
    · go_wp2
      go_ret
      exact ⟨by simp, K5.out⟩
    go_wp2
    rw [rounds_succ]
    go_wp2_with fail
    with_reducible refine (H3.out _).mono ?_
    rintro e w6 ⟨rfl, hb⟩
    have K6 := Lib.hid (bstep ((K5.out.alloc K5.out.size _).alloc (by have := K5.out.size; simp; omega) _) (by have := K5.out.size; simp; omega) hb)
    have T6 := Lib.hid (tB_grow (tB_alloc _ (tB_alloc _ T5.out)) hb)
    have A3 := Lib.hid (show w6.heap[w5.heap.size]? = some (pB c) from pB_grow (new_two _ _).1 hb)
    have B3 := Lib.hid (show w6.heap[w5.heap.size + 1]? = some (pB a) from pB_grow (new_two _ _).2 hb)
    clear hb c0 c1 c2 c3 c4 c5 c6 c7 c8 c9 c10 c11 c12 c13 c14 c15 c16 c17 c18 c19 c20 T5 l1
    obtain ⟨c0, c1, c2, c3, c4, c5, c6⟩ := pB_cell A3.out
    obtain ⟨d0, d1, d2, d3, d4, d5, d6⟩ := pB_cell B3.out
    go_wp2_with fail
    with_reducible refine (F3.out _).mono ?_
    rintro e w7 ⟨rfl, hb⟩
    have K7 := Lib.hid (bstep K6.out K6.out.size hb)
    have T7 := Lib.hid (tB_grow T6.out hb)
    clear hb c0 c1 c2 c3 c4 c5 c6 d0 d1 d2 d3 d4 d5 d6 A3 B3 T6
    go_upto_region 10 with fail
    go_cut [44] from 35 to 44 (fun s wc => s = .bool (!r3) ∧ w7 = wc)
    case first =>
      rcases W3.out with ⟨z1, rfl⟩ | ⟨rfl, rfl, rfl⟩ | ⟨rfl, rfl, rfl⟩ | ⟨z1, z2, rfl⟩
      all_goals
        go_wp2
        go_meet
        case rel => exact ⟨by simp [*], rfl⟩
    obtain ⟨rfl, rfl⟩ := hcut
    obtain ⟨⟨c0, c1, c2, c3, c4, c5, c6⟩, ⟨c7, c8, c9, c10, c11, c12, c13⟩, ⟨c14, c15, c16, c17, c18, c19, c20⟩⟩ := tB_cell T7.out
    have l1 := tB_lt T7.out
    cases r3
    · go_wp2
      go_ret
      exact ⟨by simp, K7.out⟩
    go_wp2
    rw [rounds_succ]
    go_wp2
    go_ret
    exact ⟨by simp [h'], K7.out⟩
end Go.Proofs.Ytfdlfjecgefgfaa
