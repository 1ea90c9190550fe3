/-
  The contracts of edge.within and edge.In.
-/
import Derived.Test.YtgcoggejgolhgaaFns
namespace Go.Proofs.Ytgcoggejgolhgaa
open Go.RowKit
attribute [local go_sem ↓] Go.wp_at_zero Go.wp_at_succ

set_option maxHeartbeats 1000000 in
theorem within_any (a b : P) (x y : Int) (ha : a.sm) (hb : b.sm) (hx0 : -65536 ≤ x) (hx1 : x ≤ 65536) (hy0 : -65536 ≤ y) (hy1 : y ≤ 65536) (w : World) :
    Calls Try.prog 28 #[.agg #[.int .i64 a.x, .int .i64 a.y, .int .i64 a.z, .int .i64 a.a, .int .i64 a.b, .int .i64 a.c, .int .i64 a.d], .agg #[.int .i64 b.x, .int .i64 b.y, .int .i64 b.z, .int .i64 b.a, .int .i64 b.b, .int .i64 b.c, .int .i64 b.d], .int .i64 x, .int .i64 y] w fun e w' => e = .returned (.bool (wth a b x y)) ∧ Below w.heap.size w w' := by
  have HK := Lib.hid fun o o' => (((Below.refl w.heap.size w).alloc (Nat.le_refl _) o).alloc (by simp) o')
  have HC := Lib.hid (fun w => cross_any a b x y ha hb hx0 hx1 hy0 hy1 w)
  have HF := Lib.hid (first_any a b)
  have hw : wth a b x y = (decide (0 < crs a b x y) || (decide (crs a b x y = 0) && fst a b)) := rfl
  generalize crs a b x y = m at *
  generalize fst a b = f at *
  rw [hw]
  clear hw ha hb hx0 hx1 hy0 hy1
  have HM := Lib.hid (show 0 < m ∨ (m = 0) ∨ (¬ 0 < m ∧ ¬ m = 0) by omega)
  go_enter Try.func28, Try.ntmps28
  go_wp2_with fail
  with_reducible refine (HC.out _).mono ?_
  rintro e w1 ⟨rfl, hb⟩
  have K1 := Lib.hid (bstep (HK.out _ _) (by simp; omega) hb)
  obtain ⟨c0, c1, c2, c3, c4, c5, c6⟩ := pB_cell (show w1.heap[w.heap.size]? = some (pB a) from pB_grow (new_two _ _).1 hb)
  obtain ⟨d0, d1, d2, d3, d4, d5, d6⟩ := pB_cell (show w1.heap[w.heap.size + 1]? = some (pB b) from pB_grow (new_two _ _).2 hb)
  clear hb
  rcases HM.out with h | h | ⟨h, h'⟩
  · go_wp2
    go_ret
    exact ⟨by simp [h], K1.out⟩
  · subst h
    go_wp2_with fail
    with_reducible refine (HF.out _).mono ?_
    rintro e w2 ⟨rfl, hb⟩
    have K2 := Lib.hid (bstep K1.out K1.out.size hb)
    clear hb
    go_wp2
    go_ret
    exact ⟨by simp, K2.out⟩
  · go_wp2
    go_ret
    exact ⟨by simp [h'], K1.out⟩

set_option maxRecDepth 100000 in
set_option maxHeartbeats 1000000 in
theorem in_any (a b c : P) (x y : Int) (ha : a.sm) (hb : b.sm) (hc : c.sm) (hx0 : -65536 ≤ x) (hx1 : x ≤ 65536) (hy0 : -65536 ≤ y) (hy1 : y ≤ 65536) (w : World) :
    Calls Try.prog 23 #[.agg #[.int .i64 a.x, .int .i64 a.y, .int .i64 a.z, .int .i64 a.a, .int .i64 a.b, .int .i64 a.c, .int .i64 a.d, .int .i64 b.x, .int .i64 b.y, .int .i64 b.z, .int .i64 b.a, .int .i64 b.b, .int .i64 b.c, .int .i64 b.d, .int .i64 c.x, .int .i64 c.y, .int .i64 c.z, .int .i64 c.a, .int .i64 c.b, .int .i64 c.c, .int .i64 c.d], .int .i64 x, .int .i64 y] w fun e w' => e = .returned (.bool (inn a b c x y)) ∧ Below w.heap.size w w' := by
  have HK := Lib.hid fun o => ((Below.refl w.heap.size w).alloc (Nat.le_refl _) o)
  have HA := Lib.hid (area_any a b c ha hb hc)
  have H1 := Lib.hid (fun w => within_any a b x y ha hb hx0 hx1 hy0 hy1 w)
  have H2 := Lib.hid (fun w => within_any b c x y hb hc hx0 hx1 hy0 hy1 w)
  have H3 := Lib.hid (fun w => within_any c a x y hc ha hx0 hx1 hy0 hy1 w)
  have hi : inn a b c x y = (decide (0 < area a b c) && (wth a b x y && (wth b c x y && wth c a x y))) := rfl
  generalize area a b c = m at *
  generalize wth a b x y = r1 at *
  generalize wth b c x y = r2 at *
  generalize wth c a x y = r3 at *
  rw [hi]
  clear hi ha hb hc hx0 hx1 hy0 hy1
  have HM := Lib.hid (show m ≤ 0 ∨ (¬ m ≤ 0 ∧ 0 < m) by omega)
  have v1 : IntKind.i64.wrap 1 = 1 := by decide
  have v2 : IntKind.i64.wrap 2 = 2 := by decide
  have v3 : IntKind.i64.wrap 3 = 3 := by decide
  have t1 : (1 : Int).tmod 3 = 1 := by decide
  have t2 : (2 : Int).tmod 3 = 2 := by decide
  have t3 : (3 : Int).tmod 3 = 0 := by decide
  go_enter Try.func23, Try.ntmps23
  go_wp2_with (refine wp_loadT _ rfl rfl rfl (new_at rfl) ?_)
  with_reducible refine (HA.out _).mono ?_
  rintro e w1 ⟨rfl, hb⟩
  have K1 := Lib.hid (bstep (HK.out _) (by simp) hb)
  have T1 := Lib.hid (show w1.heap[w.heap.size]? = some (tB a b c) from tB_grow (new_at rfl) hb)
  obtain ⟨⟨c0, c1, c2, c3, c4, c5, c6⟩, ⟨c7, c8, c9, c10, c11, c12, c13⟩, ⟨c14, c15, c16, c17, c18, c19, c20⟩⟩ := tB_cell T1.out
  clear hb
  rcases HM.out with h | ⟨h, h'⟩
  · go_wp2
    go_ret
    exact ⟨by simp; omega, K1.out⟩
  · go_wp2
    refine wp_loop_rounds 4 ?_
    rw [rounds_succ]
    go_wp2
    go_still_tail 10, (by kernel_rfl)
    change wpList _ _ _ _ _ w1.drew
    go_wp2_with fail
    with_reducible refine (H1.out _).mono ?_
    rintro e w2 ⟨rfl, hb⟩
    have K2 := Lib.hid (bstep K1.out.drew K1.out.size hb)
    have T2 := Lib.hid (tB_grow (show (World.drew w1).heap[w.heap.size]? = some (tB a b c) from T1.out) hb)
    clear hb c0 c1 c2 c3 c4 c5 c6 c7 c8 c9 c10 c11 c12 c13 c14 c15 c16 c17 c18 c19 c20 T1
    obtain ⟨⟨c0, c1, c2, c3, c4, c5, c6⟩, ⟨c7, c8, c9, c10, c11, c12, c13⟩, ⟨c14, c15, c16, c17, c18, c19, c20⟩⟩ := tB_cell T2.out
    cases r1
    · go_wp2
      go_ret
      exact ⟨by simp, K2.out⟩
    go_wp2
    rw [rounds_succ]
    go_wp2
    go_still_tail 10, (by kernel_rfl)
    change wpList _ _ _ _ _ w2.drew
    go_wp2_with fail
    with_reducible refine (H2.out _).mono ?_
    rintro e w3 ⟨rfl, hb⟩
    have K3 := Lib.hid (bstep K2.out.drew K2.out.size hb)
    have T3 := Lib.hid (tB_grow (show (World.drew w2).heap[w.heap.size]? = some (tB a b c) from T2.out) hb)
    clear hb c0 c1 c2 c3 c4 c5 c6 c7 c8 c9 c10 c11 c12 c13 c14 c15 c16 c17 c18 c19 c20 T2
    obtain ⟨⟨c0, c1, c2, c3, c4, c5, c6⟩, ⟨c7, c8, c9, c10, c11, c12, c13⟩, ⟨c14, c15, c16, c17, c18, c19, c20⟩⟩ := tB_cell T3.out
    cases r2
    · go_wp2
      go_ret
      exact ⟨by simp, K3.out⟩
    go_wp2
    rw [rounds_succ]
    go_wp2
    go_still_tail 10, (by kernel_rfl)
    change wpList _ _ _ _ _ w3.drew
    go_wp2_with fail
    with_reducible refine (H3.out _).mono ?_
    rintro e w4 ⟨rfl, hb⟩
    have K4 := Lib.hid (bstep K3.out.drew K3.out.size hb)
    have T4 := Lib.hid (tB_grow (show (World.drew w3).heap[w.heap.size]? = some (tB a b c) from T3.out) hb)
    clear hb c0 c1 c2 c3 c4 c5 c6 c7 c8 c9 c10 c11 c12 c13 c14 c15 c16 c17 c18 c19 c20 T3
    obtain ⟨⟨c0, c1, c2, c3, c4, c5, c6⟩, ⟨c7, c8, c9, c10, c11, c12, c13⟩, ⟨c14, c15, c16, c17, c18, c19, c20⟩⟩ := tB_cell T4.out
    cases r3
    · go_wp2
      go_ret
      exact ⟨by simp, K4.out⟩
    go_wp2
    rw [rounds_succ]
    go_wp2
    go_ret
    exact ⟨by simp [h'], K4.out⟩
end Go.Proofs.Ytgcoggejgolhgaa
