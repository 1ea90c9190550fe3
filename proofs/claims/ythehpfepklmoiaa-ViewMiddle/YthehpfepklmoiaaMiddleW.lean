/-
  ViewMiddle's walk.
-/
import Derived.Test.YthehpfepklmoiaaPt
namespace Go.Proofs.Ythehpfepklmoiaa
open Go.RowKit
attribute [local go_sem ↓] Go.wp_at_zero Go.wp_at_succ
attribute [local go_sem high] eqlAA neqAA
attribute [local go_sem] guardA sameA_self

theorem mirror_div (t c : Int) (hc : 0 < c) : t / c + -t / c = 0 ∨ t / c + -t / c = -1 := by
  have e := Int.emod_add_mul_ediv t c
  have r0 := Int.emod_nonneg t (show c ≠ 0 by omega)
  have r1 := Int.emod_lt_of_pos t hc
  generalize t / c = q at *
  generalize t % c = r at *
  by_cases h : r = 0
  · have : -t / c = -q := div_unique hc (r := 0) (by rw [← e, h, Int.mul_neg]; omega) (by omega) hc
    omega
  · have : -t / c = -q - 1 := div_unique hc (r := c - r) (by rw [← e, Int.mul_sub, Int.mul_neg]; omega) (by omega) (by omega)
    omega
theorem mirror_x (x m c : Int) (hc : 0 < c) : along x (8 * m) c + along (-x) (8 * m) c - 16 * m = 0 ∨ along x (8 * m) c + along (-x) (8 * m) c - 16 * m = -1 := by
  unfold along
  have h := mirror_div (x * (8 * m)) c hc
  rw [show -x * (8 * m) = -(x * (8 * m)) from Int.neg_mul _ _]
  omega
theorem along_zero (m c : Int) : along 0 m c = m := by simp [along]

set_option maxRecDepth 100000 in
set_option maxHeartbeats 2000000 in
theorem middle_walk (v : V) (x y : Int) (w : World) (x0 : 0 ≤ x) (x1 : x ≤ 255) (y0 : 0 ≤ y) (y1 : y ≤ 255) :
    Calls Try.prog 5 #[.agg #[.int .u8 x, .int .u8 y], .agg #[.int .i64 v.x, .int .i64 v.y, .int .i64 v.z, .int .i64 v.w, .int .i64 v.a, .int .i64 v.b, .int .i64 v.c, .int .i64 v.d]] w fun e w' => e = .returned (.bool true) ∧ Below w.heap.size w w' := by
  have HS := Lib.hid shown_any
  have HF := Lib.hid (fit_any v)
  obtain ⟨f, hf⟩ : ∃ f, fitV v = f := ⟨_, rfl⟩
  rw [hf] at HF
  have hok : f.ok := by rw [← hf]; exact fitV_ok v
  clear hf
  obtain ⟨m, hm⟩ : ∃ m, 1 + x % 64 = m := ⟨_, rfl⟩
  obtain ⟨k, hk⟩ : ∃ k, 1 + y % 64 = k := ⟨_, rfl⟩
  have HM := Lib.hid hm
  have HK := Lib.hid hk
  have m0 : 1 ≤ m := by omega
  have m1 : m ≤ 64 := by omega
  have k0 : 1 ≤ k := by omega
  have k1 : k ≤ 64 := by omega
  clear hm hk
  obtain ⟨ox, oy, oz, ow, oa, ob, oc, od⟩ := hok
  have hok : f.ok := ⟨ox, oy, oz, ow, oa, ob, oc, od⟩
  have hok2 : V.ok ⟨-f.x, -f.y, f.z, f.w, f.a, f.b, f.c, f.d⟩ := ⟨by simp only; omega, by simp only; omega, oz, ow, oa, ob, oc, od⟩
  have hok3 : V.ok ⟨0, 0, 0, f.w, f.a, f.b, f.c, f.d⟩ := ⟨by simp only; omega, by simp only; omega, by simp only; omega, ow, oa, ob, oc, od⟩
  have P1 := Lib.hid (point_ok m k f hok (by omega) (by omega) (by omega) (by omega))
  have P2 := Lib.hid (point_ok m k _ hok2 (by omega) (by omega) (by omega) (by omega))
  have P3 := Lib.hid (point_ok m k _ hok3 (by omega) (by omega) (by omega) (by omega))
  have hx := mirror_x f.x m f.w (by omega)
  have hy := mirror_x f.y k f.w (by omega)
  obtain ⟨-, p2, p3⟩ := along_bd (n := f.x) (m := 8 * m) (c := f.w) (by omega) (by omega) (by omega) (by omega) (by omega)
  obtain ⟨-, p5, p6⟩ := along_bd (n := f.y) (m := 8 * k) (c := f.w) (by omega) (by omega) (by omega) (by omega) (by omega)
  obtain ⟨-, r2, r3⟩ := along_bd (n := -f.x) (m := 8 * m) (c := f.w) (by omega) (by omega) (by omega) (by omega) (by omega)
  obtain ⟨-, r5, r6⟩ := along_bd (n := -f.y) (m := 8 * k) (c := f.w) (by omega) (by omega) (by omega) (by omega) (by omega)
  simp only [pt, along_zero] at P1 P2 P3
  generalize along f.x (8 * m) f.w = X at *
  generalize along (-f.x) (8 * m) f.w = X' at *
  generalize along f.y (8 * k) f.w = Y at *
  generalize along (-f.y) (8 * k) f.w = Y' at *
  generalize along f.z 32768 f.w = Z at *
  have e1 : IntKind.i64.wrap (-f.x) = -f.x := by rw [IntKind.wrap_i64]; omega
  have e2 : IntKind.i64.wrap (-f.y) = -f.y := by rw [IntKind.wrap_i64]; omega
  have e3 : IntKind.i64.wrap (8 * m) = 8 * m := by rw [IntKind.wrap_i64]; omega
  have e4 : IntKind.i64.wrap (8 * k) = 8 * k := by rw [IntKind.wrap_i64]; omega
  have e5 : IntKind.i64.wrap (X + X') = X + X' := by rw [IntKind.wrap_i64]; omega
  have e6 : IntKind.i64.wrap (Y + Y') = Y + Y' := by rw [IntKind.wrap_i64]; omega
  have e7 : IntKind.i64.wrap (16 * m) = 16 * m := by rw [IntKind.wrap_i64]; omega
  have e8 : IntKind.i64.wrap (16 * k) = 16 * k := by rw [IntKind.wrap_i64]; omega
  obtain ⟨d, hd⟩ : ∃ d, X + X' - 16 * m = d := ⟨_, rfl⟩
  obtain ⟨g, hg⟩ : ∃ d, Y + Y' - 16 * k = d := ⟨_, rfl⟩
  have e9 : IntKind.i64.wrap (X + X' - 16 * m) = d := by rw [IntKind.wrap_i64]; omega
  have e10 : IntKind.i64.wrap (Y + Y' - 16 * k) = g := by rw [IntKind.wrap_i64]; omega
  rw [hd] at hx
  rw [hg] at hy
  have HX := Lib.hid hx
  have HY := Lib.hid hy
  clear hd hg hx hy p2 p3 p5 p6 r2 r3 r5 r6 hok hok2 hok3 ox oy oz ow oa ob oc od
  go_enter Try.func5, Try.ntmps5
  go_wp2_with fail
  with_reducible refine (HS.out _).mono ?_
  rintro e w1 ⟨rfl, hb⟩
  have K1 := Lib.hid (bstep (((Below.refl w.heap.size w).alloc (Nat.le_refl _) (Obj.cells #[.int .u8 x, .int .u8 y] 40)).alloc (by simp) (Obj.cells #[.int .i64 v.x, .int .i64 v.y, .int .i64 v.z, .int .i64 v.w, .int .i64 v.a, .int .i64 v.b, .int .i64 v.c, .int .i64 v.d] 27)) (by simp; omega) hb)
  obtain ⟨c0, c1, c2, c3, c4, c5, c6, c7⟩ := vB_cell (show w1.heap[w.heap.size + 1]? = some (vB 27 v) from vB_grow (new_two _ _).2 hb)
  obtain ⟨s0, s1⟩ := bB_cell (show w1.heap[w.heap.size]? = some (bB x y) from bB_grow (new_two _ _).1 hb)
  clear hb
  go_wp2_with fail
  with_reducible refine (HF.out _).mono ?_
  rintro e w2 ⟨rfl, hb⟩
  have K2 := Lib.hid (bstep K1.out K1.out.size hb)
  clear hb c0 c1 c2 c3 c4 c5 c6 c7 s0 s1
  go_wp2_with fail
  rw [HM.out, HK.out]
  with_reducible refine (P1.out _).mono ?_
  rintro e w3 ⟨rfl, hb⟩
  have K3 := Lib.hid (bstep (K2.out.alloc K2.out.size (Obj.cells #[.int .i64 f.x, .int .i64 f.y, .int .i64 f.z, .int .i64 f.w, .int .i64 f.a, .int .i64 f.b, .int .i64 f.c, .int .i64 f.d] 27)) (by have := K2.out.size; simp; omega) hb)
  have F3 : w3.heap[w2.heap.size]? = some (vB 27 f) := vB_grow (new_at rfl) hb
  obtain ⟨c0, c1, c2, c3, c4, c5, c6, c7⟩ := vB_cell F3
  have l3 := vB_lt F3
  have F3' := Lib.hid F3
  clear hb F3 HM HK
  go_wp2_with fail
  with_reducible refine (P2.out _).mono ?_
  rintro e w4 ⟨rfl, hb⟩
  have K4 := Lib.hid (bstep ((K3.out.alloc K3.out.size (Obj.cells #[.int .i64 X, .int .i64 Y, .int .i64 Z, .int .i64 f.a, .int .i64 f.b, .int .i64 f.c, .int .i64 f.d] 30)).alloc (by have := K3.out.size; simp; omega) (Obj.cells #[.int .i64 (-f.x), .int .i64 (-f.y), .int .i64 f.z, .int .i64 f.w, .int .i64 f.a, .int .i64 f.b, .int .i64 f.c, .int .i64 f.d] 27)) (by have := K3.out.size; simp; omega) hb)
  have F4 := Lib.hid (show w4.heap[w2.heap.size]? = some (vB 27 f) from vB_grow (vB_alloc _ (vB_alloc _ F3'.out)) hb)
  have Q4 := Lib.hid (show w4.heap[w3.heap.size]? = some (pB 30 ⟨X, Y, Z, f.a, f.b, f.c, f.d⟩) from pB_grow (new_two _ _).1 hb)
  clear hb c0 c1 c2 c3 c4 c5 c6 c7 F3'
  obtain ⟨c0, c1, c2, c3, c4, c5, c6, c7⟩ := vB_cell F4.out
  have l4 := vB_lt F4.out
  go_wp2_with fail
  with_reducible refine (P3.out _).mono ?_
  rintro e w5 ⟨rfl, hb⟩
  have K5 := Lib.hid (bstep (K4.out.alloc K4.out.size (Obj.cells #[.int .i64 X', .int .i64 Y', .int .i64 Z, .int .i64 f.a, .int .i64 f.b, .int .i64 f.c, .int .i64 f.d] 30)) (by have := K4.out.size; simp; omega) hb)
  have F5 := Lib.hid (show w5.heap[w2.heap.size]? = some (vB 27 f) from vB_grow (vB_alloc _ F4.out) hb)
  have Q5 := Lib.hid (show w5.heap[w3.heap.size]? = some (pB 30 ⟨X, Y, Z, f.a, f.b, f.c, f.d⟩) from pB_grow (pB_alloc _ Q4.out) hb)
  have R5 := Lib.hid (show w5.heap[w4.heap.size]? = some (pB 30 ⟨X', Y', Z, f.a, f.b, f.c, f.d⟩) from pB_grow (new_at rfl) hb)
  clear hb c0 c1 c2 c3 c4 c5 c6 c7 l4 l3
  obtain ⟨c0, c1, c2, c3, c4, c5, c6, c7⟩ := vB_cell F5.out
  obtain ⟨q0, q1, q2, q3, q4, q5, q6⟩ := pB_cell Q5.out
  obtain ⟨r0, r1, r2, r3, r4, r5, r6⟩ := pB_cell R5.out
  have l5 := vB_lt F5.out
  have l6 := pB_lt Q5.out
  have l7 := pB_lt R5.out
  rcases HX.out with rfl | rfl
  · rcases HY.out with rfl | rfl
    · go_wp2
      go_ret
      exact ⟨rfl, K5.out.alloc K5.out.size _⟩
    · go_wp2
      go_ret
      exact ⟨rfl, K5.out.alloc K5.out.size _⟩
  · rcases HY.out with rfl | rfl
    · go_wp2
      go_ret
      exact ⟨rfl, K5.out.alloc K5.out.size _⟩
    · go_wp2
      go_ret
      exact ⟨rfl, K5.out.alloc K5.out.size _⟩
end Go.Proofs.Ythehpfepklmoiaa
