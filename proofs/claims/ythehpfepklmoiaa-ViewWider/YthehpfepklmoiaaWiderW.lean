/-
  ViewWider's walk.
-/
import Derived.Test.YthehpfepklmoiaaPt
namespace Go.Proofs.Ythehpfepklmoiaa
open Go.RowKit
attribute [local go_sem ↓] Go.wp_at_zero Go.wp_at_succ
attribute [local go_sem high] eqlAA
attribute [local go_sem] guardA sameA_self

theorem twice_div (t c : Int) (hc : 0 < c) : 2 * t / c - 2 * (t / c) = 0 ∨ 2 * t / c - 2 * (t / c) = 1 := by
  have e := Int.emod_add_mul_ediv t c
  have r0 := Int.emod_nonneg t (show c ≠ 0 by omega)
  have r1 := Int.emod_lt_of_pos t hc
  generalize t / c = q at *
  generalize t % c = r at *
  rcases (show 2 * r < c ∨ c ≤ 2 * r by omega) with h | h
  · have : 2 * t / c = 2 * q := div_unique hc (r := 2 * r) (by rw [← e, Int.mul_add, ← Int.mul_assoc, ← Int.mul_assoc, Int.mul_comm 2 c]) (by omega) h
    omega
  · have : 2 * t / c = 2 * q + 1 := div_unique hc (r := 2 * r - c) (by rw [← e, Int.mul_add, Int.mul_add, ← Int.mul_assoc, ← Int.mul_assoc, Int.mul_comm 2 c]; omega) (by omega) (by omega)
    omega
theorem wider_x (x m c : Int) (hc : 0 < c) : along x (8 * (2 * m)) c - 2 * along x (8 * m) c = 0 ∨ along x (8 * (2 * m)) c - 2 * along x (8 * m) c = 1 := by
  unfold along
  have h := twice_div (x * (8 * m)) c hc
  have e : x * (8 * (2 * m)) = 2 * (x * (8 * m)) := by
    rw [show 8 * (2 * m) = 2 * (8 * m) by omega, ← Int.mul_assoc, Int.mul_comm x 2, Int.mul_assoc]
  rw [e]
  omega

set_option maxRecDepth 100000 in
set_option maxHeartbeats 1000000 in
theorem wider_walk (v : V) (x y : Int) (w : World) (x0 : 0 ≤ x) (x1 : x ≤ 255) (y0 : 0 ≤ y) (y1 : y ≤ 255) :
    Calls Try.prog 7 #[.agg #[.int .i64 v.x, .int .i64 v.y, .int .i64 v.z, .int .i64 v.w, .int .i64 v.a, .int .i64 v.b, .int .i64 v.c, .int .i64 v.d], .agg #[.int .u8 x, .int .u8 y]] w fun e w' => e = .returned (.bool true) ∧ Below w.heap.size w w' := by
  have HS := Lib.hid shown_any
  have HF := Lib.hid (fit_any v)
  obtain ⟨f, hf⟩ : ∃ f, fitV v = f := ⟨_, rfl⟩
  rw [hf] at HF
  have hok : f.ok := by rw [← hf]; exact fitV_ok v
  clear hf
  obtain ⟨m, hm⟩ : ∃ m, 1 + x % 32 = m := ⟨_, rfl⟩
  obtain ⟨k, hk⟩ : ∃ k, 1 + y % 32 = k := ⟨_, rfl⟩
  have HM := Lib.hid hm
  have HK := Lib.hid hk
  have m0 : 1 ≤ m := by omega
  have m1 : m ≤ 32 := by omega
  have k0 : 1 ≤ k := by omega
  have k1 : k ≤ 32 := by omega
  clear hm hk
  have P1 := Lib.hid (point_ok m k f hok (by omega) (by omega) (by omega) (by omega))
  have P2 := Lib.hid (point_ok (2 * m) k f hok (by omega) (by omega) (by omega) (by omega))
  have e2 : IntKind.i64.wrap (2 * m) = 2 * m := by rw [IntKind.wrap_i64]; omega
  have hd := wider_x f.x m f.w (by have := hok.w.1; omega)
  obtain ⟨-, p2, p3⟩ := along_bd (n := f.x) (m := 8 * m) (c := f.w) hok.sm.x.1 hok.sm.x.2 (by omega) (by omega) (by have := hok.w.1; omega)
  obtain ⟨-, p5, p6⟩ := along_bd (n := f.x) (m := 8 * (2 * m)) (c := f.w) hok.sm.x.1 hok.sm.x.2 (by omega) (by omega) (by have := hok.w.1; omega)
  simp only [pt] at P1 P2
  generalize along f.x (8 * m) f.w = X at *
  generalize along f.x (8 * (2 * m)) f.w = X' at *
  generalize along f.y (8 * k) f.w = Y at *
  generalize along f.z 32768 f.w = Z at *
  have e3 : IntKind.i64.wrap (2 * X) = 2 * X := by rw [IntKind.wrap_i64]; omega
  obtain ⟨d, hd'⟩ : ∃ d, X' - 2 * X = d := ⟨_, rfl⟩
  have e4 : IntKind.i64.wrap (X' - 2 * X) = d := by rw [IntKind.wrap_i64]; omega
  rw [hd'] at hd
  have HD := Lib.hid hd
  clear hd hd' p2 p3 p5 p6 hok
  go_enter Try.func7, Try.ntmps7
  go_wp2_with fail
  with_reducible refine (HS.out _).mono ?_
  rintro e w1 ⟨rfl, hb⟩
  have K1 := Lib.hid (bstep (((Below.refl w.heap.size w).alloc (Nat.le_refl _) (Obj.cells #[.int .i64 v.x, .int .i64 v.y, .int .i64 v.z, .int .i64 v.w, .int .i64 v.a, .int .i64 v.b, .int .i64 v.c, .int .i64 v.d] 27)).alloc (by simp) (Obj.cells #[.int .u8 x, .int .u8 y] 40)) (by simp; omega) hb)
  obtain ⟨c0, c1, c2, c3, c4, c5, c6, c7⟩ := vB_cell (show w1.heap[w.heap.size]? = some (vB 27 v) from vB_grow (new_two _ _).1 hb)
  obtain ⟨s0, s1⟩ := bB_cell (show w1.heap[w.heap.size + 1]? = some (bB x y) from bB_grow (new_two _ _).2 hb)
  clear hb
  go_wp2_with fail
  with_reducible refine (HF.out _).mono ?_
  rintro e w2 ⟨rfl, hb⟩
  have K2 := Lib.hid (bstep K1.out K1.out.size hb)
  clear hb c0 c1 c2 c3 c4 c5 c6 c7 s0 s1
  go_wp2_with fail
  rw [HM.out, HK.out]
  with_reducible refine (P1.out _).mono ?_
  rintro e w3 ⟨rfl, hb⟩
  have K3 := Lib.hid (bstep (K2.out.alloc K2.out.size (Obj.cells #[.int .i64 f.x, .int .i64 f.y, .int .i64 f.z, .int .i64 f.w, .int .i64 f.a, .int .i64 f.b, .int .i64 f.c, .int .i64 f.d] 27)) (by have := K2.out.size; simp; omega) hb)
  have F3 : w3.heap[w2.heap.size]? = some (vB 27 f) := vB_grow (new_at rfl) hb
  obtain ⟨c0, c1, c2, c3, c4, c5, c6, c7⟩ := vB_cell F3
  have l3 := vB_lt F3
  clear hb F3 HM HK
  go_wp2_with fail
  with_reducible refine (P2.out _).mono ?_
  rintro e w4 ⟨rfl, hb⟩
  have K4 := Lib.hid (bstep (K3.out.alloc K3.out.size (Obj.cells #[.int .i64 X, .int .i64 Y, .int .i64 Z, .int .i64 f.a, .int .i64 f.b, .int .i64 f.c, .int .i64 f.d] 30)) (by have := K3.out.size; simp; omega) hb)
  have Q4 : w4.heap[w3.heap.size]? = some (pB 30 ⟨X, Y, Z, f.a, f.b, f.c, f.d⟩) := pB_grow (new_at rfl) hb
  have l4 := pB_lt Q4
  obtain ⟨q0, q1, q2, q3, q4, q5, q6⟩ := pB_cell Q4
  clear hb Q4 c0 c1 c2 c3 c4 c5 c6 c7
  rcases HD.out with rfl | rfl
  · go_wp2
    go_ret
    exact ⟨rfl, K4.out.alloc K4.out.size _⟩
  · go_wp2
    go_ret
    exact ⟨rfl, K4.out.alloc K4.out.size _⟩
end Go.Proofs.Ythehpfepklmoiaa
