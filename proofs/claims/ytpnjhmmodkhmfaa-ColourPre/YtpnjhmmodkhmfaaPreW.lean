/-
  The walk of glazierlaw02.ColourPre.
-/
import Derived.Test.YtpnjhmmodkhmfaaGrow
import Derived.Test.YtpnjhmmodkhmfaaOvr
namespace Go.Proofs.Ytpnjhmmodkhmfaa
open Go.RowKit
attribute [local go_sem ↓] Go.wp_at_zero Go.wp_at_succ

theorem mul_mono {x a m : Int} (h0 : 0 ≤ x) (h : a ≤ m) : x * a ≤ x * m := Int.mul_le_mul_of_nonneg_left h h0
theorem dv_le {x a : Int} (h0 : 0 ≤ x) (k1 : a ≤ 255) : dv (x * a) ≤ x := by
  have := mul_mono h0 k1
  unfold dv
  omega
theorem dv_mono {m n : Int} (h : m ≤ n) : dv m ≤ dv n := by unfold dv; omega
theorem dv_255 (x : Int) : dv (x * 255) = x := by unfold dv; omega
theorem dv_0 (x : Int) : dv (x * 0) = 0 := by unfold dv; simp

theorem pre_whole (r g b : Int) (w : World) (r0 : 0 ≤ r) (r1 : r ≤ 255) (g0 : 0 ≤ g) (g1 : g ≤ 255) (b0 : 0 ≤ b) (b1 : b ≤ 255) :
    Calls Try.prog 13 #[.agg #[.int .u8 r, .int .u8 g, .int .u8 b, .int .u8 255]] w fun e w' => e = .returned (.agg #[.int .u8 r, .int .u8 g, .int .u8 b, .int .u8 255]) ∧ Below w.heap.size w w' := by
  have h := pre_any r g b 255 w r0 r1 g0 g1 b0 b1 (by decide) (by decide)
  rw [dv_255, dv_255, dv_255] at h
  exact h
theorem pre_none (r g b : Int) (w : World) (r0 : 0 ≤ r) (r1 : r ≤ 255) (g0 : 0 ≤ g) (g1 : g ≤ 255) (b0 : 0 ≤ b) (b1 : b ≤ 255) :
    Calls Try.prog 13 #[.agg #[.int .u8 r, .int .u8 g, .int .u8 b, .int .u8 0]] w fun e w' => e = .returned (.agg #[.int .u8 0, .int .u8 0, .int .u8 0, .int .u8 0]) ∧ Below w.heap.size w w' := by
  have h := pre_any r g b 0 w r0 r1 g0 g1 b0 b1 (by decide) (by decide)
  rw [dv_0, dv_0, dv_0] at h
  exact h

set_option maxHeartbeats 4000000 in
theorem colourPre_walk (r g b a m : Int) (w : World) (r0 : 0 ≤ r) (r1 : r ≤ 255) (g0 : 0 ≤ g) (g1 : g ≤ 255) (b0 : 0 ≤ b) (b1 : b ≤ 255) (a0 : 0 ≤ a) (a1 : a ≤ 255) (m0 : 0 ≤ m) (m1 : m ≤ 255) :
    Calls Try.prog 8 #[.agg #[.int .u8 r, .int .u8 g, .int .u8 b, .int .u8 a], .int .u8 m] w fun e w' => e = .returned (.bool true) ∧ Below w.heap.size w w' := by
  have key : ∃ t : Int, (if a < m then m else a) = t ∧ 0 ≤ t ∧ t ≤ 255 ∧ a ≤ t := by
    refine ⟨_, rfl, ?_, ?_, ?_⟩ <;> split <;> omega
  go_enter Try.func8, Try.ntmps8
  go_wp2_with fail
  refine (shown_any _).mono ?_
  rintro e w1 ⟨rfl, hb1⟩
  have hc10 : w1.cell? ⟨w.heap.size, 0, none⟩ = some (.int .u8 r) := by rw [hb1.cell (by simp)]; simp [go_sem]
  have hc11 : w1.cell? ⟨w.heap.size, 1, none⟩ = some (.int .u8 g) := by rw [hb1.cell (by simp)]; simp [go_sem]
  have hc12 : w1.cell? ⟨w.heap.size, 2, none⟩ = some (.int .u8 b) := by rw [hb1.cell (by simp)]; simp [go_sem]
  have hc13 : w1.cell? ⟨w.heap.size, 3, none⟩ = some (.int .u8 a) := by rw [hb1.cell (by simp)]; simp [go_sem]
  have HB1 := Lib.hid hb1
  clear hb1
  go_wp2_with fail
  refine (pre_any r g b a _ r0 r1 g0 g1 b0 b1 a0 a1).mono ?_
  rintro e w2 ⟨rfl, hb2⟩
  have L1 := World.block_lt_of_cell? _ _ hc10
  rw [← hb2.cell (by exact L1)] at hc10 hc11 hc12 hc13
  have hz2 : w.heap.size < w2.heap.size := Nat.lt_of_lt_of_le L1 hb2.size
  have hz21 : w.heap.size < w2.heap.size + 1 := by omega
  have hz22 : w.heap.size < w2.heap.size + 1 + 1 := by omega
  have hz23 : w.heap.size < w2.heap.size + 1 + 1 + 1 := by omega
  have HB2 := Lib.hid hb2
  clear hb2 L1
  obtain ⟨t, ht, t0, t1, t2⟩ := key
  go_wp2_with fail
  refine (pre_any r g b t _ r0 r1 g0 g1 b0 b1 t0 t1).mono ?_
  rintro e w3 ⟨rfl, hb3⟩
  have kc0 : w3.cell? ⟨w.heap.size, 0, none⟩ = some (.int .u8 r) := by rw [hb3.cell (by simp <;> omega)]; simp [go_sem, *]
  have kc1 : w3.cell? ⟨w.heap.size, 1, none⟩ = some (.int .u8 g) := by rw [hb3.cell (by simp <;> omega)]; simp [go_sem, *]
  have kc2 : w3.cell? ⟨w.heap.size, 2, none⟩ = some (.int .u8 b) := by rw [hb3.cell (by simp <;> omega)]; simp [go_sem, *]
  have kp0 : w3.cell? ⟨w2.heap.size, 0, none⟩ = some (.int .u8 (dv (r * a))) := by rw [hb3.cell (by simp <;> omega)]; simp [go_sem, *]
  have kp1 : w3.cell? ⟨w2.heap.size, 1, none⟩ = some (.int .u8 (dv (g * a))) := by rw [hb3.cell (by simp <;> omega)]; simp [go_sem, *]
  have kp2 : w3.cell? ⟨w2.heap.size, 2, none⟩ = some (.int .u8 (dv (b * a))) := by rw [hb3.cell (by simp <;> omega)]; simp [go_sem, *]
  have kh0 : w3.cell? ⟨w2.heap.size + 1, 0, none⟩ = some (.int .u8 r) := by rw [hb3.cell (by simp <;> omega)]; simp [go_sem, *]
  have kh1 : w3.cell? ⟨w2.heap.size + 1, 1, none⟩ = some (.int .u8 g) := by rw [hb3.cell (by simp <;> omega)]; simp [go_sem, *]
  have kh2 : w3.cell? ⟨w2.heap.size + 1, 2, none⟩ = some (.int .u8 b) := by rw [hb3.cell (by simp <;> omega)]; simp [go_sem, *]
  have kh3 : w3.cell? ⟨w2.heap.size + 1, 3, none⟩ = some (.int .u8 255) := by rw [hb3.cell (by simp <;> omega)]; simp [go_sem, *]
  have kn0 : w3.cell? ⟨w2.heap.size + 1 + 1, 0, none⟩ = some (.int .u8 r) := by rw [hb3.cell (by simp <;> omega)]; simp [go_sem, *]
  have kn1 : w3.cell? ⟨w2.heap.size + 1 + 1, 1, none⟩ = some (.int .u8 g) := by rw [hb3.cell (by simp <;> omega)]; simp [go_sem, *]
  have kn2 : w3.cell? ⟨w2.heap.size + 1 + 1, 2, none⟩ = some (.int .u8 b) := by rw [hb3.cell (by simp <;> omega)]; simp [go_sem, *]
  have kn3 : w3.cell? ⟨w2.heap.size + 1 + 1, 3, none⟩ = some (.int .u8 0) := by rw [hb3.cell (by simp <;> omega)]; simp [go_sem, *]
  have hz3 : w2.heap.size + 1 + 1 + 1 < w3.heap.size := by have := hb3.size; simp at this; omega
  have HB3 := Lib.hid hb3
  clear hb3 ht hc10 hc11 hc12 hc13
  go_wp2_with fail
  have hW : ∃ W, W = (w3.alloc (Obj.cells #[Value.int IntKind.u8 (dv (r * t)), Value.int IntKind.u8 (dv (g * t)), Value.int IntKind.u8 (dv (b * t)), Value.int IntKind.u8 t] 23)) := ⟨_, rfl⟩
  obtain ⟨W, hW⟩ := hW
  rw [← hW]
  have hz30 : w.heap.size < w3.heap.size := by omega
  have hz31 : w2.heap.size < w3.heap.size := by omega
  have hz32 : w2.heap.size + 1 < w3.heap.size := by omega
  have hz33 : w2.heap.size + 1 + 1 < w3.heap.size := by omega
  have gc0 : ∀ x : Grow W, x.w.cell? ⟨w.heap.size, 0, none⟩ = some (.int .u8 r) := fun x => x.cell (by rw [hW]; simp [go_sem, *])
  have gc1 : ∀ x : Grow W, x.w.cell? ⟨w.heap.size, 1, none⟩ = some (.int .u8 g) := fun x => x.cell (by rw [hW]; simp [go_sem, *])
  have gc2 : ∀ x : Grow W, x.w.cell? ⟨w.heap.size, 2, none⟩ = some (.int .u8 b) := fun x => x.cell (by rw [hW]; simp [go_sem, *])
  have gp0 : ∀ x : Grow W, x.w.cell? ⟨w2.heap.size, 0, none⟩ = some (.int .u8 (dv (r * a))) := fun x => x.cell (by rw [hW]; simp [go_sem, *])
  have gp1 : ∀ x : Grow W, x.w.cell? ⟨w2.heap.size, 1, none⟩ = some (.int .u8 (dv (g * a))) := fun x => x.cell (by rw [hW]; simp [go_sem, *])
  have gp2 : ∀ x : Grow W, x.w.cell? ⟨w2.heap.size, 2, none⟩ = some (.int .u8 (dv (b * a))) := fun x => x.cell (by rw [hW]; simp [go_sem, *])
  have gh0 : ∀ x : Grow W, x.w.cell? ⟨w2.heap.size + 1, 0, none⟩ = some (.int .u8 r) := fun x => x.cell (by rw [hW]; simp [go_sem, *])
  have gh1 : ∀ x : Grow W, x.w.cell? ⟨w2.heap.size + 1, 1, none⟩ = some (.int .u8 g) := fun x => x.cell (by rw [hW]; simp [go_sem, *])
  have gh2 : ∀ x : Grow W, x.w.cell? ⟨w2.heap.size + 1, 2, none⟩ = some (.int .u8 b) := fun x => x.cell (by rw [hW]; simp [go_sem, *])
  have gh3 : ∀ x : Grow W, x.w.cell? ⟨w2.heap.size + 1, 3, none⟩ = some (.int .u8 255) := fun x => x.cell (by rw [hW]; simp [go_sem, *])
  have gn0 : ∀ x : Grow W, x.w.cell? ⟨w2.heap.size + 1 + 1, 0, none⟩ = some (.int .u8 r) := fun x => x.cell (by rw [hW]; simp [go_sem, *])
  have gn1 : ∀ x : Grow W, x.w.cell? ⟨w2.heap.size + 1 + 1, 1, none⟩ = some (.int .u8 g) := fun x => x.cell (by rw [hW]; simp [go_sem, *])
  have gn2 : ∀ x : Grow W, x.w.cell? ⟨w2.heap.size + 1 + 1, 2, none⟩ = some (.int .u8 b) := fun x => x.cell (by rw [hW]; simp [go_sem, *])
  have gn3 : ∀ x : Grow W, x.w.cell? ⟨w2.heap.size + 1 + 1, 3, none⟩ = some (.int .u8 0) := fun x => x.cell (by rw [hW]; simp [go_sem, *])
  have gq0 : ∀ x : Grow W, x.w.cell? ⟨w3.heap.size, 0, none⟩ = some (.int .u8 (dv (r * t))) := fun x => x.cell (by rw [hW]; simp [go_sem])
  have gq1 : ∀ x : Grow W, x.w.cell? ⟨w3.heap.size, 1, none⟩ = some (.int .u8 (dv (g * t))) := fun x => x.cell (by rw [hW]; simp [go_sem])
  have gq2 : ∀ x : Grow W, x.w.cell? ⟨w3.heap.size, 2, none⟩ = some (.int .u8 (dv (b * t))) := fun x => x.cell (by rw [hW]; simp [go_sem])
  have HW := Lib.hid hW
  clear hW hz30 hz31 hz32 hz33 hz2 hz21 hz22 hz23 hz3 kc0 kc1 kc2 kp0 kp1 kp2 kh0 kh1 kh2 kh3 kn0 kn1 kn2 kn3
  have l0 : dv (r * a) ≤ r := dv_le r0 a1
  have l1 : dv (g * a) ≤ g := dv_le g0 a1
  have l2 : dv (b * a) ≤ b := dv_le b0 a1
  have l3 : dv (r * a) ≤ dv (r * t) := dv_mono (mul_mono r0 t2)
  have l4 : dv (g * a) ≤ dv (g * t) := dv_mono (mul_mono g0 t2)
  have l5 : dv (b * a) ≤ dv (b * t) := dv_mono (mul_mono b0 t2)
  have ne := Grow.ne W
  refine wp_region_grow (by kernel_rfl) (by kernel_rfl) ?_
  repeat (go_big_quiet_step ((go_at_call 13; first | with_reducible exact Grow.calls (pre_whole r g b _ r0 r1 g0 g1 b0 b1) | with_reducible exact Grow.calls (pre_none r g b _ r0 r1 g0 g1 b0 b1))))
  refine wpQuiet_nil ?_
  rintro _ ⟨x, rfl⟩
  go_wp2
  go_ret
  refine ⟨rfl, ?_⟩
  have hW := HW.out
  have h1 := ((Below.refl w.heap.size w).alloc (Nat.le_refl _) _).trans (HB1.out.mono (by simp))
  have h2 := bstep h1 h1.size HB2.out
  have h3 := bstep ((((h2.alloc h2.size _).alloc (by simp; have := h2.size; omega) _).alloc (by simp; have := h2.size; omega) _).alloc (by simp; have := h2.size; omega) _) (by simp; have := h2.size; omega) HB3.out
  have h4 : Below w.heap.size w W := by rw [hW]; exact h3.alloc h3.size _
  exact bstep h4 h4.size x.below
end Go.Proofs.Ytpnjhmmodkhmfaa
