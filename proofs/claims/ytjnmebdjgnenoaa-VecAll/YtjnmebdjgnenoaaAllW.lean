/-
  The walk of glazierlaw04.VecAll.
-/
import Derived.Test.YtjnmebdjgnenoaaRefC
namespace Go.Proofs.Ytjnmebdjgnenoaa
open Go.RowKit
attribute [local go_sem ↓] Go.wp_at_zero Go.wp_at_succ
attribute [local go_sem high] eql36 eql24
attribute [local go_sem] guard36 guard24

set_option maxHeartbeats 16000000 in
theorem all_core (v a b A B Q : V) (p D : Int) (g rv ra : Bool) (w : World) (hA : smallV a = A) (hB : smallV b = B) (hrv : rightB v = rv) (hra : rightB A = ra) (hD : dist p A = D)
    (hBT : ∀ w, Calls Try.prog 11 #[.agg #[.int .i64 A.x, .int .i64 A.y, .int .i64 A.z, .int .i64 A.w, .int .i64 A.a, .int .i64 A.b, .int .i64 A.c, .int .i64 A.d], .agg #[.int .i64 B.x, .int .i64 B.y, .int .i64 B.z, .int .i64 B.w, .int .i64 B.a, .int .i64 B.b, .int .i64 B.c, .int .i64 B.d], .int .i64 p] w fun e w' => e = .returned (.tuple #[.agg #[.int .i64 Q.x, .int .i64 Q.y, .int .i64 Q.z, .int .i64 Q.w, .int .i64 Q.a, .int .i64 Q.b, .int .i64 Q.c, .int .i64 Q.d], .bool g]) ∧ Below w.heap.size w w')
    (hRB : ∀ w, Calls Try.prog 12 #[.agg #[.int .i64 A.x, .int .i64 A.y, .int .i64 A.z, .int .i64 A.w, .int .i64 A.a, .int .i64 A.b, .int .i64 A.c, .int .i64 A.d], .agg #[.int .i64 B.x, .int .i64 B.y, .int .i64 B.z, .int .i64 B.w, .int .i64 B.a, .int .i64 B.b, .int .i64 B.c, .int .i64 B.d], .int .i64 p] w fun e w' => e = .returned (.tuple #[.agg #[.int .i64 Q.x, .int .i64 Q.y, .int .i64 Q.z, .int .i64 Q.w, .int .i64 Q.a, .int .i64 Q.b, .int .i64 Q.c, .int .i64 Q.d], .bool g]) ∧ Below w.heap.size w w') :
    Calls Try.prog 3 #[.agg #[.int .i64 v.x, .int .i64 v.y, .int .i64 v.z, .int .i64 v.w, .int .i64 v.a, .int .i64 v.b, .int .i64 v.c, .int .i64 v.d], .agg #[.int .i64 a.x, .int .i64 a.y, .int .i64 a.z, .int .i64 a.w, .int .i64 a.a, .int .i64 a.b, .int .i64 a.c, .int .i64 a.d, .int .i64 b.x, .int .i64 b.y, .int .i64 b.z, .int .i64 b.w, .int .i64 b.a, .int .i64 b.b, .int .i64 b.c, .int .i64 b.d], .int .i64 p] w fun e w' => e = .returned (.bool true) ∧ Below w.heap.size w w' := by
  have HS := Lib.hid shown_any
  have HFa := Lib.hid (small_any a)
  have HFb := Lib.hid (small_any b)
  rw [hA] at HFa
  rw [hB] at HFb
  have smA : A.sm := by rw [← hA]; exact smallV_sm a
  have R1 := Lib.hid (right_any v)
  have R2 := Lib.hid (rright_any v)
  have R3 := Lib.hid (right_any A)
  have R4 := Lib.hid (rright_any A)
  rw [hrv] at R1 R2
  rw [hra] at R3 R4
  have D1 := Lib.hid (dist8 p A.x A.y A.z A.w A.a A.b A.c A.d D smA hD)
  have D2 := Lib.hid (rdist_any p A smA D hD)
  have BT := Lib.hid hBT
  have RB := Lib.hid hRB
  clear hA hB hrv hra hD hBT hRB smA
  go_enter Try.func3, Try.ntmps3
  go_wp2_with fail
  with_reducible refine (HS.out _).mono ?_
  rintro e w1 ⟨rfl, hb⟩
  have k1 := ((Below.refl w.heap.size w).alloc (Nat.le_refl _) (vB 24 v)).alloc (by simp) (v2B a b)
  have K1 := Lib.hid (bstep k1 k1.size hb)
  have V1 := Lib.hid (show w1.heap[w.heap.size]? = some (vB 24 v) from vB_grow (vB_alloc _ (new_at rfl)) hb)
  have L1 := Lib.hid (show w1.heap[w.heap.size + 1]? = some (v2B a b) from v2B_grow (new_at (by simp)) hb)
  clear hb k1
  obtain ⟨c0, c1, c2, c3, c4, c5, c6, c7, c8, c9, c10, c11, c12, c13, c14, c15⟩ := v2B_cell L1.out
  go_wp2_with fail
  with_reducible refine (HFa.out _).mono ?_
  rintro e w2 ⟨rfl, hb⟩
  have L2 := Lib.hid (v2B_grow L1.out hb)
  have V2 := Lib.hid (vB_grow V1.out hb)
  have l2 := v2B_lt L2.out
  have K2 := Lib.hid (bstep K1.out K1.out.size hb)
  clear hb L1 V1 K1 c0 c1 c2 c3 c4 c5 c6 c7 c8 c9 c10 c11 c12 c13 c14 c15
  obtain ⟨c0, c1, c2, c3, c4, c5, c6, c7, c8, c9, c10, c11, c12, c13, c14, c15⟩ := v2B_cell L2.out
  go_wp2_with fail
  with_reducible refine (HFb.out _).mono ?_
  rintro e w3 ⟨rfl, hb⟩
  have k3 := K2.out.alloc K2.out.size (vB 24 A)
  have A3 := Lib.hid (show w3.heap[w2.heap.size]? = some (vB 24 A) from vB_grow (new_at rfl) hb)
  have V3 := Lib.hid (vB_grow (vB_alloc (vB 24 A) V2.out) hb)
  have K3 := Lib.hid (bstep k3 k3.size hb)
  have l3 := vB_lt A3.out
  clear hb L2 V2 k3 K2 c0 c1 c2 c3 c4 c5 c6 c7 c8 c9 c10 c11 c12 c13 c14 c15
  obtain ⟨c0, c1, c2, c3, c4, c5, c6, c7⟩ := vB_cell A3.out
  go_wp2_with fail
  with_reducible refine (BT.out _).mono ?_
  rintro e w4 ⟨rfl, hb⟩
  have k4 := K3.out.alloc K3.out.size (vB 24 B)
  have A4 := Lib.hid (vB_grow (vB_alloc (vB 24 B) A3.out) hb)
  have V4 := Lib.hid (vB_grow (vB_alloc (vB 24 B) V3.out) hb)
  have B4 := Lib.hid (show w4.heap[w3.heap.size]? = some (vB 24 B) from vB_grow (new_at rfl) hb)
  have K4 := Lib.hid (bstep k4 k4.size hb)
  have l4 := vB_lt A4.out
  have l4' := vB_lt B4.out
  clear hb A3 V3 k4 K3 c0 c1 c2 c3 c4 c5 c6 c7
  obtain ⟨c0, c1, c2, c3, c4, c5, c6, c7⟩ := vB_cell A4.out
  obtain ⟨d0, d1, d2, d3, d4, d5, d6, d7⟩ := vB_cell B4.out
  go_wp2_with fail
  with_reducible refine (RB.out _).mono ?_
  rintro e w5 ⟨rfl, hb⟩
  have k5 := K4.out.alloc K4.out.size (vB 24 Q)
  have A5 := Lib.hid (vB_grow (vB_alloc (vB 24 Q) A4.out) hb)
  have V5 := Lib.hid (vB_grow (vB_alloc (vB 24 Q) V4.out) hb)
  have Q5 := Lib.hid (show w5.heap[w4.heap.size]? = some (vB 24 Q) from vB_grow (new_at rfl) hb)
  have K5 := Lib.hid (bstep k5 k5.size hb)
  clear hb A4 V4 B4 k5 K4 c0 c1 c2 c3 c4 c5 c6 c7 d0 d1 d2 d3 d4 d5 d6 d7
  go_wp2
  obtain ⟨W, hW⟩ : ∃ W, W = w5.alloc (vB 24 Q) := ⟨_, rfl⟩
  change Code.wp _ _ _ _ (w5.alloc (vB 24 Q))
  rw [← hW]
  have KW := Lib.hid (show Below w.heap.size w W by rw [hW]; exact K5.out.alloc K5.out.size _)
  have gv := fun x : Grow W => vB_cell (vB_grow (show W.heap[w.heap.size]? = some (vB 24 v) by rw [hW]; exact vB_alloc _ V5.out) x.below)
  have ga := fun x : Grow W => vB_cell (vB_grow (show W.heap[w2.heap.size]? = some (vB 24 A) by rw [hW]; exact vB_alloc _ A5.out) x.below)
  have gq := fun x : Grow W => vB_cell (vB_grow (show W.heap[w4.heap.size]? = some (vB 24 Q) by rw [hW]; exact vB_alloc _ Q5.out) x.below)
  have gr := fun x : Grow W => vB_cell (vB_grow (show W.heap[w5.heap.size]? = some (vB 24 Q) by rw [hW]; exact new_at rfl) x.below)
  have sQ : sameV ⟨Q.x, Q.y, Q.z, Q.w, Q.a, Q.b, Q.c, Q.d⟩ ⟨Q.x, Q.y, Q.z, Q.w, Q.a, Q.b, Q.c, Q.d⟩ = true := sameV_self _
  have sQ' : sameV Q Q = true := sameV_self _
  clear hW
  have ne1 := Grow.ne W
  refine wp_region_grow (by kernel_rfl) (by kernel_rfl) ?_
  repeat (go_big_quiet_step (first
    | (go_at_call 13; with_reducible first | exact Grow.calls (R1.out _) | exact Grow.calls (R3.out _))
    | (go_at_call 14; with_reducible first | exact Grow.calls (R2.out _) | exact Grow.calls (R4.out _))
    | (go_at_call 15; with_reducible exact Grow.calls (D1.out _))
    | (go_at_call 16; with_reducible exact Grow.calls (D2.out _))))
  refine wpQuiet_nil ?_
  rintro _ ⟨x, rfl⟩
  go_wp2
  go_ret
  exact ⟨rfl, bstep KW.out KW.out.size x.below⟩

theorem all_walk (v a b : V) (p : Int) (w : World) :
    Calls Try.prog 3 #[.agg #[.int .i64 v.x, .int .i64 v.y, .int .i64 v.z, .int .i64 v.w, .int .i64 v.a, .int .i64 v.b, .int .i64 v.c, .int .i64 v.d], .agg #[.int .i64 a.x, .int .i64 a.y, .int .i64 a.z, .int .i64 a.w, .int .i64 a.a, .int .i64 a.b, .int .i64 a.c, .int .i64 a.d, .int .i64 b.x, .int .i64 b.y, .int .i64 b.z, .int .i64 b.w, .int .i64 b.a, .int .i64 b.b, .int .i64 b.c, .int .i64 b.d], .int .i64 p] w fun e w' => e = .returned (.bool true) ∧ Below w.heap.size w w' := by
  have smA := smallV_sm a
  have smB := smallV_sm b
  by_cases h : 0 ≤ dist p (smallV a) ∧ dist p (smallV b) < 0
  · exact all_core v a b (smallV a) (smallV b) _ p _ true _ _ w rfl rfl rfl rfl rfl
      (between_core (smallV a) (smallV b) _ p _ _ _ smA smB rfl rfl rfl rfl h.1 h.2) (rbetween_core (smallV a) (smallV b) _ p _ _ _ smA smB rfl rfl rfl rfl h.1 h.2)
  · exact all_core v a b (smallV a) (smallV b) ⟨0, 0, 0, 0, 0, 0, 0, 0⟩ p _ false _ _ w rfl rfl rfl rfl rfl
      (between_no (smallV a) (smallV b) p smA smB h) (rbetween_no (smallV a) (smallV b) p _ _ smA smB rfl rfl h)
end Go.Proofs.Ytjnmebdjgnenoaa
