/-
  What a reader reads: a colour, a vertex, an instruction, a triangle.
-/
import Derived.Test.YtfmmfaeognoleaaGreatM7
namespace Go.Proofs.YtfmmfaeognoleaaGreat
open Go.RowKit
attribute [local go_sem ↓] Go.wp_at_zero Go.wp_at_succ

set_option maxRecDepth 100000 in
set_option maxHeartbeats 1000000 in
theorem rcol_any {p : Nat} {s : St} (w : World) (h : Rd w p s) :
    Calls Tryz.prog 93 #[.pointer (some ⟨p, 0, none⟩)] w (Reads p (.agg #[.int .u8 (rC s).1.r, .int .u8 (rC s).1.g, .int .u8 (rC s).1.b, .int .u8 (rC s).1.a]) (rC s).2 w) := by
  have hp := h.lt
  have H0 := Lib.hid (show Rd (w.alloc (.cells #[.int .u8 0, .int .u8 0, .int .u8 0, .int .u8 0] 23)) p s from h.alloc _)
  have HB0 := Lib.hid (show But p w (w.alloc (.cells #[.int .u8 0, .int .u8 0, .int .u8 0, .int .u8 0] 23)) from (But.refl p w).alloc hp _)
  have HG0 := Lib.hid (show (w.alloc (.cells #[.int .u8 0, .int .u8 0, .int .u8 0, .int .u8 0] 23)).heap[w.heap.size]? = some (.cells #[.int .u8 0, .int .u8 0, .int .u8 0, .int .u8 0] 23 (0, 0)) from heap_alloc_new _ _)
  have HZ0 := Lib.hid (show w.heap.size < (w.alloc (.cells #[.int .u8 0, .int .u8 0, .int .u8 0, .int .u8 0] 23)).heap.size by simp)
  clear h
  obtain ⟨x1, t1, e1⟩ : ∃ x t, rSm s = (x, t) := ⟨_, _, rfl⟩
  have C1 := Lib.hid (show ∀ w, Rd w p s → Calls Tryz.prog 123 #[.pointer (some ⟨p, 0, none⟩)] w (Reads p (.int .u8 x1) t1 w) from fun w h => by have h2 := sm_any w h; rw [e1] at h2; exact h2)
  obtain ⟨x2, t2, e2⟩ : ∃ x t, rSm t1 = (x, t) := ⟨_, _, rfl⟩
  have C2 := Lib.hid (show ∀ w, Rd w p t1 → Calls Tryz.prog 123 #[.pointer (some ⟨p, 0, none⟩)] w (Reads p (.int .u8 x2) t2 w) from fun w h => by have h2 := sm_any w h; rw [e2] at h2; exact h2)
  obtain ⟨x3, t3, e3⟩ : ∃ x t, rSm t2 = (x, t) := ⟨_, _, rfl⟩
  have C3 := Lib.hid (show ∀ w, Rd w p t2 → Calls Tryz.prog 123 #[.pointer (some ⟨p, 0, none⟩)] w (Reads p (.int .u8 x3) t3 w) from fun w h => by have h2 := sm_any w h; rw [e3] at h2; exact h2)
  obtain ⟨x4, t4, e4⟩ : ∃ x t, rSm t3 = (x, t) := ⟨_, _, rfl⟩
  have C4 := Lib.hid (show ∀ w, Rd w p t3 → Calls Tryz.prog 123 #[.pointer (some ⟨p, 0, none⟩)] w (Reads p (.int .u8 x4) t4 w) from fun w h => by have h2 := sm_any w h; rw [e4] at h2; exact h2)
  have hC : rC s = (⟨x1, x2, x3, x4⟩, t4) := by unfold rC; simp only [e1, e2, e3, e4]
  rw [hC]
  clear hC e1 e2 e3 e4
  go_enter Tryz.func93, Tryz.ntmps93
  go_wp2_with fail
  with_reducible refine (C1.out _ H0.out).mono ?_
  rintro e w1 ⟨rfl, hr, hb⟩
  have HR1 := Lib.hid hr
  have HB1 := Lib.hid (HB0.out.trans hb)
  have HG1 := Lib.hid ((hb.block HZ0.out (by omega)).trans HG0.out)
  have HZ1 := Lib.hid (Nat.lt_of_lt_of_le HZ0.out hb.size)
  clear hr hb C1 H0 HB0 HG0 HZ0
  go_wp2_with fail
  with_reducible refine (C2.out _ HR1.out).mono ?_
  rintro e w2 ⟨rfl, hr, hb⟩
  have HR2 := Lib.hid hr
  have HB2 := Lib.hid (HB1.out.trans hb)
  have HG2 := Lib.hid ((hb.block HZ1.out (by omega)).trans HG1.out)
  have HZ2 := Lib.hid (Nat.lt_of_lt_of_le HZ1.out hb.size)
  clear hr hb C2 HR1 HB1 HG1 HZ1
  go_wp2_with fail
  with_reducible refine (C3.out _ HR2.out).mono ?_
  rintro e w3 ⟨rfl, hr, hb⟩
  have HR3 := Lib.hid hr
  have HB3 := Lib.hid (HB2.out.trans hb)
  have HG3 := Lib.hid ((hb.block HZ2.out (by omega)).trans HG2.out)
  have HZ3 := Lib.hid (Nat.lt_of_lt_of_le HZ2.out hb.size)
  clear hr hb C3 HR2 HB2 HG2 HZ2
  go_wp2_with fail
  with_reducible refine (C4.out _ HR3.out).mono ?_
  rintro e w4 ⟨rfl, hr, hb⟩
  have HR4 := Lib.hid hr
  have HB4 := Lib.hid (HB3.out.trans hb)
  have HG4 := Lib.hid ((hb.block HZ3.out (by omega)).trans HG3.out)
  have HZ4 := Lib.hid (Nat.lt_of_lt_of_le HZ3.out hb.size)
  clear hr hb C4 HR3 HB3 HG3 HZ3
  have f0 : w4.frozen? ⟨w.heap.size, 0, none⟩ = false := by simp [World.frozen?, HG4.out]
  have c0 := Joins.cell_of_block HG4.out 0
  have f1 : w4.frozen? ⟨w.heap.size, 1, none⟩ = false := by simp [World.frozen?, HG4.out]
  have c1 := Joins.cell_of_block HG4.out 1
  have f2 : w4.frozen? ⟨w.heap.size, 2, none⟩ = false := by simp [World.frozen?, HG4.out]
  have c2 := Joins.cell_of_block HG4.out 2
  have f3 : w4.frozen? ⟨w.heap.size, 3, none⟩ = false := by simp [World.frozen?, HG4.out]
  have c3 := Joins.cell_of_block HG4.out 3
  have HS := Lib.hid (show (((((w4).setCell ⟨w.heap.size, 0, none⟩ (.int .u8 x1)).setCell ⟨w.heap.size, 1, none⟩ (.int .u8 x2)).setCell ⟨w.heap.size, 2, none⟩ (.int .u8 x3)).setCell ⟨w.heap.size, 3, none⟩ (.int .u8 x4)).heap[w.heap.size]? = some (.cells #[.int .u8 x1, .int .u8 x2, .int .u8 x3, .int .u8 x4] 23 (0, 0)) from (heap_setCell_same _ _ _ _ _ _ (heap_setCell_same _ _ _ _ _ _ (heap_setCell_same _ _ _ _ _ _ (heap_setCell_same _ _ _ _ _ _ HG4.out)))).trans (by simp))
  have HX := Lib.hid (show Rd (((((w4).setCell ⟨w.heap.size, 0, none⟩ (.int .u8 x1)).setCell ⟨w.heap.size, 1, none⟩ (.int .u8 x2)).setCell ⟨w.heap.size, 2, none⟩ (.int .u8 x3)).setCell ⟨w.heap.size, 3, none⟩ (.int .u8 x4)) p t4 from ((((HR4.out.setNew hp).setNew hp).setNew hp).setNew hp))
  have HY := Lib.hid (show But p w (((((w4).setCell ⟨w.heap.size, 0, none⟩ (.int .u8 x1)).setCell ⟨w.heap.size, 1, none⟩ (.int .u8 x2)).setCell ⟨w.heap.size, 2, none⟩ (.int .u8 x3)).setCell ⟨w.heap.size, 3, none⟩ (.int .u8 x4)) from ((((HB4.out.setNew (by omega) (Nat.le_refl _)).setNew (by omega) (Nat.le_refl _)).setNew (by omega) (Nat.le_refl _)).setNew (by omega) (Nat.le_refl _)))
  go_wp2_with fail
  obtain ⟨W, hW⟩ : ∃ W, ((((w4).setCell ⟨w.heap.size, 0, none⟩ (.int .u8 x1)).setCell ⟨w.heap.size, 1, none⟩ (.int .u8 x2)).setCell ⟨w.heap.size, 2, none⟩ (.int .u8 x3)).setCell ⟨w.heap.size, 3, none⟩ (.int .u8 x4) = W := ⟨_, rfl⟩
  rw [hW] at HS HX HY
  try rw [hW]
  have k0 := Joins.cell_of_block HS.out 0
  have k1 := Joins.cell_of_block HS.out 1
  have k2 := Joins.cell_of_block HS.out 2
  have k3 := Joins.cell_of_block HS.out 3
  refine bodyPost_ret (v := .agg #[.int .u8 x1, .int .u8 x2, .int .u8 x3, .int .u8 x4]) (by simp [results, Tryz.results93, go_sem, k0, k1, k2, k3]) rfl ⟨rfl, HX.out, HY.out⟩
set_option maxRecDepth 100000 in
set_option maxHeartbeats 1000000 in
theorem rins_any {p : Nat} {s : St} (w : World) (h : Rd w p s) :
    Calls Tryz.prog 127 #[.pointer (some ⟨p, 0, none⟩)] w (Reads p (.agg #[.int .u8 (rI s).1.o, .int .u8 (rI s).1.d, .int .u8 (rI s).1.a, .int .u8 (rI s).1.b, .int .i64 (rI s).1.n]) (rI s).2 w) := by
  have hp := h.lt
  have H0 := Lib.hid (show Rd (w.alloc (.cells #[.int .u8 0, .int .u8 0, .int .u8 0, .int .u8 0, .int .i64 0] 76)) p s from h.alloc _)
  have HB0 := Lib.hid (show But p w (w.alloc (.cells #[.int .u8 0, .int .u8 0, .int .u8 0, .int .u8 0, .int .i64 0] 76)) from (But.refl p w).alloc hp _)
  have HG0 := Lib.hid (show (w.alloc (.cells #[.int .u8 0, .int .u8 0, .int .u8 0, .int .u8 0, .int .i64 0] 76)).heap[w.heap.size]? = some (.cells #[.int .u8 0, .int .u8 0, .int .u8 0, .int .u8 0, .int .i64 0] 76 (0, 0)) from heap_alloc_new _ _)
  have HZ0 := Lib.hid (show w.heap.size < (w.alloc (.cells #[.int .u8 0, .int .u8 0, .int .u8 0, .int .u8 0, .int .i64 0] 76)).heap.size by simp)
  clear h
  obtain ⟨x1, t1, e1⟩ : ∃ x t, rSm s = (x, t) := ⟨_, _, rfl⟩
  have C1 := Lib.hid (show ∀ w, Rd w p s → Calls Tryz.prog 123 #[.pointer (some ⟨p, 0, none⟩)] w (Reads p (.int .u8 x1) t1 w) from fun w h => by have h2 := sm_any w h; rw [e1] at h2; exact h2)
  obtain ⟨x2, t2, e2⟩ : ∃ x t, rSm t1 = (x, t) := ⟨_, _, rfl⟩
  have C2 := Lib.hid (show ∀ w, Rd w p t1 → Calls Tryz.prog 123 #[.pointer (some ⟨p, 0, none⟩)] w (Reads p (.int .u8 x2) t2 w) from fun w h => by have h2 := sm_any w h; rw [e2] at h2; exact h2)
  obtain ⟨x3, t3, e3⟩ : ∃ x t, rSm t2 = (x, t) := ⟨_, _, rfl⟩
  have C3 := Lib.hid (show ∀ w, Rd w p t2 → Calls Tryz.prog 123 #[.pointer (some ⟨p, 0, none⟩)] w (Reads p (.int .u8 x3) t3 w) from fun w h => by have h2 := sm_any w h; rw [e3] at h2; exact h2)
  obtain ⟨x4, t4, e4⟩ : ∃ x t, rSm t3 = (x, t) := ⟨_, _, rfl⟩
  have C4 := Lib.hid (show ∀ w, Rd w p t3 → Calls Tryz.prog 123 #[.pointer (some ⟨p, 0, none⟩)] w (Reads p (.int .u8 x4) t4 w) from fun w h => by have h2 := sm_any w h; rw [e4] at h2; exact h2)
  obtain ⟨x5, t5, e5⟩ : ∃ x t, rNum t4 = (x, t) := ⟨_, _, rfl⟩
  have C5 := Lib.hid (show ∀ w, Rd w p t4 → Calls Tryz.prog 92 #[.pointer (some ⟨p, 0, none⟩)] w (Reads p (.int .i64 x5) t5 w) from fun w h => by have h2 := number_any w h; rw [e5] at h2; exact h2)
  have hC : rI s = (⟨x1, x2, x3, x4, x5⟩, t5) := by unfold rI; simp only [e1, e2, e3, e4, e5]
  rw [hC]
  clear hC e1 e2 e3 e4 e5
  go_enter Tryz.func127, Tryz.ntmps127
  go_wp2_with fail
  with_reducible refine (C1.out _ H0.out).mono ?_
  rintro e w1 ⟨rfl, hr, hb⟩
  have HR1 := Lib.hid hr
  have HB1 := Lib.hid (HB0.out.trans hb)
  have HG1 := Lib.hid ((hb.block HZ0.out (by omega)).trans HG0.out)
  have HZ1 := Lib.hid (Nat.lt_of_lt_of_le HZ0.out hb.size)
  clear hr hb C1 H0 HB0 HG0 HZ0
  go_wp2_with fail
  with_reducible refine (C2.out _ HR1.out).mono ?_
  rintro e w2 ⟨rfl, hr, hb⟩
  have HR2 := Lib.hid hr
  have HB2 := Lib.hid (HB1.out.trans hb)
  have HG2 := Lib.hid ((hb.block HZ1.out (by omega)).trans HG1.out)
  have HZ2 := Lib.hid (Nat.lt_of_lt_of_le HZ1.out hb.size)
  clear hr hb C2 HR1 HB1 HG1 HZ1
  go_wp2_with fail
  with_reducible refine (C3.out _ HR2.out).mono ?_
  rintro e w3 ⟨rfl, hr, hb⟩
  have HR3 := Lib.hid hr
  have HB3 := Lib.hid (HB2.out.trans hb)
  have HG3 := Lib.hid ((hb.block HZ2.out (by omega)).trans HG2.out)
  have HZ3 := Lib.hid (Nat.lt_of_lt_of_le HZ2.out hb.size)
  clear hr hb C3 HR2 HB2 HG2 HZ2
  go_wp2_with fail
  with_reducible refine (C4.out _ HR3.out).mono ?_
  rintro e w4 ⟨rfl, hr, hb⟩
  have HR4 := Lib.hid hr
  have HB4 := Lib.hid (HB3.out.trans hb)
  have HG4 := Lib.hid ((hb.block HZ3.out (by omega)).trans HG3.out)
  have HZ4 := Lib.hid (Nat.lt_of_lt_of_le HZ3.out hb.size)
  clear hr hb C4 HR3 HB3 HG3 HZ3
  go_wp2_with fail
  with_reducible refine (C5.out _ HR4.out).mono ?_
  rintro e w5 ⟨rfl, hr, hb⟩
  have HR5 := Lib.hid hr
  have HB5 := Lib.hid (HB4.out.trans hb)
  have HG5 := Lib.hid ((hb.block HZ4.out (by omega)).trans HG4.out)
  have HZ5 := Lib.hid (Nat.lt_of_lt_of_le HZ4.out hb.size)
  clear hr hb C5 HR4 HB4 HG4 HZ4
  have f0 : w5.frozen? ⟨w.heap.size, 0, none⟩ = false := by simp [World.frozen?, HG5.out]
  have c0 := Joins.cell_of_block HG5.out 0
  have f1 : w5.frozen? ⟨w.heap.size, 1, none⟩ = false := by simp [World.frozen?, HG5.out]
  have c1 := Joins.cell_of_block HG5.out 1
  have f2 : w5.frozen? ⟨w.heap.size, 2, none⟩ = false := by simp [World.frozen?, HG5.out]
  have c2 := Joins.cell_of_block HG5.out 2
  have f3 : w5.frozen? ⟨w.heap.size, 3, none⟩ = false := by simp [World.frozen?, HG5.out]
  have c3 := Joins.cell_of_block HG5.out 3
  have f4 : w5.frozen? ⟨w.heap.size, 4, none⟩ = false := by simp [World.frozen?, HG5.out]
  have c4 := Joins.cell_of_block HG5.out 4
  have HS := Lib.hid (show ((((((w5).setCell ⟨w.heap.size, 0, none⟩ (.int .u8 x1)).setCell ⟨w.heap.size, 1, none⟩ (.int .u8 x2)).setCell ⟨w.heap.size, 2, none⟩ (.int .u8 x3)).setCell ⟨w.heap.size, 3, none⟩ (.int .u8 x4)).setCell ⟨w.heap.size, 4, none⟩ (.int .i64 x5)).heap[w.heap.size]? = some (.cells #[.int .u8 x1, .int .u8 x2, .int .u8 x3, .int .u8 x4, .int .i64 x5] 76 (0, 0)) from (heap_setCell_same _ _ _ _ _ _ (heap_setCell_same _ _ _ _ _ _ (heap_setCell_same _ _ _ _ _ _ (heap_setCell_same _ _ _ _ _ _ (heap_setCell_same _ _ _ _ _ _ HG5.out))))).trans (by simp))
  have HX := Lib.hid (show Rd ((((((w5).setCell ⟨w.heap.size, 0, none⟩ (.int .u8 x1)).setCell ⟨w.heap.size, 1, none⟩ (.int .u8 x2)).setCell ⟨w.heap.size, 2, none⟩ (.int .u8 x3)).setCell ⟨w.heap.size, 3, none⟩ (.int .u8 x4)).setCell ⟨w.heap.size, 4, none⟩ (.int .i64 x5)) p t5 from (((((HR5.out.setNew hp).setNew hp).setNew hp).setNew hp).setNew hp))
  have HY := Lib.hid (show But p w ((((((w5).setCell ⟨w.heap.size, 0, none⟩ (.int .u8 x1)).setCell ⟨w.heap.size, 1, none⟩ (.int .u8 x2)).setCell ⟨w.heap.size, 2, none⟩ (.int .u8 x3)).setCell ⟨w.heap.size, 3, none⟩ (.int .u8 x4)).setCell ⟨w.heap.size, 4, none⟩ (.int .i64 x5)) from (((((HB5.out.setNew (by omega) (Nat.le_refl _)).setNew (by omega) (Nat.le_refl _)).setNew (by omega) (Nat.le_refl _)).setNew (by omega) (Nat.le_refl _)).setNew (by omega) (Nat.le_refl _)))
  go_wp2_with fail
  obtain ⟨W, hW⟩ : ∃ W, (((((w5).setCell ⟨w.heap.size, 0, none⟩ (.int .u8 x1)).setCell ⟨w.heap.size, 1, none⟩ (.int .u8 x2)).setCell ⟨w.heap.size, 2, none⟩ (.int .u8 x3)).setCell ⟨w.heap.size, 3, none⟩ (.int .u8 x4)).setCell ⟨w.heap.size, 4, none⟩ (.int .i64 x5) = W := ⟨_, rfl⟩
  rw [hW] at HS HX HY
  try rw [hW]
  have k0 := Joins.cell_of_block HS.out 0
  have k1 := Joins.cell_of_block HS.out 1
  have k2 := Joins.cell_of_block HS.out 2
  have k3 := Joins.cell_of_block HS.out 3
  have k4 := Joins.cell_of_block HS.out 4
  refine bodyPost_ret (v := .agg #[.int .u8 x1, .int .u8 x2, .int .u8 x3, .int .u8 x4, .int .i64 x5]) (by simp [results, Tryz.results127, go_sem, k0, k1, k2, k3, k4]) rfl ⟨rfl, HX.out, HY.out⟩
set_option maxRecDepth 100000 in
set_option maxHeartbeats 2000000 in
theorem rvec_any {p : Nat} {s : St} (w : World) (h : Rd w p s) :
    Calls Tryz.prog 95 #[.pointer (some ⟨p, 0, none⟩)] w (Reads p (.agg #[.int .i64 (rV s).1.x, .int .i64 (rV s).1.y, .int .i64 (rV s).1.z, .int .i64 (rV s).1.w, .int .i64 (rV s).1.a, .int .i64 (rV s).1.b, .int .i64 (rV s).1.c, .int .i64 (rV s).1.d]) (rV s).2 w) := by
  have hp := h.lt
  have H0 := Lib.hid (show Rd (w.alloc (.cells #[.int .i64 0, .int .i64 0, .int .i64 0, .int .i64 0, .int .i64 0, .int .i64 0, .int .i64 0, .int .i64 0] 74)) p s from h.alloc _)
  have HB0 := Lib.hid (show But p w (w.alloc (.cells #[.int .i64 0, .int .i64 0, .int .i64 0, .int .i64 0, .int .i64 0, .int .i64 0, .int .i64 0, .int .i64 0] 74)) from (But.refl p w).alloc hp _)
  have HG0 := Lib.hid (show (w.alloc (.cells #[.int .i64 0, .int .i64 0, .int .i64 0, .int .i64 0, .int .i64 0, .int .i64 0, .int .i64 0, .int .i64 0] 74)).heap[w.heap.size]? = some (.cells #[.int .i64 0, .int .i64 0, .int .i64 0, .int .i64 0, .int .i64 0, .int .i64 0, .int .i64 0, .int .i64 0] 74 (0, 0)) from heap_alloc_new _ _)
  have HZ0 := Lib.hid (show w.heap.size < (w.alloc (.cells #[.int .i64 0, .int .i64 0, .int .i64 0, .int .i64 0, .int .i64 0, .int .i64 0, .int .i64 0, .int .i64 0] 74)).heap.size by simp)
  clear h
  obtain ⟨x1, t1, e1⟩ : ∃ x t, rNum s = (x, t) := ⟨_, _, rfl⟩
  have C1 := Lib.hid (show ∀ w, Rd w p s → Calls Tryz.prog 92 #[.pointer (some ⟨p, 0, none⟩)] w (Reads p (.int .i64 x1) t1 w) from fun w h => by have h2 := number_any w h; rw [e1] at h2; exact h2)
  obtain ⟨x2, t2, e2⟩ : ∃ x t, rNum t1 = (x, t) := ⟨_, _, rfl⟩
  have C2 := Lib.hid (show ∀ w, Rd w p t1 → Calls Tryz.prog 92 #[.pointer (some ⟨p, 0, none⟩)] w (Reads p (.int .i64 x2) t2 w) from fun w h => by have h2 := number_any w h; rw [e2] at h2; exact h2)
  obtain ⟨x3, t3, e3⟩ : ∃ x t, rNum t2 = (x, t) := ⟨_, _, rfl⟩
  have C3 := Lib.hid (show ∀ w, Rd w p t2 → Calls Tryz.prog 92 #[.pointer (some ⟨p, 0, none⟩)] w (Reads p (.int .i64 x3) t3 w) from fun w h => by have h2 := number_any w h; rw [e3] at h2; exact h2)
  obtain ⟨x4, t4, e4⟩ : ∃ x t, rNum t3 = (x, t) := ⟨_, _, rfl⟩
  have C4 := Lib.hid (show ∀ w, Rd w p t3 → Calls Tryz.prog 92 #[.pointer (some ⟨p, 0, none⟩)] w (Reads p (.int .i64 x4) t4 w) from fun w h => by have h2 := number_any w h; rw [e4] at h2; exact h2)
  obtain ⟨x5, t5, e5⟩ : ∃ x t, rNum t4 = (x, t) := ⟨_, _, rfl⟩
  have C5 := Lib.hid (show ∀ w, Rd w p t4 → Calls Tryz.prog 92 #[.pointer (some ⟨p, 0, none⟩)] w (Reads p (.int .i64 x5) t5 w) from fun w h => by have h2 := number_any w h; rw [e5] at h2; exact h2)
  obtain ⟨x6, t6, e6⟩ : ∃ x t, rNum t5 = (x, t) := ⟨_, _, rfl⟩
  have C6 := Lib.hid (show ∀ w, Rd w p t5 → Calls Tryz.prog 92 #[.pointer (some ⟨p, 0, none⟩)] w (Reads p (.int .i64 x6) t6 w) from fun w h => by have h2 := number_any w h; rw [e6] at h2; exact h2)
  obtain ⟨x7, t7, e7⟩ : ∃ x t, rNum t6 = (x, t) := ⟨_, _, rfl⟩
  have C7 := Lib.hid (show ∀ w, Rd w p t6 → Calls Tryz.prog 92 #[.pointer (some ⟨p, 0, none⟩)] w (Reads p (.int .i64 x7) t7 w) from fun w h => by have h2 := number_any w h; rw [e7] at h2; exact h2)
  obtain ⟨x8, t8, e8⟩ : ∃ x t, rNum t7 = (x, t) := ⟨_, _, rfl⟩
  have C8 := Lib.hid (show ∀ w, Rd w p t7 → Calls Tryz.prog 92 #[.pointer (some ⟨p, 0, none⟩)] w (Reads p (.int .i64 x8) t8 w) from fun w h => by have h2 := number_any w h; rw [e8] at h2; exact h2)
  have hC : rV s = (⟨x1, x2, x3, x4, x5, x6, x7, x8⟩, t8) := by unfold rV; simp only [e1, e2, e3, e4, e5, e6, e7, e8]
  rw [hC]
  clear hC e1 e2 e3 e4 e5 e6 e7 e8
  go_enter Tryz.func95, Tryz.ntmps95
  go_wp2_with fail
  with_reducible refine (C1.out _ H0.out).mono ?_
  rintro e w1 ⟨rfl, hr, hb⟩
  have HR1 := Lib.hid hr
  have HB1 := Lib.hid (HB0.out.trans hb)
  have HG1 := Lib.hid ((hb.block HZ0.out (by omega)).trans HG0.out)
  have HZ1 := Lib.hid (Nat.lt_of_lt_of_le HZ0.out hb.size)
  clear hr hb C1 H0 HB0 HG0 HZ0
  go_wp2_with fail
  with_reducible refine (C2.out _ HR1.out).mono ?_
  rintro e w2 ⟨rfl, hr, hb⟩
  have HR2 := Lib.hid hr
  have HB2 := Lib.hid (HB1.out.trans hb)
  have HG2 := Lib.hid ((hb.block HZ1.out (by omega)).trans HG1.out)
  have HZ2 := Lib.hid (Nat.lt_of_lt_of_le HZ1.out hb.size)
  clear hr hb C2 HR1 HB1 HG1 HZ1
  go_wp2_with fail
  with_reducible refine (C3.out _ HR2.out).mono ?_
  rintro e w3 ⟨rfl, hr, hb⟩
  have HR3 := Lib.hid hr
  have HB3 := Lib.hid (HB2.out.trans hb)
  have HG3 := Lib.hid ((hb.block HZ2.out (by omega)).trans HG2.out)
  have HZ3 := Lib.hid (Nat.lt_of_lt_of_le HZ2.out hb.size)
  clear hr hb C3 HR2 HB2 HG2 HZ2
  go_wp2_with fail
  with_reducible refine (C4.out _ HR3.out).mono ?_
  rintro e w4 ⟨rfl, hr, hb⟩
  have HR4 := Lib.hid hr
  have HB4 := Lib.hid (HB3.out.trans hb)
  have HG4 := Lib.hid ((hb.block HZ3.out (by omega)).trans HG3.out)
  have HZ4 := Lib.hid (Nat.lt_of_lt_of_le HZ3.out hb.size)
  clear hr hb C4 HR3 HB3 HG3 HZ3
  go_wp2_with fail
  with_reducible refine (C5.out _ HR4.out).mono ?_
  rintro e w5 ⟨rfl, hr, hb⟩
  have HR5 := Lib.hid hr
  have HB5 := Lib.hid (HB4.out.trans hb)
  have HG5 := Lib.hid ((hb.block HZ4.out (by omega)).trans HG4.out)
  have HZ5 := Lib.hid (Nat.lt_of_lt_of_le HZ4.out hb.size)
  clear hr hb C5 HR4 HB4 HG4 HZ4
  go_wp2_with fail
  with_reducible refine (C6.out _ HR5.out).mono ?_
  rintro e w6 ⟨rfl, hr, hb⟩
  have HR6 := Lib.hid hr
  have HB6 := Lib.hid (HB5.out.trans hb)
  have HG6 := Lib.hid ((hb.block HZ5.out (by omega)).trans HG5.out)
  have HZ6 := Lib.hid (Nat.lt_of_lt_of_le HZ5.out hb.size)
  clear hr hb C6 HR5 HB5 HG5 HZ5
  go_wp2_with fail
  with_reducible refine (C7.out _ HR6.out).mono ?_
  rintro e w7 ⟨rfl, hr, hb⟩
  have HR7 := Lib.hid hr
  have HB7 := Lib.hid (HB6.out.trans hb)
  have HG7 := Lib.hid ((hb.block HZ6.out (by omega)).trans HG6.out)
  have HZ7 := Lib.hid (Nat.lt_of_lt_of_le HZ6.out hb.size)
  clear hr hb C7 HR6 HB6 HG6 HZ6
  go_wp2_with fail
  with_reducible refine (C8.out _ HR7.out).mono ?_
  rintro e w8 ⟨rfl, hr, hb⟩
  have HR8 := Lib.hid hr
  have HB8 := Lib.hid (HB7.out.trans hb)
  have HG8 := Lib.hid ((hb.block HZ7.out (by omega)).trans HG7.out)
  have HZ8 := Lib.hid (Nat.lt_of_lt_of_le HZ7.out hb.size)
  clear hr hb C8 HR7 HB7 HG7 HZ7
  have f0 : w8.frozen? ⟨w.heap.size, 0, none⟩ = false := by simp [World.frozen?, HG8.out]
  have c0 := Joins.cell_of_block HG8.out 0
  have f1 : w8.frozen? ⟨w.heap.size, 1, none⟩ = false := by simp [World.frozen?, HG8.out]
  have c1 := Joins.cell_of_block HG8.out 1
  have f2 : w8.frozen? ⟨w.heap.size, 2, none⟩ = false := by simp [World.frozen?, HG8.out]
  have c2 := Joins.cell_of_block HG8.out 2
  have f3 : w8.frozen? ⟨w.heap.size, 3, none⟩ = false := by simp [World.frozen?, HG8.out]
  have c3 := Joins.cell_of_block HG8.out 3
  have f4 : w8.frozen? ⟨w.heap.size, 4, none⟩ = false := by simp [World.frozen?, HG8.out]
  have c4 := Joins.cell_of_block HG8.out 4
  have f5 : w8.frozen? ⟨w.heap.size, 5, none⟩ = false := by simp [World.frozen?, HG8.out]
  have c5 := Joins.cell_of_block HG8.out 5
  have f6 : w8.frozen? ⟨w.heap.size, 6, none⟩ = false := by simp [World.frozen?, HG8.out]
  have c6 := Joins.cell_of_block HG8.out 6
  have f7 : w8.frozen? ⟨w.heap.size, 7, none⟩ = false := by simp [World.frozen?, HG8.out]
  have c7 := Joins.cell_of_block HG8.out 7
  have HS := Lib.hid (show (((((((((w8).setCell ⟨w.heap.size, 0, none⟩ (.int .i64 x1)).setCell ⟨w.heap.size, 1, none⟩ (.int .i64 x2)).setCell ⟨w.heap.size, 2, none⟩ (.int .i64 x3)).setCell ⟨w.heap.size, 3, none⟩ (.int .i64 x4)).setCell ⟨w.heap.size, 4, none⟩ (.int .i64 x5)).setCell ⟨w.heap.size, 5, none⟩ (.int .i64 x6)).setCell ⟨w.heap.size, 6, none⟩ (.int .i64 x7)).setCell ⟨w.heap.size, 7, none⟩ (.int .i64 x8)).heap[w.heap.size]? = some (.cells #[.int .i64 x1, .int .i64 x2, .int .i64 x3, .int .i64 x4, .int .i64 x5, .int .i64 x6, .int .i64 x7, .int .i64 x8] 74 (0, 0)) from (heap_setCell_same _ _ _ _ _ _ (heap_setCell_same _ _ _ _ _ _ (heap_setCell_same _ _ _ _ _ _ (heap_setCell_same _ _ _ _ _ _ (heap_setCell_same _ _ _ _ _ _ (heap_setCell_same _ _ _ _ _ _ (heap_setCell_same _ _ _ _ _ _ (heap_setCell_same _ _ _ _ _ _ HG8.out)))))))).trans (by simp))
  have HX := Lib.hid (show Rd (((((((((w8).setCell ⟨w.heap.size, 0, none⟩ (.int .i64 x1)).setCell ⟨w.heap.size, 1, none⟩ (.int .i64 x2)).setCell ⟨w.heap.size, 2, none⟩ (.int .i64 x3)).setCell ⟨w.heap.size, 3, none⟩ (.int .i64 x4)).setCell ⟨w.heap.size, 4, none⟩ (.int .i64 x5)).setCell ⟨w.heap.size, 5, none⟩ (.int .i64 x6)).setCell ⟨w.heap.size, 6, none⟩ (.int .i64 x7)).setCell ⟨w.heap.size, 7, none⟩ (.int .i64 x8)) p t8 from ((((((((HR8.out.setNew hp).setNew hp).setNew hp).setNew hp).setNew hp).setNew hp).setNew hp).setNew hp))
  have HY := Lib.hid (show But p w (((((((((w8).setCell ⟨w.heap.size, 0, none⟩ (.int .i64 x1)).setCell ⟨w.heap.size, 1, none⟩ (.int .i64 x2)).setCell ⟨w.heap.size, 2, none⟩ (.int .i64 x3)).setCell ⟨w.heap.size, 3, none⟩ (.int .i64 x4)).setCell ⟨w.heap.size, 4, none⟩ (.int .i64 x5)).setCell ⟨w.heap.size, 5, none⟩ (.int .i64 x6)).setCell ⟨w.heap.size, 6, none⟩ (.int .i64 x7)).setCell ⟨w.heap.size, 7, none⟩ (.int .i64 x8)) from ((((((((HB8.out.setNew (by omega) (Nat.le_refl _)).setNew (by omega) (Nat.le_refl _)).setNew (by omega) (Nat.le_refl _)).setNew (by omega) (Nat.le_refl _)).setNew (by omega) (Nat.le_refl _)).setNew (by omega) (Nat.le_refl _)).setNew (by omega) (Nat.le_refl _)).setNew (by omega) (Nat.le_refl _)))
  go_wp2_with fail
  obtain ⟨W, hW⟩ : ∃ W, ((((((((w8).setCell ⟨w.heap.size, 0, none⟩ (.int .i64 x1)).setCell ⟨w.heap.size, 1, none⟩ (.int .i64 x2)).setCell ⟨w.heap.size, 2, none⟩ (.int .i64 x3)).setCell ⟨w.heap.size, 3, none⟩ (.int .i64 x4)).setCell ⟨w.heap.size, 4, none⟩ (.int .i64 x5)).setCell ⟨w.heap.size, 5, none⟩ (.int .i64 x6)).setCell ⟨w.heap.size, 6, none⟩ (.int .i64 x7)).setCell ⟨w.heap.size, 7, none⟩ (.int .i64 x8) = W := ⟨_, rfl⟩
  rw [hW] at HS HX HY
  try rw [hW]
  have k0 := Joins.cell_of_block HS.out 0
  have k1 := Joins.cell_of_block HS.out 1
  have k2 := Joins.cell_of_block HS.out 2
  have k3 := Joins.cell_of_block HS.out 3
  have k4 := Joins.cell_of_block HS.out 4
  have k5 := Joins.cell_of_block HS.out 5
  have k6 := Joins.cell_of_block HS.out 6
  have k7 := Joins.cell_of_block HS.out 7
  refine bodyPost_ret (v := .agg #[.int .i64 x1, .int .i64 x2, .int .i64 x3, .int .i64 x4, .int .i64 x5, .int .i64 x6, .int .i64 x7, .int .i64 x8]) (by simp [results, Tryz.results95, go_sem, k0, k1, k2, k3, k4, k5, k6, k7]) rfl ⟨rfl, HX.out, HY.out⟩
set_option maxRecDepth 100000 in
set_option maxHeartbeats 1000000 in
theorem rtri_any {p : Nat} {s : St} (w : World) (h : Rd w p s) :
    Calls Tryz.prog 130 #[.pointer (some ⟨p, 0, none⟩)] w (Reads p (.agg #[.int .i64 (rR s).1.i, .int .i64 (rR s).1.a, .int .i64 (rR s).1.b, .int .i64 (rR s).1.c]) (rR s).2 w) := by
  have hp := h.lt
  have H0 := Lib.hid (show Rd (w.alloc (.cells #[.int .i64 0, .int .i64 0, .int .i64 0, .int .i64 0] 86)) p s from h.alloc _)
  have HB0 := Lib.hid (show But p w (w.alloc (.cells #[.int .i64 0, .int .i64 0, .int .i64 0, .int .i64 0] 86)) from (But.refl p w).alloc hp _)
  have HG0 := Lib.hid (show (w.alloc (.cells #[.int .i64 0, .int .i64 0, .int .i64 0, .int .i64 0] 86)).heap[w.heap.size]? = some (.cells #[.int .i64 0, .int .i64 0, .int .i64 0, .int .i64 0] 86 (0, 0)) from heap_alloc_new _ _)
  have HZ0 := Lib.hid (show w.heap.size < (w.alloc (.cells #[.int .i64 0, .int .i64 0, .int .i64 0, .int .i64 0] 86)).heap.size by simp)
  clear h
  obtain ⟨x1, t1, e1⟩ : ∃ x t, rNum s = (x, t) := ⟨_, _, rfl⟩
  have C1 := Lib.hid (show ∀ w, Rd w p s → Calls Tryz.prog 92 #[.pointer (some ⟨p, 0, none⟩)] w (Reads p (.int .i64 x1) t1 w) from fun w h => by have h2 := number_any w h; rw [e1] at h2; exact h2)
  obtain ⟨x2, t2, e2⟩ : ∃ x t, rNum t1 = (x, t) := ⟨_, _, rfl⟩
  have C2 := Lib.hid (show ∀ w, Rd w p t1 → Calls Tryz.prog 92 #[.pointer (some ⟨p, 0, none⟩)] w (Reads p (.int .i64 x2) t2 w) from fun w h => by have h2 := number_any w h; rw [e2] at h2; exact h2)
  obtain ⟨x3, t3, e3⟩ : ∃ x t, rNum t2 = (x, t) := ⟨_, _, rfl⟩
  have C3 := Lib.hid (show ∀ w, Rd w p t2 → Calls Tryz.prog 92 #[.pointer (some ⟨p, 0, none⟩)] w (Reads p (.int .i64 x3) t3 w) from fun w h => by have h2 := number_any w h; rw [e3] at h2; exact h2)
  obtain ⟨x4, t4, e4⟩ : ∃ x t, rNum t3 = (x, t) := ⟨_, _, rfl⟩
  have C4 := Lib.hid (show ∀ w, Rd w p t3 → Calls Tryz.prog 92 #[.pointer (some ⟨p, 0, none⟩)] w (Reads p (.int .i64 x4) t4 w) from fun w h => by have h2 := number_any w h; rw [e4] at h2; exact h2)
  have hC : rR s = (⟨x1, x2, x3, x4⟩, t4) := by unfold rR; simp only [e1, e2, e3, e4]
  rw [hC]
  clear hC e1 e2 e3 e4
  go_enter Tryz.func130, Tryz.ntmps130
  go_wp2_with fail
  with_reducible refine (C1.out _ H0.out).mono ?_
  rintro e w1 ⟨rfl, hr, hb⟩
  have HR1 := Lib.hid hr
  have HB1 := Lib.hid (HB0.out.trans hb)
  have HG1 := Lib.hid ((hb.block HZ0.out (by omega)).trans HG0.out)
  have HZ1 := Lib.hid (Nat.lt_of_lt_of_le HZ0.out hb.size)
  clear hr hb C1 H0 HB0 HG0 HZ0
  go_wp2_with fail
  with_reducible refine (C2.out _ HR1.out).mono ?_
  rintro e w2 ⟨rfl, hr, hb⟩
  have HR2 := Lib.hid hr
  have HB2 := Lib.hid (HB1.out.trans hb)
  have HG2 := Lib.hid ((hb.block HZ1.out (by omega)).trans HG1.out)
  have HZ2 := Lib.hid (Nat.lt_of_lt_of_le HZ1.out hb.size)
  clear hr hb C2 HR1 HB1 HG1 HZ1
  go_wp2_with fail
  with_reducible refine (C3.out _ HR2.out).mono ?_
  rintro e w3 ⟨rfl, hr, hb⟩
  have HR3 := Lib.hid hr
  have HB3 := Lib.hid (HB2.out.trans hb)
  have HG3 := Lib.hid ((hb.block HZ2.out (by omega)).trans HG2.out)
  have HZ3 := Lib.hid (Nat.lt_of_lt_of_le HZ2.out hb.size)
  clear hr hb C3 HR2 HB2 HG2 HZ2
  go_wp2_with fail
  with_reducible refine (C4.out _ HR3.out).mono ?_
  rintro e w4 ⟨rfl, hr, hb⟩
  have HR4 := Lib.hid hr
  have HB4 := Lib.hid (HB3.out.trans hb)
  have HG4 := Lib.hid ((hb.block HZ3.out (by omega)).trans HG3.out)
  have HZ4 := Lib.hid (Nat.lt_of_lt_of_le HZ3.out hb.size)
  clear hr hb C4 HR3 HB3 HG3 HZ3
  have f0 : w4.frozen? ⟨w.heap.size, 0, none⟩ = false := by simp [World.frozen?, HG4.out]
  have c0 := Joins.cell_of_block HG4.out 0
  have f1 : w4.frozen? ⟨w.heap.size, 1, none⟩ = false := by simp [World.frozen?, HG4.out]
  have c1 := Joins.cell_of_block HG4.out 1
  have f2 : w4.frozen? ⟨w.heap.size, 2, none⟩ = false := by simp [World.frozen?, HG4.out]
  have c2 := Joins.cell_of_block HG4.out 2
  have f3 : w4.frozen? ⟨w.heap.size, 3, none⟩ = false := by simp [World.frozen?, HG4.out]
  have c3 := Joins.cell_of_block HG4.out 3
  have HS := Lib.hid (show (((((w4).setCell ⟨w.heap.size, 0, none⟩ (.int .i64 x1)).setCell ⟨w.heap.size, 1, none⟩ (.int .i64 x2)).setCell ⟨w.heap.size, 2, none⟩ (.int .i64 x3)).setCell ⟨w.heap.size, 3, none⟩ (.int .i64 x4)).heap[w.heap.size]? = some (.cells #[.int .i64 x1, .int .i64 x2, .int .i64 x3, .int .i64 x4] 86 (0, 0)) from (heap_setCell_same _ _ _ _ _ _ (heap_setCell_same _ _ _ _ _ _ (heap_setCell_same _ _ _ _ _ _ (heap_setCell_same _ _ _ _ _ _ HG4.out)))).trans (by simp))
  have HX := Lib.hid (show Rd (((((w4).setCell ⟨w.heap.size, 0, none⟩ (.int .i64 x1)).setCell ⟨w.heap.size, 1, none⟩ (.int .i64 x2)).setCell ⟨w.heap.size, 2, none⟩ (.int .i64 x3)).setCell ⟨w.heap.size, 3, none⟩ (.int .i64 x4)) p t4 from ((((HR4.out.setNew hp).setNew hp).setNew hp).setNew hp))
  have HY := Lib.hid (show But p w (((((w4).setCell ⟨w.heap.size, 0, none⟩ (.int .i64 x1)).setCell ⟨w.heap.size, 1, none⟩ (.int .i64 x2)).setCell ⟨w.heap.size, 2, none⟩ (.int .i64 x3)).setCell ⟨w.heap.size, 3, none⟩ (.int .i64 x4)) from ((((HB4.out.setNew (by omega) (Nat.le_refl _)).setNew (by omega) (Nat.le_refl _)).setNew (by omega) (Nat.le_refl _)).setNew (by omega) (Nat.le_refl _)))
  go_wp2_with fail
  obtain ⟨W, hW⟩ : ∃ W, ((((w4).setCell ⟨w.heap.size, 0, none⟩ (.int .i64 x1)).setCell ⟨w.heap.size, 1, none⟩ (.int .i64 x2)).setCell ⟨w.heap.size, 2, none⟩ (.int .i64 x3)).setCell ⟨w.heap.size, 3, none⟩ (.int .i64 x4) = W := ⟨_, rfl⟩
  rw [hW] at HS HX HY
  try rw [hW]
  have k0 := Joins.cell_of_block HS.out 0
  have k1 := Joins.cell_of_block HS.out 1
  have k2 := Joins.cell_of_block HS.out 2
  have k3 := Joins.cell_of_block HS.out 3
  refine bodyPost_ret (v := .agg #[.int .i64 x1, .int .i64 x2, .int .i64 x3, .int .i64 x4]) (by simp [results, Tryz.results130, go_sem, k0, k1, k2, k3]) rfl ⟨rfl, HX.out, HY.out⟩
end Go.Proofs.YtfmmfaeognoleaaGreat
/-
  What a reader reads of a list of flat things.
-/
namespace Go.Proofs.YtfmmfaeognoleaaGreat
open Go.RowKit
attribute [local go_sem ↓] Go.wp_at_zero Go.wp_at_succ

theorem up_pos (m : Int) (s : St) : 0 ≤ (rUp m s).1 := by
  unfold rUp
  split
  · exact Int.le_refl _
  · omega
theorem num_le (s : St) : (rNum s).2.l.length ≤ s.l.length := by
  obtain ⟨l, b⟩ := s
  cases l with
  | nil => exact Nat.le_refl _
  | cons n r => show r.length ≤ (n :: r).length; rw [List.length_cons]; omega
theorem up_le (m : Int) (s : St) : (rUp m s).2.l.length ≤ s.l.length := by
  have := num_le s
  unfold rUp
  split <;> exact this
theorem many_bd (s : St) : 0 ≤ (rMany s).1 ∧ (rMany s).1 ≤ s.l.length := by
  refine ⟨up_pos _ _, ?_⟩
  unfold rMany rUp
  split
  · show (0 : Int) ≤ _; omega
  · omega
/-- What a list's call reads. -/
def ReadsE {α : Type} (E : Elem α) (p : Nat) (xs : List α) (t : St) (w : World) (e : Ending) (w' : World) : Prop :=
  ∃ A c, e = .returned (.slice A xs.length c) ∧ OwnE E w' w.heap.size (.slice A xs.length c) xs ∧ Rd w' p t ∧ But p w w'

set_option maxRecDepth 100000 in
set_option maxHeartbeats 2000000 in
theorem readV_any {p : Nat} {s : St} (w : World) (h : Rd w p s) (hs : s.l.length ≤ 100000) :
    Calls Tryz.prog 94 #[.pointer (some ⟨p, 0, none⟩), .func (.func 95) #[.pointer (some ⟨p, 0, none⟩)] #[]] w (ReadsE EV p (rAll rV s).1 (rAll rV s).2 w) := by
  obtain ⟨RV⟩ := rowV
  have hp := h.lt
  have hmb := many_bd s
  obtain ⟨n, t, e1⟩ : ∃ n t, rMany s = (n, t) := ⟨_, _, rfl⟩
  have C1 := Lib.hid (show Calls Tryz.prog 124 #[.pointer (some ⟨p, 0, none⟩), .int .i64 ((s.l.length : Int) - 1)] w (Reads p (.int .i64 n) t w) from by
    have h2 := upTo_any ((s.l.length : Int) - 1) w h
    have e2 : rUp ((s.l.length : Int) - 1) s = (n, t) := e1
    rw [e2] at h2
    exact h2)
  rw [e1] at hmb
  dsimp only at hmb
  have hw : IntKind.i64.wrap ((s.l.length : Int) - 1) = (s.l.length : Int) - 1 := by rw [IntKind.wrap_i64]; omega
  obtain ⟨A0, c0, hb0, -, -⟩ := h
  have k0 := (rdB_cell hb0).1
  obtain ⟨m, hm⟩ : ∃ m, s.l.length = m := ⟨_, rfl⟩
  obtain ⟨k, rfl⟩ : ∃ k : Nat, n = k := ⟨n.toNat, by omega⟩
  have eA : rAll rV s = rRep rV k t := by unfold rAll; rw [e1]; rfl
  rw [eA]
  have HX := Lib.hid (show ∀ j, rRep rV (j + 1) t = ((rRep rV j t).1 ++ [(rV (rRep rV j t).2).1], (rV (rRep rV j t).2).2) from fun _ => rfl)
  have HL := Lib.hid (show ∀ j, (rRep rV j t).1.length = j from fun j => rep_len j t)
  have H00 := Lib.hid (show rRep rV 0 t = ([], t) from rfl)
  generalize rRep rV = X at *
  rw [hm] at k0 hs hw hmb C1
  clear hb0 e1 eA hm
  go_enter Tryz.func94, Tryz.ntmps94
  go_wp2_with fail
  with_reducible refine (C1.out).mono ?_
  rintro e w1 ⟨rfl, hr, hb⟩
  have HR1 := Lib.hid hr
  have HB1 := Lib.hid hb
  clear hr hb C1 k0
  go_wp2_with fail
  go_loopw [6, 16] (fun v i wr => ∃ j : Nat, j ≤ k ∧ i = .int .i64 j ∧ ∃ A c, v = .slice A j c ∧ OwnE EV wr w.heap.size (.slice A j c) (X j t).1 ∧ Rd wr p (X j t).2 ∧ But p w wr) (fun _ i _ => k - (intOf i).toNat)
  case atStart => exact ⟨0, Nat.zero_le _, rfl, none, 0, rfl, by rw [H00.out]; exact OwnE.nil _ _, by rw [H00.out]; exact HR1.out, HB1.out⟩
  case round =>
    obtain ⟨j, hk, rfl, A, c, rfl, ho, hr, hb⟩ := hrel
    have HO := Lib.hid ho
    have HR := Lib.hid hr
    have HB := Lib.hid hb
    clear ho hr hb HR1 HB1
    by_cases hlt : j < k
    · have C2 := Lib.hid (rvec_any wr HR.out)
      obtain ⟨x, t2, e2⟩ : ∃ x t2, rV (X j t).2 = (x, t2) := ⟨_, _, rfl⟩
      have hX := HX.out j
      rw [e2] at C2 hX
      have HX1 := Lib.hid hX
      have hlj := HL.out j
      clear hX e2
      go_wp2_with fail
      with_reducible refine (C2.out).mono ?_
      rintro e w2 ⟨rfl, hr, hb⟩
      have HO2 := Lib.hid ((hb.own HO.out hp).alloc (.cells #[.int .i64 x.x, .int .i64 x.y, .int .i64 x.z, .int .i64 x.w, .int .i64 x.a, .int .i64 x.b, .int .i64 x.c, .int .i64 x.d] 74))
      have HR2 := Lib.hid (hr.alloc (.cells #[.int .i64 x.x, .int .i64 x.y, .int .i64 x.z, .int .i64 x.w, .int .i64 x.a, .int .i64 x.b, .int .i64 x.c, .int .i64 x.d] 74))
      have HB2 := Lib.hid ((HB.out.trans hb).alloc hp (.cells #[.int .i64 x.x, .int .i64 x.y, .int .i64 x.z, .int .i64 x.w, .int .i64 x.a, .int .i64 x.b, .int .i64 x.c, .int .i64 x.d] 74))
      have HE2 := Lib.hid (es_one (E := EV) (x := x) (cs := #[.int .i64 x.x, .int .i64 x.y, .int .i64 x.z, .int .i64 x.w, .int .i64 x.a, .int .i64 x.b, .int .i64 x.c, .int .i64 x.d]) rfl (show (w2.alloc (.cells #[.int .i64 x.x, .int .i64 x.y, .int .i64 x.z, .int .i64 x.w, .int .i64 x.a, .int .i64 x.b, .int .i64 x.c, .int .i64 x.d] 74)).heap[w2.heap.size]? = some (.cells #[.int .i64 x.x, .int .i64 x.y, .int .i64 x.z, .int .i64 x.w, .int .i64 x.a, .int .i64 x.b, .int .i64 x.c, .int .i64 x.d] 74 (0, 0)) from heap_alloc_new _ _))
      have hsz := HB2.out.size
      clear hr hb C2 HO HR HB
      go_wp2_with (at_builtin; refine wpList_append_es rfl RV _ _ 1 rfl rfl rfl HO2.out HE2.out (by omega) (by simp) hsz ?_; intro v' w3 hown hg hat; obtain ⟨ho3, hbl⟩ := ownE_app HO2.out hown hg hsz; have hge := ownE_ge HO2.out; obtain ⟨A3, c3, rfl⟩ := ho3.form)
      go_roundw
      case rel =>
        have e3 : (X (j + 1) t).1 = (X j t).1 ++ [x] := by rw [HX1.out]
        have e4 : (X (j + 1) t).2 = t2 := by rw [HX1.out]
        have e5 : ((X j t).1 ++ [x]).length = j + 1 := by rw [List.length_append, hlj]; rfl
        refine ⟨j + 1, by omega, by go_num, A3, c3, rfl, ?_, ?_, ?_⟩
        · rw [e3, ← e5]; exact ho3
        · rw [e4]; exact HR2.out.grown hg hge hp
        · exact HB2.out.grown (by omega) hg hge
      case measure => simp [intOf]; omega
    · obtain rfl : j = k := by omega
      go_wp2_with fail
      go_ret
      exact ⟨A, c, (by rw [HL.out]; rfl), (by rw [HL.out]; exact HO.out), HR.out, HB.out⟩

set_option maxRecDepth 100000 in
set_option maxHeartbeats 2000000 in
theorem readC_any {p : Nat} {s : St} (w : World) (h : Rd w p s) (hs : s.l.length ≤ 100000) :
    Calls Tryz.prog 125 #[.pointer (some ⟨p, 0, none⟩), .func (.func 93) #[.pointer (some ⟨p, 0, none⟩)] #[]] w (ReadsE EC p (rAll rC s).1 (rAll rC s).2 w) := by
  obtain ⟨RV⟩ := rowC
  have hp := h.lt
  have hmb := many_bd s
  obtain ⟨n, t, e1⟩ : ∃ n t, rMany s = (n, t) := ⟨_, _, rfl⟩
  have C1 := Lib.hid (show Calls Tryz.prog 124 #[.pointer (some ⟨p, 0, none⟩), .int .i64 ((s.l.length : Int) - 1)] w (Reads p (.int .i64 n) t w) from by
    have h2 := upTo_any ((s.l.length : Int) - 1) w h
    have e2 : rUp ((s.l.length : Int) - 1) s = (n, t) := e1
    rw [e2] at h2
    exact h2)
  rw [e1] at hmb
  dsimp only at hmb
  have hw : IntKind.i64.wrap ((s.l.length : Int) - 1) = (s.l.length : Int) - 1 := by rw [IntKind.wrap_i64]; omega
  obtain ⟨A0, c0, hb0, -, -⟩ := h
  have k0 := (rdB_cell hb0).1
  obtain ⟨m, hm⟩ : ∃ m, s.l.length = m := ⟨_, rfl⟩
  obtain ⟨k, rfl⟩ : ∃ k : Nat, n = k := ⟨n.toNat, by omega⟩
  have eA : rAll rC s = rRep rC k t := by unfold rAll; rw [e1]; rfl
  rw [eA]
  have HX := Lib.hid (show ∀ j, rRep rC (j + 1) t = ((rRep rC j t).1 ++ [(rC (rRep rC j t).2).1], (rC (rRep rC j t).2).2) from fun _ => rfl)
  have HL := Lib.hid (show ∀ j, (rRep rC j t).1.length = j from fun j => rep_len j t)
  have H00 := Lib.hid (show rRep rC 0 t = ([], t) from rfl)
  generalize rRep rC = X at *
  rw [hm] at k0 hs hw hmb C1
  clear hb0 e1 eA hm
  go_enter Tryz.func125, Tryz.ntmps125
  go_wp2_with fail
  with_reducible refine (C1.out).mono ?_
  rintro e w1 ⟨rfl, hr, hb⟩
  have HR1 := Lib.hid hr
  have HB1 := Lib.hid hb
  clear hr hb C1 k0
  go_wp2_with fail
  go_loopw [6, 16] (fun v i wr => ∃ j : Nat, j ≤ k ∧ i = .int .i64 j ∧ ∃ A c, v = .slice A j c ∧ OwnE EC wr w.heap.size (.slice A j c) (X j t).1 ∧ Rd wr p (X j t).2 ∧ But p w wr) (fun _ i _ => k - (intOf i).toNat)
  case atStart => exact ⟨0, Nat.zero_le _, rfl, none, 0, rfl, by rw [H00.out]; exact OwnE.nil _ _, by rw [H00.out]; exact HR1.out, HB1.out⟩
  case round =>
    obtain ⟨j, hk, rfl, A, c, rfl, ho, hr, hb⟩ := hrel
    have HO := Lib.hid ho
    have HR := Lib.hid hr
    have HB := Lib.hid hb
    clear ho hr hb HR1 HB1
    by_cases hlt : j < k
    · have C2 := Lib.hid (rcol_any wr HR.out)
      obtain ⟨x, t2, e2⟩ : ∃ x t2, rC (X j t).2 = (x, t2) := ⟨_, _, rfl⟩
      have hX := HX.out j
      rw [e2] at C2 hX
      have HX1 := Lib.hid hX
      have hlj := HL.out j
      clear hX e2
      go_wp2_with fail
      with_reducible refine (C2.out).mono ?_
      rintro e w2 ⟨rfl, hr, hb⟩
      have HO2 := Lib.hid ((hb.own HO.out hp).alloc (.cells #[.int .u8 x.r, .int .u8 x.g, .int .u8 x.b, .int .u8 x.a] 23))
      have HR2 := Lib.hid (hr.alloc (.cells #[.int .u8 x.r, .int .u8 x.g, .int .u8 x.b, .int .u8 x.a] 23))
      have HB2 := Lib.hid ((HB.out.trans hb).alloc hp (.cells #[.int .u8 x.r, .int .u8 x.g, .int .u8 x.b, .int .u8 x.a] 23))
      have HE2 := Lib.hid (es_one (E := EC) (x := x) (cs := #[.int .u8 x.r, .int .u8 x.g, .int .u8 x.b, .int .u8 x.a]) rfl (show (w2.alloc (.cells #[.int .u8 x.r, .int .u8 x.g, .int .u8 x.b, .int .u8 x.a] 23)).heap[w2.heap.size]? = some (.cells #[.int .u8 x.r, .int .u8 x.g, .int .u8 x.b, .int .u8 x.a] 23 (0, 0)) from heap_alloc_new _ _))
      have hsz := HB2.out.size
      clear hr hb C2 HO HR HB
      go_wp2_with (at_builtin; refine wpList_append_es rfl RV _ _ 1 rfl rfl rfl HO2.out HE2.out (by omega) (by simp) hsz ?_; intro v' w3 hown hg hat; obtain ⟨ho3, hbl⟩ := ownE_app HO2.out hown hg hsz; have hge := ownE_ge HO2.out; obtain ⟨A3, c3, rfl⟩ := ho3.form)
      go_roundw
      case rel =>
        have e3 : (X (j + 1) t).1 = (X j t).1 ++ [x] := by rw [HX1.out]
        have e4 : (X (j + 1) t).2 = t2 := by rw [HX1.out]
        have e5 : ((X j t).1 ++ [x]).length = j + 1 := by rw [List.length_append, hlj]; rfl
        refine ⟨j + 1, by omega, by go_num, A3, c3, rfl, ?_, ?_, ?_⟩
        · rw [e3, ← e5]; exact ho3
        · rw [e4]; exact HR2.out.grown hg hge hp
        · exact HB2.out.grown (by omega) hg hge
      case measure => simp [intOf]; omega
    · obtain rfl : j = k := by omega
      go_wp2_with fail
      go_ret
      exact ⟨A, c, (by rw [HL.out]; rfl), (by rw [HL.out]; exact HO.out), HR.out, HB.out⟩

set_option maxRecDepth 100000 in
set_option maxHeartbeats 2000000 in
theorem readI_any {p : Nat} {s : St} (w : World) (h : Rd w p s) (hs : s.l.length ≤ 100000) :
    Calls Tryz.prog 126 #[.pointer (some ⟨p, 0, none⟩), .func (.func 127) #[.pointer (some ⟨p, 0, none⟩)] #[]] w (ReadsE C.EI p (rAll rI s).1 (rAll rI s).2 w) := by
  obtain ⟨RV⟩ := rowI
  have hp := h.lt
  have hmb := many_bd s
  obtain ⟨n, t, e1⟩ : ∃ n t, rMany s = (n, t) := ⟨_, _, rfl⟩
  have C1 := Lib.hid (show Calls Tryz.prog 124 #[.pointer (some ⟨p, 0, none⟩), .int .i64 ((s.l.length : Int) - 1)] w (Reads p (.int .i64 n) t w) from by
    have h2 := upTo_any ((s.l.length : Int) - 1) w h
    have e2 : rUp ((s.l.length : Int) - 1) s = (n, t) := e1
    rw [e2] at h2
    exact h2)
  rw [e1] at hmb
  dsimp only at hmb
  have hw : IntKind.i64.wrap ((s.l.length : Int) - 1) = (s.l.length : Int) - 1 := by rw [IntKind.wrap_i64]; omega
  obtain ⟨A0, c0, hb0, -, -⟩ := h
  have k0 := (rdB_cell hb0).1
  obtain ⟨m, hm⟩ : ∃ m, s.l.length = m := ⟨_, rfl⟩
  obtain ⟨k, rfl⟩ : ∃ k : Nat, n = k := ⟨n.toNat, by omega⟩
  have eA : rAll rI s = rRep rI k t := by unfold rAll; rw [e1]; rfl
  rw [eA]
  have HX := Lib.hid (show ∀ j, rRep rI (j + 1) t = ((rRep rI j t).1 ++ [(rI (rRep rI j t).2).1], (rI (rRep rI j t).2).2) from fun _ => rfl)
  have HL := Lib.hid (show ∀ j, (rRep rI j t).1.length = j from fun j => rep_len j t)
  have H00 := Lib.hid (show rRep rI 0 t = ([], t) from rfl)
  generalize rRep rI = X at *
  rw [hm] at k0 hs hw hmb C1
  clear hb0 e1 eA hm
  go_enter Tryz.func126, Tryz.ntmps126
  go_wp2_with fail
  with_reducible refine (C1.out).mono ?_
  rintro e w1 ⟨rfl, hr, hb⟩
  have HR1 := Lib.hid hr
  have HB1 := Lib.hid hb
  clear hr hb C1 k0
  go_wp2_with fail
  go_loopw [6, 16] (fun v i wr => ∃ j : Nat, j ≤ k ∧ i = .int .i64 j ∧ ∃ A c, v = .slice A j c ∧ OwnE C.EI wr w.heap.size (.slice A j c) (X j t).1 ∧ Rd wr p (X j t).2 ∧ But p w wr) (fun _ i _ => k - (intOf i).toNat)
  case atStart => exact ⟨0, Nat.zero_le _, rfl, none, 0, rfl, by rw [H00.out]; exact OwnE.nil _ _, by rw [H00.out]; exact HR1.out, HB1.out⟩
  case round =>
    obtain ⟨j, hk, rfl, A, c, rfl, ho, hr, hb⟩ := hrel
    have HO := Lib.hid ho
    have HR := Lib.hid hr
    have HB := Lib.hid hb
    clear ho hr hb HR1 HB1
    by_cases hlt : j < k
    · have C2 := Lib.hid (rins_any wr HR.out)
      obtain ⟨x, t2, e2⟩ : ∃ x t2, rI (X j t).2 = (x, t2) := ⟨_, _, rfl⟩
      have hX := HX.out j
      rw [e2] at C2 hX
      have HX1 := Lib.hid hX
      have hlj := HL.out j
      clear hX e2
      go_wp2_with fail
      with_reducible refine (C2.out).mono ?_
      rintro e w2 ⟨rfl, hr, hb⟩
      have HO2 := Lib.hid ((hb.own HO.out hp).alloc (.cells #[.int .u8 x.o, .int .u8 x.d, .int .u8 x.a, .int .u8 x.b, .int .i64 x.n] 76))
      have HR2 := Lib.hid (hr.alloc (.cells #[.int .u8 x.o, .int .u8 x.d, .int .u8 x.a, .int .u8 x.b, .int .i64 x.n] 76))
      have HB2 := Lib.hid ((HB.out.trans hb).alloc hp (.cells #[.int .u8 x.o, .int .u8 x.d, .int .u8 x.a, .int .u8 x.b, .int .i64 x.n] 76))
      have HE2 := Lib.hid (es_one (E := C.EI) (x := x) (cs := #[.int .u8 x.o, .int .u8 x.d, .int .u8 x.a, .int .u8 x.b, .int .i64 x.n]) rfl (show (w2.alloc (.cells #[.int .u8 x.o, .int .u8 x.d, .int .u8 x.a, .int .u8 x.b, .int .i64 x.n] 76)).heap[w2.heap.size]? = some (.cells #[.int .u8 x.o, .int .u8 x.d, .int .u8 x.a, .int .u8 x.b, .int .i64 x.n] 76 (0, 0)) from heap_alloc_new _ _))
      have hsz := HB2.out.size
      clear hr hb C2 HO HR HB
      go_wp2_with (at_builtin; refine wpList_append_es rfl RV _ _ 1 rfl rfl rfl HO2.out HE2.out (by omega) (by simp) hsz ?_; intro v' w3 hown hg hat; obtain ⟨ho3, hbl⟩ := ownE_app HO2.out hown hg hsz; have hge := ownE_ge HO2.out; obtain ⟨A3, c3, rfl⟩ := ho3.form)
      go_roundw
      case rel =>
        have e3 : (X (j + 1) t).1 = (X j t).1 ++ [x] := by rw [HX1.out]
        have e4 : (X (j + 1) t).2 = t2 := by rw [HX1.out]
        have e5 : ((X j t).1 ++ [x]).length = j + 1 := by rw [List.length_append, hlj]; rfl
        refine ⟨j + 1, by omega, by go_num, A3, c3, rfl, ?_, ?_, ?_⟩
        · rw [e3, ← e5]; exact ho3
        · rw [e4]; exact HR2.out.grown hg hge hp
        · exact HB2.out.grown (by omega) hg hge
      case measure => simp [intOf]; omega
    · obtain rfl : j = k := by omega
      go_wp2_with fail
      go_ret
      exact ⟨A, c, (by rw [HL.out]; rfl), (by rw [HL.out]; exact HO.out), HR.out, HB.out⟩

set_option maxRecDepth 100000 in
set_option maxHeartbeats 2000000 in
theorem readR_any {p : Nat} {s : St} (w : World) (h : Rd w p s) (hs : s.l.length ≤ 100000) :
    Calls Tryz.prog 129 #[.pointer (some ⟨p, 0, none⟩), .func (.func 130) #[.pointer (some ⟨p, 0, none⟩)] #[]] w (ReadsE ER p (rAll rR s).1 (rAll rR s).2 w) := by
  obtain ⟨RV⟩ := rowR
  have hp := h.lt
  have hmb := many_bd s
  obtain ⟨n, t, e1⟩ : ∃ n t, rMany s = (n, t) := ⟨_, _, rfl⟩
  have C1 := Lib.hid (show Calls Tryz.prog 124 #[.pointer (some ⟨p, 0, none⟩), .int .i64 ((s.l.length : Int) - 1)] w (Reads p (.int .i64 n) t w) from by
    have h2 := upTo_any ((s.l.length : Int) - 1) w h
    have e2 : rUp ((s.l.length : Int) - 1) s = (n, t) := e1
    rw [e2] at h2
    exact h2)
  rw [e1] at hmb
  dsimp only at hmb
  have hw : IntKind.i64.wrap ((s.l.length : Int) - 1) = (s.l.length : Int) - 1 := by rw [IntKind.wrap_i64]; omega
  obtain ⟨A0, c0, hb0, -, -⟩ := h
  have k0 := (rdB_cell hb0).1
  obtain ⟨m, hm⟩ : ∃ m, s.l.length = m := ⟨_, rfl⟩
  obtain ⟨k, rfl⟩ : ∃ k : Nat, n = k := ⟨n.toNat, by omega⟩
  have eA : rAll rR s = rRep rR k t := by unfold rAll; rw [e1]; rfl
  rw [eA]
  have HX := Lib.hid (show ∀ j, rRep rR (j + 1) t = ((rRep rR j t).1 ++ [(rR (rRep rR j t).2).1], (rR (rRep rR j t).2).2) from fun _ => rfl)
  have HL := Lib.hid (show ∀ j, (rRep rR j t).1.length = j from fun j => rep_len j t)
  have H00 := Lib.hid (show rRep rR 0 t = ([], t) from rfl)
  generalize rRep rR = X at *
  rw [hm] at k0 hs hw hmb C1
  clear hb0 e1 eA hm
  go_enter Tryz.func129, Tryz.ntmps129
  go_wp2_with fail
  with_reducible refine (C1.out).mono ?_
  rintro e w1 ⟨rfl, hr, hb⟩
  have HR1 := Lib.hid hr
  have HB1 := Lib.hid hb
  clear hr hb C1 k0
  go_wp2_with fail
  go_loopw [6, 16] (fun v i wr => ∃ j : Nat, j ≤ k ∧ i = .int .i64 j ∧ ∃ A c, v = .slice A j c ∧ OwnE ER wr w.heap.size (.slice A j c) (X j t).1 ∧ Rd wr p (X j t).2 ∧ But p w wr) (fun _ i _ => k - (intOf i).toNat)
  case atStart => exact ⟨0, Nat.zero_le _, rfl, none, 0, rfl, by rw [H00.out]; exact OwnE.nil _ _, by rw [H00.out]; exact HR1.out, HB1.out⟩
  case round =>
    obtain ⟨j, hk, rfl, A, c, rfl, ho, hr, hb⟩ := hrel
    have HO := Lib.hid ho
    have HR := Lib.hid hr
    have HB := Lib.hid hb
    clear ho hr hb HR1 HB1
    by_cases hlt : j < k
    · have C2 := Lib.hid (rtri_any wr HR.out)
      obtain ⟨x, t2, e2⟩ : ∃ x t2, rR (X j t).2 = (x, t2) := ⟨_, _, rfl⟩
      have hX := HX.out j
      rw [e2] at C2 hX
      have HX1 := Lib.hid hX
      have hlj := HL.out j
      clear hX e2
      go_wp2_with fail
      with_reducible refine (C2.out).mono ?_
      rintro e w2 ⟨rfl, hr, hb⟩
      have HO2 := Lib.hid ((hb.own HO.out hp).alloc (.cells #[.int .i64 x.i, .int .i64 x.a, .int .i64 x.b, .int .i64 x.c] 86))
      have HR2 := Lib.hid (hr.alloc (.cells #[.int .i64 x.i, .int .i64 x.a, .int .i64 x.b, .int .i64 x.c] 86))
      have HB2 := Lib.hid ((HB.out.trans hb).alloc hp (.cells #[.int .i64 x.i, .int .i64 x.a, .int .i64 x.b, .int .i64 x.c] 86))
      have HE2 := Lib.hid (es_one (E := ER) (x := x) (cs := #[.int .i64 x.i, .int .i64 x.a, .int .i64 x.b, .int .i64 x.c]) rfl (show (w2.alloc (.cells #[.int .i64 x.i, .int .i64 x.a, .int .i64 x.b, .int .i64 x.c] 86)).heap[w2.heap.size]? = some (.cells #[.int .i64 x.i, .int .i64 x.a, .int .i64 x.b, .int .i64 x.c] 86 (0, 0)) from heap_alloc_new _ _))
      have hsz := HB2.out.size
      clear hr hb C2 HO HR HB
      go_wp2_with (at_builtin; refine wpList_append_es rfl RV _ _ 1 rfl rfl rfl HO2.out HE2.out (by omega) (by simp) hsz ?_; intro v' w3 hown hg hat; obtain ⟨ho3, hbl⟩ := ownE_app HO2.out hown hg hsz; have hge := ownE_ge HO2.out; obtain ⟨A3, c3, rfl⟩ := ho3.form)
      go_roundw
      case rel =>
        have e3 : (X (j + 1) t).1 = (X j t).1 ++ [x] := by rw [HX1.out]
        have e4 : (X (j + 1) t).2 = t2 := by rw [HX1.out]
        have e5 : ((X j t).1 ++ [x]).length = j + 1 := by rw [List.length_append, hlj]; rfl
        refine ⟨j + 1, by omega, by go_num, A3, c3, rfl, ?_, ?_, ?_⟩
        · rw [e3, ← e5]; exact ho3
        · rw [e4]; exact HR2.out.grown hg hge hp
        · exact HB2.out.grown (by omega) hg hge
      case measure => simp [intOf]; omega
    · obtain rfl : j = k := by omega
      go_wp2_with fail
      go_ret
      exact ⟨A, c, (by rw [HL.out]; rfl), (by rw [HL.out]; exact HO.out), HR.out, HB.out⟩
end Go.Proofs.YtfmmfaeognoleaaGreat
/-
  What a reader reads of pictures, programs and draws, and of their lists.
-/
namespace Go.Proofs.YtfmmfaeognoleaaGreat
open Go.RowKit
attribute [local go_sem ↓] Go.wp_at_zero Go.wp_at_succ

theorem OwnN.less {α β : Type} {E : Elem (Lo α)} {F : Elem β} {inn : α → List β} {w : World} {base base' : Nat} {v : Value} {ls : List (Lo α)} (h : OwnN E F inn w base v ls) (hb : base' ≤ base) : OwnN E F inn w base' v ls :=
  ⟨h.own.less hb, fun l hl => (h.els l hl).imp fun _ hb2 _ => ⟨Nat.le_trans hb hb2.1, hb2.2⟩, h.cap⟩
theorem sign_le (s : St) : (rSign s).2.l.length ≤ s.l.length := up_le 1 s
theorem rC_le (s : St) : (rC s).2.l.length ≤ s.l.length := by
  unfold rC rSm
  exact Nat.le_trans (up_le _ _) (Nat.le_trans (up_le _ _) (Nat.le_trans (up_le _ _) (up_le _ _)))
theorem rI_le (s : St) : (rI s).2.l.length ≤ s.l.length := by
  unfold rI rSm
  exact Nat.le_trans (num_le _) (Nat.le_trans (up_le _ _) (Nat.le_trans (up_le _ _) (Nat.le_trans (up_le _ _) (up_le _ _))))
theorem tri_le (s : St) : (rR s).2.l.length ≤ s.l.length := by
  unfold rR
  exact Nat.le_trans (num_le _) (Nat.le_trans (num_le _) (Nat.le_trans (num_le _) (num_le _)))
theorem vert_le (s : St) : (rV s).2.l.length ≤ s.l.length := by
  unfold rV
  exact Nat.le_trans (num_le _) (Nat.le_trans (num_le _) (Nat.le_trans (num_le _) (Nat.le_trans (num_le _) (Nat.le_trans (num_le _) (Nat.le_trans (num_le _) (Nat.le_trans (num_le _) (num_le _)))))))
theorem rep_le {α : Type} {f : St → α × St} (h : ∀ s, (f s).2.l.length ≤ s.l.length) : ∀ k s, (rRep f k s).2.l.length ≤ s.l.length
  | 0, _ => Nat.le_refl _
  | k + 1, s => Nat.le_trans (h _) (rep_le h k s)
theorem all_le {α : Type} {f : St → α × St} (h : ∀ s, (f s).2.l.length ≤ s.l.length) (s : St) : (rAll f s).2.l.length ≤ s.l.length := Nat.le_trans (rep_le h _ _) (up_le _ _)
theorem tex_le (s : St) : (rT s).2.l.length ≤ s.l.length := by
  unfold rT
  exact Nat.le_trans (all_le rC_le _) (Nat.le_trans (num_le _) (num_le _))
theorem prog_le (s : St) : (rP s).2.l.length ≤ s.l.length := all_le rI_le s
theorem draw_le (s : St) : (rD s).2.l.length ≤ s.l.length := by
  unfold rD
  exact Nat.le_trans (all_le tri_le _) (Nat.le_trans (up_le _ _) (Nat.le_trans (num_le _) (Nat.le_trans (num_le _) (num_le _))))
/-- What a nested list's call reads. -/
def ReadsN {α β : Type} (E : Elem (Lo α)) (F : Elem β) (inn : α → List β) (p : Nat) (xs : List α) (t : St) (w : World) (e : Ending) (w' : World) : Prop :=
  ∃ A c ls, e = .returned (.slice A ls.length c) ∧ ls.map Lo.x = xs ∧ OwnN E F inn w' w.heap.size (.slice A ls.length c) ls ∧ Rd w' p t ∧ But p w w'
/-- What one of its elements' call reads. -/
def ReadsL {α β : Type} (F : Elem β) (inn : α → List β) (val : Lo α → Value) (p : Nat) (x : α) (t : St) (w : World) (e : Ending) (w' : World) : Prop :=
  ∃ A c, e = .returned (val ⟨x, A, c⟩) ∧ OwnE F w' w.heap.size (.slice A (inn x).length c) (inn x) ∧ Rd w' p t ∧ But p w w'
def vT (u : Lo Tx) : Value := .agg #[.int .i64 u.x.w, .int .i64 u.x.h, .slice u.A u.x.px.length u.c]
def vP (u : Lo (List C.In)) : Value := .slice u.A u.x.length u.c
def vD (u : Lo Dr) : Value := .agg #[.int .i64 u.x.id, .int .i64 u.x.prog, .int .i64 u.x.tex, .bool u.x.op, .slice u.A u.x.tris.length u.c]
set_option maxRecDepth 100000 in
set_option maxHeartbeats 2000000 in
theorem rtex_any {p : Nat} {s : St} (w : World) (h : Rd w p s) (hs : s.l.length ≤ 100000) :
    Calls Tryz.prog 97 #[.pointer (some ⟨p, 0, none⟩)] w (ReadsL EC Tx.px vT p (rT s).1 (rT s).2 w) := by
  have hp := h.lt
  have hmf := mk_func
  have H0 := Lib.hid (show Rd (w.alloc (.cells #[.int .i64 0, .int .i64 0, .slice none 0 0] 47)) p s from h.alloc _)
  have HB0 := Lib.hid (show But p w (w.alloc (.cells #[.int .i64 0, .int .i64 0, .slice none 0 0] 47)) from (But.refl p w).alloc hp _)
  have HG0 := Lib.hid (show (w.alloc (.cells #[.int .i64 0, .int .i64 0, .slice none 0 0] 47)).heap[w.heap.size]? = some (.cells #[.int .i64 0, .int .i64 0, .slice none 0 0] 47 (0, 0)) from heap_alloc_new _ _)
  have HZ0 := Lib.hid (show w.heap.size < (w.alloc (.cells #[.int .i64 0, .int .i64 0, .slice none 0 0] 47)).heap.size by simp)
  clear h
  obtain ⟨x1, t1, e1⟩ : ∃ x t, rNum s = (x, t) := ⟨_, _, rfl⟩
  have C1 := Lib.hid (show ∀ w, Rd w p s → Calls Tryz.prog 92 #[.pointer (some ⟨p, 0, none⟩)] w (Reads p (.int .i64 x1) t1 w) from fun w h => by have h2 := number_any w h; rw [e1] at h2; exact h2)
  have l1 : t1.l.length ≤ 100000 := by have h2 := num_le s; rw [e1] at h2; exact Nat.le_trans h2 hs
  obtain ⟨x2, t2, e2⟩ : ∃ x t, rNum t1 = (x, t) := ⟨_, _, rfl⟩
  have C2 := Lib.hid (show ∀ w, Rd w p t1 → Calls Tryz.prog 92 #[.pointer (some ⟨p, 0, none⟩)] w (Reads p (.int .i64 x2) t2 w) from fun w h => by have h2 := number_any w h; rw [e2] at h2; exact h2)
  have l2 : t2.l.length ≤ 100000 := by have h2 := num_le t1; rw [e2] at h2; exact Nat.le_trans h2 l1
  obtain ⟨x3, t3, e3⟩ : ∃ x t, rAll rC t2 = (x, t) := ⟨_, _, rfl⟩
  have C3 := Lib.hid (show ∀ w, Rd w p t2 → Calls Tryz.prog 125 #[.pointer (some ⟨p, 0, none⟩), .func (.func 93) #[.pointer (some ⟨p, 0, none⟩)] #[]] w (ReadsE EC p x3 t3 w) from fun w h => by have h2 := readC_any w h l2; rw [e3] at h2; exact h2)
  have hC : rT s = (⟨x1, x2, x3⟩, t3) := by unfold rT; simp only [e1, e2, e3]
  rw [hC]
  clear hC e1 e2 e3 l1 l2
  go_enter Tryz.func97, Tryz.ntmps97
  go_wp2_with fail
  with_reducible refine (C1.out _ H0.out).mono ?_
  rintro e w1 ⟨rfl, hr, hb⟩
  have HR1 := Lib.hid hr
  have HB1 := Lib.hid (HB0.out.trans hb)
  have HG1 := Lib.hid ((hb.block HZ0.out (by omega)).trans HG0.out)
  have HZ1 := Lib.hid (Nat.lt_of_lt_of_le HZ0.out hb.size)
  clear hr hb  C1 H0 HB0 HG0 HZ0 
  go_wp2_with fail
  with_reducible refine (C2.out _ HR1.out).mono ?_
  rintro e w2 ⟨rfl, hr, hb⟩
  have HR2 := Lib.hid hr
  have HB2 := Lib.hid (HB1.out.trans hb)
  have HG2 := Lib.hid ((hb.block HZ1.out (by omega)).trans HG1.out)
  have HZ2 := Lib.hid (Nat.lt_of_lt_of_le HZ1.out hb.size)
  clear hr hb  C2 HR1 HB1 HG1 HZ1 
  go_wp2_with fail
  with_reducible refine (C3.out _ HR2.out).mono ?_
  rintro e w3 ⟨A3, c3, rfl, ho, hr, hb⟩
  have HO3_3 := Lib.hid (ho.less HZ2.out)
  have HR3 := Lib.hid hr
  have HB3 := Lib.hid (HB2.out.trans hb)
  have HG3 := Lib.hid ((hb.block HZ2.out (by omega)).trans HG2.out)
  have HZ3 := Lib.hid (Nat.lt_of_lt_of_le HZ2.out hb.size)
  clear hr hb ho C3 HR2 HB2 HG2 HZ2 
  have f0 : w3.frozen? ⟨w.heap.size, 0, none⟩ = false := by simp [World.frozen?, HG3.out]
  have q0 := Joins.cell_of_block HG3.out 0
  have f1 : w3.frozen? ⟨w.heap.size, 1, none⟩ = false := by simp [World.frozen?, HG3.out]
  have q1 := Joins.cell_of_block HG3.out 1
  have f2 : w3.frozen? ⟨w.heap.size, 2, none⟩ = false := by simp [World.frozen?, HG3.out]
  have q2 := Joins.cell_of_block HG3.out 2
  have HS := Lib.hid (show ((((w3).setCell ⟨w.heap.size, 0, none⟩ (.int .i64 x1)).setCell ⟨w.heap.size, 1, none⟩ (.int .i64 x2)).setCell ⟨w.heap.size, 2, none⟩ (.slice A3 x3.length c3)).heap[w.heap.size]? = some (.cells #[.int .i64 x1, .int .i64 x2, .slice A3 x3.length c3] 47 (0, 0)) from (heap_setCell_same _ _ _ _ _ _ (heap_setCell_same _ _ _ _ _ _ (heap_setCell_same _ _ _ _ _ _ HG3.out))).trans (by simp))
  have HX := Lib.hid (show Rd ((((w3).setCell ⟨w.heap.size, 0, none⟩ (.int .i64 x1)).setCell ⟨w.heap.size, 1, none⟩ (.int .i64 x2)).setCell ⟨w.heap.size, 2, none⟩ (.slice A3 x3.length c3)) p t3 from (((HR3.out.setNew hp).setNew hp).setNew hp))
  have HY := Lib.hid (show But p w ((((w3).setCell ⟨w.heap.size, 0, none⟩ (.int .i64 x1)).setCell ⟨w.heap.size, 1, none⟩ (.int .i64 x2)).setCell ⟨w.heap.size, 2, none⟩ (.slice A3 x3.length c3)) from (((HB3.out.setNew (by omega) (Nat.le_refl _)).setNew (by omega) (Nat.le_refl _)).setNew (by omega) (Nat.le_refl _)))
  have HO3 := Lib.hid (show OwnE EC ((((w3).setCell ⟨w.heap.size, 0, none⟩ (.int .i64 x1)).setCell ⟨w.heap.size, 1, none⟩ (.int .i64 x2)).setCell ⟨w.heap.size, 2, none⟩ (.slice A3 x3.length c3)) (w.heap.size + 1) (.slice A3 x3.length c3) x3 from (((HO3_3.out.setCell (Nat.lt_succ_self _)).setCell (Nat.lt_succ_self _)).setCell (Nat.lt_succ_self _)))
  go_wp2_with fail
  obtain ⟨W, hW⟩ : ∃ W, (((w3).setCell ⟨w.heap.size, 0, none⟩ (.int .i64 x1)).setCell ⟨w.heap.size, 1, none⟩ (.int .i64 x2)).setCell ⟨w.heap.size, 2, none⟩ (.slice A3 x3.length c3) = W := ⟨_, rfl⟩
  rw [hW] at HS HX HY HO3
  try rw [hW]
  have k0 := Joins.cell_of_block HS.out 0
  have k1 := Joins.cell_of_block HS.out 1
  have k2 := Joins.cell_of_block HS.out 2
  refine bodyPost_ret (v := .agg #[.int .i64 x1, .int .i64 x2, .slice A3 x3.length c3]) (by simp [results, Tryz.results97, go_sem, k0, k1, k2]) rfl ?_
  exact ⟨A3, c3, rfl, HO3.out.less (Nat.le_succ _), HX.out, HY.out⟩
set_option maxRecDepth 100000 in
set_option maxHeartbeats 2000000 in
theorem readT_any {p : Nat} {s : St} (w : World) (h : Rd w p s) (hs : s.l.length ≤ 100000) :
    Calls Tryz.prog 96 #[.pointer (some ⟨p, 0, none⟩), .func (.func 97) #[.pointer (some ⟨p, 0, none⟩)] #[]] w (ReadsN ET EC Tx.px p (rAll rT s).1 (rAll rT s).2 w) := by
  obtain ⟨RV⟩ := rowT
  have hp := h.lt
  have hmb := many_bd s
  obtain ⟨n, t, e1⟩ : ∃ n t, rMany s = (n, t) := ⟨_, _, rfl⟩
  have C1 := Lib.hid (show Calls Tryz.prog 124 #[.pointer (some ⟨p, 0, none⟩), .int .i64 ((s.l.length : Int) - 1)] w (Reads p (.int .i64 n) t w) from by
    have h2 := upTo_any ((s.l.length : Int) - 1) w h
    have e2 : rUp ((s.l.length : Int) - 1) s = (n, t) := e1
    rw [e2] at h2
    exact h2)
  have htl : t.l.length ≤ 100000 := by
    have h2 := up_le ((s.l.length : Int) - 1) s
    have e2 : rUp ((s.l.length : Int) - 1) s = (n, t) := e1
    rw [e2] at h2
    exact Nat.le_trans h2 hs
  rw [e1] at hmb
  dsimp only at hmb
  have hw : IntKind.i64.wrap ((s.l.length : Int) - 1) = (s.l.length : Int) - 1 := by rw [IntKind.wrap_i64]; omega
  obtain ⟨A0, c0, hb0, -, -⟩ := h
  have k0 := (rdB_cell hb0).1
  obtain ⟨m, hm⟩ : ∃ m, s.l.length = m := ⟨_, rfl⟩
  obtain ⟨k, rfl⟩ : ∃ k : Nat, n = k := ⟨n.toNat, by omega⟩
  have eA : rAll rT s = rRep rT k t := by unfold rAll; rw [e1]; rfl
  rw [eA]
  have HX := Lib.hid (show ∀ j, rRep rT (j + 1) t = ((rRep rT j t).1 ++ [(rT (rRep rT j t).2).1], (rT (rRep rT j t).2).2) from fun _ => rfl)
  have HL := Lib.hid (show ∀ j, (rRep rT j t).1.length = j from fun j => rep_len j t)
  have HLe := Lib.hid (show ∀ j, (rRep rT j t).2.l.length ≤ 100000 from fun j => Nat.le_trans (rep_le tex_le j t) htl)
  have H00 := Lib.hid (show rRep rT 0 t = ([], t) from rfl)
  generalize rRep rT = X at *
  rw [hm] at k0 hs hw hmb C1
  clear hb0 e1 eA hm htl
  go_enter Tryz.func96, Tryz.ntmps96
  go_wp2_with fail
  with_reducible refine (C1.out).mono ?_
  rintro e w1 ⟨rfl, hr, hb⟩
  have HR1 := Lib.hid hr
  have HB1 := Lib.hid hb
  clear hr hb C1 k0
  go_wp2_with fail
  go_loopw [6, 16] (fun v i wr => ∃ j : Nat, j ≤ k ∧ i = .int .i64 j ∧ ∃ A c ls, v = .slice A j c ∧ ls.length = j ∧ ls.map Lo.x = (X j t).1 ∧ OwnN ET EC Tx.px wr w.heap.size (.slice A j c) ls ∧ Rd wr p (X j t).2 ∧ But p w wr) (fun _ i _ => k - (intOf i).toNat)
  case atStart => exact ⟨0, Nat.zero_le _, rfl, none, 0, [], rfl, rfl, (by rw [H00.out]; rfl), OwnN.nil _ _, (by rw [H00.out]; exact HR1.out), HB1.out⟩
  case round =>
    obtain ⟨j, hk, rfl, A, c, ls, rfl, hlj, hmp, ho, hr, hb⟩ := hrel
    have HO := Lib.hid ho
    have HR := Lib.hid hr
    have HB := Lib.hid hb
    have HMp := Lib.hid hmp
    clear ho hr hb hmp HR1 HB1
    by_cases hlt : j < k
    · have C2 := Lib.hid (rtex_any wr HR.out (HLe.out j))
      obtain ⟨x, t2, e2⟩ : ∃ x t2, rT (X j t).2 = (x, t2) := ⟨_, _, rfl⟩
      have hX := HX.out j
      rw [e2] at C2 hX
      have HX1 := Lib.hid hX
      clear hX e2
      go_wp2_with fail
      with_reducible refine (C2.out).mono ?_
      rintro e w2 ⟨A2, c2, he, hoi, hr, hb⟩
      obtain rfl : e = .returned (.agg #[.int .i64 (⟨x, A2, c2⟩ : Lo Tx).x.w, .int .i64 (⟨x, A2, c2⟩ : Lo Tx).x.h, .slice (⟨x, A2, c2⟩ : Lo Tx).A (⟨x, A2, c2⟩ : Lo Tx).x.px.length (⟨x, A2, c2⟩ : Lo Tx).c]) := he
      have HO1 := Lib.hid (hb.ownN HO.out hp)
      have HI2 := Lib.hid (show EsP EC (w2.alloc (.cells #[.int .i64 (⟨x, A2, c2⟩ : Lo Tx).x.w, .int .i64 (⟨x, A2, c2⟩ : Lo Tx).x.h, .slice (⟨x, A2, c2⟩ : Lo Tx).A (⟨x, A2, c2⟩ : Lo Tx).x.px.length (⟨x, A2, c2⟩ : Lo Tx).c] 47)) (fun b => w.heap.size ≤ b ∧ (Value.slice A j c).ownBlock ≠ some b) A2 (Tx.px x) from
        ((OwnE.toP hoi).imp fun b hb2 _ => ⟨by have := HB.out.size; omega, fun e => by have := ownE_lt HO.out.own e; omega⟩).keep fun b _ hlt => (new_below w2 _).block b hlt)
      have HC2 := Lib.hid (ownE_es hoi).2.1
      have HO2 := Lib.hid ((hb.ownN HO.out hp).keep (new_below w2 (.cells #[.int .i64 (⟨x, A2, c2⟩ : Lo Tx).x.w, .int .i64 (⟨x, A2, c2⟩ : Lo Tx).x.h, .slice (⟨x, A2, c2⟩ : Lo Tx).A (⟨x, A2, c2⟩ : Lo Tx).x.px.length (⟨x, A2, c2⟩ : Lo Tx).c] 47)))
      have HR2 := Lib.hid (hr.alloc (.cells #[.int .i64 (⟨x, A2, c2⟩ : Lo Tx).x.w, .int .i64 (⟨x, A2, c2⟩ : Lo Tx).x.h, .slice (⟨x, A2, c2⟩ : Lo Tx).A (⟨x, A2, c2⟩ : Lo Tx).x.px.length (⟨x, A2, c2⟩ : Lo Tx).c] 47))
      have HB2 := Lib.hid ((HB.out.trans hb).alloc hp (.cells #[.int .i64 (⟨x, A2, c2⟩ : Lo Tx).x.w, .int .i64 (⟨x, A2, c2⟩ : Lo Tx).x.h, .slice (⟨x, A2, c2⟩ : Lo Tx).A (⟨x, A2, c2⟩ : Lo Tx).x.px.length (⟨x, A2, c2⟩ : Lo Tx).c] 47))
      have HE2 := Lib.hid (es_one (E := ET) (x := ⟨x, A2, c2⟩) (cs := #[.int .i64 (⟨x, A2, c2⟩ : Lo Tx).x.w, .int .i64 (⟨x, A2, c2⟩ : Lo Tx).x.h, .slice (⟨x, A2, c2⟩ : Lo Tx).A (⟨x, A2, c2⟩ : Lo Tx).x.px.length (⟨x, A2, c2⟩ : Lo Tx).c]) rfl (show (w2.alloc (.cells #[.int .i64 (⟨x, A2, c2⟩ : Lo Tx).x.w, .int .i64 (⟨x, A2, c2⟩ : Lo Tx).x.h, .slice (⟨x, A2, c2⟩ : Lo Tx).A (⟨x, A2, c2⟩ : Lo Tx).x.px.length (⟨x, A2, c2⟩ : Lo Tx).c] 47)).heap[w2.heap.size]? = some (.cells #[.int .i64 (⟨x, A2, c2⟩ : Lo Tx).x.w, .int .i64 (⟨x, A2, c2⟩ : Lo Tx).x.h, .slice (⟨x, A2, c2⟩ : Lo Tx).A (⟨x, A2, c2⟩ : Lo Tx).x.px.length (⟨x, A2, c2⟩ : Lo Tx).c] 47 (0, 0)) from heap_alloc_new _ _))
      have hsz := HB2.out.size
      have hsz2 := (HB.out.trans hb).size
      clear hr hb hoi C2 HO HR HB
      
      go_wp2_with (at_builtin; refine wpList_append_ln rfl RV _ _ 1 1 (show [(⟨x, A2, c2⟩ : Lo (Tx))].length = 1 from rfl) rfl rfl rfl HO2.out.own HE2.out (by omega) (by simp) hsz ?_; intro v' w3 hown hg hat; obtain ⟨ho3, hbl⟩ := HO1.out.app (new_below w2 (.cells #[.int .i64 (⟨x, A2, c2⟩ : Lo Tx).x.w, .int .i64 (⟨x, A2, c2⟩ : Lo Tx).x.h, .slice (⟨x, A2, c2⟩ : Lo Tx).A (⟨x, A2, c2⟩ : Lo Tx).x.px.length (⟨x, A2, c2⟩ : Lo Tx).c] 47)) hsz2 (by simpa [Elem.flat] using hown) hg hat HI2.out HC2.out; have hge := ownE_ge HO2.out.own; obtain ⟨A3, c3, rfl⟩ := ho3.own.form)
      go_roundw
      case rel =>
        have e3 : (X (j + 1) t).1 = (X j t).1 ++ [x] := by rw [HX1.out]
        have e4 : (X (j + 1) t).2 = t2 := by rw [HX1.out]
        have e5 : (ls ++ [(⟨x, A2, c2⟩ : Lo (Tx))]).length = j + 1 := by rw [List.length_append, hlj]; rfl
        refine ⟨j + 1, by omega, by go_num, A3, c3, ls ++ [⟨x, A2, c2⟩], ?_, e5, ?_, ?_, ?_, ?_⟩
        · rw [← e5]
        · rw [e3, List.map_append, HMp.out]; rfl
        · rw [← e5]; exact ho3
        · rw [e4]; exact HR2.out.grown hg hge hp
        · exact HB2.out.grown (by omega) hg hge
      case measure => simp [intOf]; omega
    · obtain rfl : j = k := by omega
      go_wp2_with fail
      go_ret
      exact ⟨A, c, ls, (by rw [hlj]; rfl), HMp.out, (by rw [hlj]; exact HO.out), HR.out, HB.out⟩
set_option maxRecDepth 100000 in
set_option maxHeartbeats 1000000 in
theorem rprog_any {p : Nat} {s : St} (w : World) (h : Rd w p s) (hs : s.l.length ≤ 100000) :
    Calls Tryz.prog 99 #[.pointer (some ⟨p, 0, none⟩)] w (ReadsL C.EI id vP p (rP s).1 (rP s).2 w) := by
  have hmf := mk_func
  have H := Lib.hid (readI_any w h hs)
  have e : rP s = rAll rI s := rfl
  rw [e]
  generalize rAll rI s = r at *
  obtain ⟨x, t⟩ := r
  dsimp only at *
  clear h e
  go_enter Tryz.func99, Tryz.ntmps99
  go_wp2_with fail
  with_reducible refine (H.out).mono ?_
  rintro e w1 ⟨A, c, rfl, ho, hr, hb⟩
  have HR := Lib.hid (And.intro ho (And.intro hr hb))
  clear ho hr hb
  go_wp2_with fail
  go_ret
  exact ⟨A, c, rfl, HR.out.1, HR.out.2.1, HR.out.2.2⟩
set_option maxRecDepth 100000 in
set_option maxHeartbeats 2000000 in
theorem readP_any {p : Nat} {s : St} (w : World) (h : Rd w p s) (hs : s.l.length ≤ 100000) :
    Calls Tryz.prog 98 #[.pointer (some ⟨p, 0, none⟩), .func (.func 99) #[.pointer (some ⟨p, 0, none⟩)] #[]] w (ReadsN EP C.EI id p (rAll rP s).1 (rAll rP s).2 w) := by
  obtain ⟨RV⟩ := rowP
  have hp := h.lt
  have hmb := many_bd s
  obtain ⟨n, t, e1⟩ : ∃ n t, rMany s = (n, t) := ⟨_, _, rfl⟩
  have C1 := Lib.hid (show Calls Tryz.prog 124 #[.pointer (some ⟨p, 0, none⟩), .int .i64 ((s.l.length : Int) - 1)] w (Reads p (.int .i64 n) t w) from by
    have h2 := upTo_any ((s.l.length : Int) - 1) w h
    have e2 : rUp ((s.l.length : Int) - 1) s = (n, t) := e1
    rw [e2] at h2
    exact h2)
  have htl : t.l.length ≤ 100000 := by
    have h2 := up_le ((s.l.length : Int) - 1) s
    have e2 : rUp ((s.l.length : Int) - 1) s = (n, t) := e1
    rw [e2] at h2
    exact Nat.le_trans h2 hs
  rw [e1] at hmb
  dsimp only at hmb
  have hw : IntKind.i64.wrap ((s.l.length : Int) - 1) = (s.l.length : Int) - 1 := by rw [IntKind.wrap_i64]; omega
  obtain ⟨A0, c0, hb0, -, -⟩ := h
  have k0 := (rdB_cell hb0).1
  obtain ⟨m, hm⟩ : ∃ m, s.l.length = m := ⟨_, rfl⟩
  obtain ⟨k, rfl⟩ : ∃ k : Nat, n = k := ⟨n.toNat, by omega⟩
  have eA : rAll rP s = rRep rP k t := by unfold rAll; rw [e1]; rfl
  rw [eA]
  have HX := Lib.hid (show ∀ j, rRep rP (j + 1) t = ((rRep rP j t).1 ++ [(rP (rRep rP j t).2).1], (rP (rRep rP j t).2).2) from fun _ => rfl)
  have HL := Lib.hid (show ∀ j, (rRep rP j t).1.length = j from fun j => rep_len j t)
  have HLe := Lib.hid (show ∀ j, (rRep rP j t).2.l.length ≤ 100000 from fun j => Nat.le_trans (rep_le prog_le j t) htl)
  have H00 := Lib.hid (show rRep rP 0 t = ([], t) from rfl)
  generalize rRep rP = X at *
  rw [hm] at k0 hs hw hmb C1
  clear hb0 e1 eA hm htl
  go_enter Tryz.func98, Tryz.ntmps98
  go_wp2_with fail
  with_reducible refine (C1.out).mono ?_
  rintro e w1 ⟨rfl, hr, hb⟩
  have HR1 := Lib.hid hr
  have HB1 := Lib.hid hb
  clear hr hb C1 k0
  go_wp2_with fail
  go_loopw [6, 16] (fun v i wr => ∃ j : Nat, j ≤ k ∧ i = .int .i64 j ∧ ∃ A c ls, v = .slice A j c ∧ ls.length = j ∧ ls.map Lo.x = (X j t).1 ∧ OwnN EP C.EI id wr w.heap.size (.slice A j c) ls ∧ Rd wr p (X j t).2 ∧ But p w wr) (fun _ i _ => k - (intOf i).toNat)
  case atStart => exact ⟨0, Nat.zero_le _, rfl, none, 0, [], rfl, rfl, (by rw [H00.out]; rfl), OwnN.nil _ _, (by rw [H00.out]; exact HR1.out), HB1.out⟩
  case round =>
    obtain ⟨j, hk, rfl, A, c, ls, rfl, hlj, hmp, ho, hr, hb⟩ := hrel
    have HO := Lib.hid ho
    have HR := Lib.hid hr
    have HB := Lib.hid hb
    have HMp := Lib.hid hmp
    clear ho hr hb hmp HR1 HB1
    by_cases hlt : j < k
    · have C2 := Lib.hid (rprog_any wr HR.out (HLe.out j))
      obtain ⟨x, t2, e2⟩ : ∃ x t2, rP (X j t).2 = (x, t2) := ⟨_, _, rfl⟩
      have hX := HX.out j
      rw [e2] at C2 hX
      have HX1 := Lib.hid hX
      clear hX e2
      go_wp2_with fail
      with_reducible refine (C2.out).mono ?_
      rintro e w2 ⟨A2, c2, he, hoi, hr, hb⟩
      obtain rfl : e = .returned (.slice (⟨x, A2, c2⟩ : Lo (List C.In)).A (⟨x, A2, c2⟩ : Lo (List C.In)).x.length (⟨x, A2, c2⟩ : Lo (List C.In)).c) := he
      have HO1 := Lib.hid (hb.ownN HO.out hp)
      have HI2 := Lib.hid (show EsP C.EI (w2.alloc (.cells #[.slice (⟨x, A2, c2⟩ : Lo (List C.In)).A (⟨x, A2, c2⟩ : Lo (List C.In)).x.length (⟨x, A2, c2⟩ : Lo (List C.In)).c] 48)) (fun b => w.heap.size ≤ b ∧ (Value.slice A j c).ownBlock ≠ some b) A2 (id x) from
        ((OwnE.toP hoi).imp fun b hb2 _ => ⟨by have := HB.out.size; omega, fun e => by have := ownE_lt HO.out.own e; omega⟩).keep fun b _ hlt => (new_below w2 _).block b hlt)
      have HC2 := Lib.hid (ownE_es hoi).2.1
      have HO2 := Lib.hid ((hb.ownN HO.out hp).keep (new_below w2 (.cells #[.slice (⟨x, A2, c2⟩ : Lo (List C.In)).A (⟨x, A2, c2⟩ : Lo (List C.In)).x.length (⟨x, A2, c2⟩ : Lo (List C.In)).c] 48)))
      have HR2 := Lib.hid (hr.alloc (.cells #[.slice (⟨x, A2, c2⟩ : Lo (List C.In)).A (⟨x, A2, c2⟩ : Lo (List C.In)).x.length (⟨x, A2, c2⟩ : Lo (List C.In)).c] 48))
      have HB2 := Lib.hid ((HB.out.trans hb).alloc hp (.cells #[.slice (⟨x, A2, c2⟩ : Lo (List C.In)).A (⟨x, A2, c2⟩ : Lo (List C.In)).x.length (⟨x, A2, c2⟩ : Lo (List C.In)).c] 48))
      have HE2 := Lib.hid (es_one (E := EP) (x := ⟨x, A2, c2⟩) (cs := #[.slice (⟨x, A2, c2⟩ : Lo (List C.In)).A (⟨x, A2, c2⟩ : Lo (List C.In)).x.length (⟨x, A2, c2⟩ : Lo (List C.In)).c]) rfl (show (w2.alloc (.cells #[.slice (⟨x, A2, c2⟩ : Lo (List C.In)).A (⟨x, A2, c2⟩ : Lo (List C.In)).x.length (⟨x, A2, c2⟩ : Lo (List C.In)).c] 48)).heap[w2.heap.size]? = some (.cells #[.slice (⟨x, A2, c2⟩ : Lo (List C.In)).A (⟨x, A2, c2⟩ : Lo (List C.In)).x.length (⟨x, A2, c2⟩ : Lo (List C.In)).c] 48 (0, 0)) from heap_alloc_new _ _))
      have hsz := HB2.out.size
      have hsz2 := (HB.out.trans hb).size
      clear hr hb hoi C2 HO HR HB
      
      go_wp2_with (at_builtin; refine wpList_append_ln rfl RV _ _ 1 1 (show [(⟨x, A2, c2⟩ : Lo (List C.In))].length = 1 from rfl) rfl rfl rfl HO2.out.own HE2.out (by omega) (by simp) hsz ?_; intro v' w3 hown hg hat; obtain ⟨ho3, hbl⟩ := HO1.out.app (new_below w2 (.cells #[.slice (⟨x, A2, c2⟩ : Lo (List C.In)).A (⟨x, A2, c2⟩ : Lo (List C.In)).x.length (⟨x, A2, c2⟩ : Lo (List C.In)).c] 48)) hsz2 (by simpa [Elem.flat] using hown) hg hat HI2.out HC2.out; have hge := ownE_ge HO2.out.own; obtain ⟨A3, c3, rfl⟩ := ho3.own.form)
      go_roundw
      case rel =>
        have e3 : (X (j + 1) t).1 = (X j t).1 ++ [x] := by rw [HX1.out]
        have e4 : (X (j + 1) t).2 = t2 := by rw [HX1.out]
        have e5 : (ls ++ [(⟨x, A2, c2⟩ : Lo (List C.In))]).length = j + 1 := by rw [List.length_append, hlj]; rfl
        refine ⟨j + 1, by omega, by go_num, A3, c3, ls ++ [⟨x, A2, c2⟩], ?_, e5, ?_, ?_, ?_, ?_⟩
        · rw [← e5]
        · rw [e3, List.map_append, HMp.out]; rfl
        · rw [← e5]; exact ho3
        · rw [e4]; exact HR2.out.grown hg hge hp
        · exact HB2.out.grown (by omega) hg hge
      case measure => simp [intOf]; omega
    · obtain rfl : j = k := by omega
      go_wp2_with fail
      go_ret
      exact ⟨A, c, ls, (by rw [hlj]; rfl), HMp.out, (by rw [hlj]; exact HO.out), HR.out, HB.out⟩
set_option maxRecDepth 100000 in
set_option maxHeartbeats 2000000 in
theorem rddraw_any {p : Nat} {s : St} (w : World) (h : Rd w p s) (hs : s.l.length ≤ 100000) :
    Calls Tryz.prog 101 #[.pointer (some ⟨p, 0, none⟩)] w (ReadsL ER Dr.tris vD p (rD s).1 (rD s).2 w) := by
  have hp := h.lt
  have hmf := mk_func
  have H0 := Lib.hid (show Rd (w.alloc (.cells #[.int .i64 0, .int .i64 0, .int .i64 0, .bool false, .slice none 0 0] 51)) p s from h.alloc _)
  have HB0 := Lib.hid (show But p w (w.alloc (.cells #[.int .i64 0, .int .i64 0, .int .i64 0, .bool false, .slice none 0 0] 51)) from (But.refl p w).alloc hp _)
  have HG0 := Lib.hid (show (w.alloc (.cells #[.int .i64 0, .int .i64 0, .int .i64 0, .bool false, .slice none 0 0] 51)).heap[w.heap.size]? = some (.cells #[.int .i64 0, .int .i64 0, .int .i64 0, .bool false, .slice none 0 0] 51 (0, 0)) from heap_alloc_new _ _)
  have HZ0 := Lib.hid (show w.heap.size < (w.alloc (.cells #[.int .i64 0, .int .i64 0, .int .i64 0, .bool false, .slice none 0 0] 51)).heap.size by simp)
  clear h
  obtain ⟨x1, t1, e1⟩ : ∃ x t, rNum s = (x, t) := ⟨_, _, rfl⟩
  have C1 := Lib.hid (show ∀ w, Rd w p s → Calls Tryz.prog 92 #[.pointer (some ⟨p, 0, none⟩)] w (Reads p (.int .i64 x1) t1 w) from fun w h => by have h2 := number_any w h; rw [e1] at h2; exact h2)
  have l1 : t1.l.length ≤ 100000 := by have h2 := num_le s; rw [e1] at h2; exact Nat.le_trans h2 hs
  obtain ⟨x2, t2, e2⟩ : ∃ x t, rNum t1 = (x, t) := ⟨_, _, rfl⟩
  have C2 := Lib.hid (show ∀ w, Rd w p t1 → Calls Tryz.prog 92 #[.pointer (some ⟨p, 0, none⟩)] w (Reads p (.int .i64 x2) t2 w) from fun w h => by have h2 := number_any w h; rw [e2] at h2; exact h2)
  have l2 : t2.l.length ≤ 100000 := by have h2 := num_le t1; rw [e2] at h2; exact Nat.le_trans h2 l1
  obtain ⟨x3, t3, e3⟩ : ∃ x t, rNum t2 = (x, t) := ⟨_, _, rfl⟩
  have C3 := Lib.hid (show ∀ w, Rd w p t2 → Calls Tryz.prog 92 #[.pointer (some ⟨p, 0, none⟩)] w (Reads p (.int .i64 x3) t3 w) from fun w h => by have h2 := number_any w h; rw [e3] at h2; exact h2)
  have l3 : t3.l.length ≤ 100000 := by have h2 := num_le t2; rw [e3] at h2; exact Nat.le_trans h2 l2
  obtain ⟨x4, t4, e4⟩ : ∃ x t, rSign t3 = (x, t) := ⟨_, _, rfl⟩
  have C4 := Lib.hid (show ∀ w, Rd w p t3 → Calls Tryz.prog 128 #[.pointer (some ⟨p, 0, none⟩)] w (Reads p (.bool x4) t4 w) from fun w h => by have h2 := sign_any w h; rw [e4] at h2; exact h2)
  have l4 : t4.l.length ≤ 100000 := by have h2 := sign_le t3; rw [e4] at h2; exact Nat.le_trans h2 l3
  obtain ⟨x5, t5, e5⟩ : ∃ x t, rAll rR t4 = (x, t) := ⟨_, _, rfl⟩
  have C5 := Lib.hid (show ∀ w, Rd w p t4 → Calls Tryz.prog 129 #[.pointer (some ⟨p, 0, none⟩), .func (.func 130) #[.pointer (some ⟨p, 0, none⟩)] #[]] w (ReadsE ER p x5 t5 w) from fun w h => by have h2 := readR_any w h l4; rw [e5] at h2; exact h2)
  have hC : rD s = (⟨x1, x2, x3, x4, x5⟩, t5) := by unfold rD; simp only [e1, e2, e3, e4, e5]
  rw [hC]
  clear hC e1 e2 e3 e4 e5 l1 l2 l3 l4
  go_enter Tryz.func101, Tryz.ntmps101
  go_wp2_with fail
  with_reducible refine (C1.out _ H0.out).mono ?_
  rintro e w1 ⟨rfl, hr, hb⟩
  have HR1 := Lib.hid hr
  have HB1 := Lib.hid (HB0.out.trans hb)
  have HG1 := Lib.hid ((hb.block HZ0.out (by omega)).trans HG0.out)
  have HZ1 := Lib.hid (Nat.lt_of_lt_of_le HZ0.out hb.size)
  clear hr hb  C1 H0 HB0 HG0 HZ0 
  go_wp2_with fail
  with_reducible refine (C2.out _ HR1.out).mono ?_
  rintro e w2 ⟨rfl, hr, hb⟩
  have HR2 := Lib.hid hr
  have HB2 := Lib.hid (HB1.out.trans hb)
  have HG2 := Lib.hid ((hb.block HZ1.out (by omega)).trans HG1.out)
  have HZ2 := Lib.hid (Nat.lt_of_lt_of_le HZ1.out hb.size)
  clear hr hb  C2 HR1 HB1 HG1 HZ1 
  go_wp2_with fail
  with_reducible refine (C3.out _ HR2.out).mono ?_
  rintro e w3 ⟨rfl, hr, hb⟩
  have HR3 := Lib.hid hr
  have HB3 := Lib.hid (HB2.out.trans hb)
  have HG3 := Lib.hid ((hb.block HZ2.out (by omega)).trans HG2.out)
  have HZ3 := Lib.hid (Nat.lt_of_lt_of_le HZ2.out hb.size)
  clear hr hb  C3 HR2 HB2 HG2 HZ2 
  go_wp2_with fail
  with_reducible refine (C4.out _ HR3.out).mono ?_
  rintro e w4 ⟨rfl, hr, hb⟩
  have HR4 := Lib.hid hr
  have HB4 := Lib.hid (HB3.out.trans hb)
  have HG4 := Lib.hid ((hb.block HZ3.out (by omega)).trans HG3.out)
  have HZ4 := Lib.hid (Nat.lt_of_lt_of_le HZ3.out hb.size)
  clear hr hb  C4 HR3 HB3 HG3 HZ3 
  go_wp2_with fail
  with_reducible refine (C5.out _ HR4.out).mono ?_
  rintro e w5 ⟨A5, c5, rfl, ho, hr, hb⟩
  have HO5_5 := Lib.hid (ho.less HZ4.out)
  have HR5 := Lib.hid hr
  have HB5 := Lib.hid (HB4.out.trans hb)
  have HG5 := Lib.hid ((hb.block HZ4.out (by omega)).trans HG4.out)
  have HZ5 := Lib.hid (Nat.lt_of_lt_of_le HZ4.out hb.size)
  clear hr hb ho C5 HR4 HB4 HG4 HZ4 
  have f0 : w5.frozen? ⟨w.heap.size, 0, none⟩ = false := by simp [World.frozen?, HG5.out]
  have q0 := Joins.cell_of_block HG5.out 0
  have f1 : w5.frozen? ⟨w.heap.size, 1, none⟩ = false := by simp [World.frozen?, HG5.out]
  have q1 := Joins.cell_of_block HG5.out 1
  have f2 : w5.frozen? ⟨w.heap.size, 2, none⟩ = false := by simp [World.frozen?, HG5.out]
  have q2 := Joins.cell_of_block HG5.out 2
  have f3 : w5.frozen? ⟨w.heap.size, 3, none⟩ = false := by simp [World.frozen?, HG5.out]
  have q3 := Joins.cell_of_block HG5.out 3
  have f4 : w5.frozen? ⟨w.heap.size, 4, none⟩ = false := by simp [World.frozen?, HG5.out]
  have q4 := Joins.cell_of_block HG5.out 4
  have HS := Lib.hid (show ((((((w5).setCell ⟨w.heap.size, 0, none⟩ (.int .i64 x1)).setCell ⟨w.heap.size, 1, none⟩ (.int .i64 x2)).setCell ⟨w.heap.size, 2, none⟩ (.int .i64 x3)).setCell ⟨w.heap.size, 3, none⟩ (.bool x4)).setCell ⟨w.heap.size, 4, none⟩ (.slice A5 x5.length c5)).heap[w.heap.size]? = some (.cells #[.int .i64 x1, .int .i64 x2, .int .i64 x3, .bool x4, .slice A5 x5.length c5] 51 (0, 0)) from (heap_setCell_same _ _ _ _ _ _ (heap_setCell_same _ _ _ _ _ _ (heap_setCell_same _ _ _ _ _ _ (heap_setCell_same _ _ _ _ _ _ (heap_setCell_same _ _ _ _ _ _ HG5.out))))).trans (by simp))
  have HX := Lib.hid (show Rd ((((((w5).setCell ⟨w.heap.size, 0, none⟩ (.int .i64 x1)).setCell ⟨w.heap.size, 1, none⟩ (.int .i64 x2)).setCell ⟨w.heap.size, 2, none⟩ (.int .i64 x3)).setCell ⟨w.heap.size, 3, none⟩ (.bool x4)).setCell ⟨w.heap.size, 4, none⟩ (.slice A5 x5.length c5)) p t5 from (((((HR5.out.setNew hp).setNew hp).setNew hp).setNew hp).setNew hp))
  have HY := Lib.hid (show But p w ((((((w5).setCell ⟨w.heap.size, 0, none⟩ (.int .i64 x1)).setCell ⟨w.heap.size, 1, none⟩ (.int .i64 x2)).setCell ⟨w.heap.size, 2, none⟩ (.int .i64 x3)).setCell ⟨w.heap.size, 3, none⟩ (.bool x4)).setCell ⟨w.heap.size, 4, none⟩ (.slice A5 x5.length c5)) from (((((HB5.out.setNew (by omega) (Nat.le_refl _)).setNew (by omega) (Nat.le_refl _)).setNew (by omega) (Nat.le_refl _)).setNew (by omega) (Nat.le_refl _)).setNew (by omega) (Nat.le_refl _)))
  have HO5 := Lib.hid (show OwnE ER ((((((w5).setCell ⟨w.heap.size, 0, none⟩ (.int .i64 x1)).setCell ⟨w.heap.size, 1, none⟩ (.int .i64 x2)).setCell ⟨w.heap.size, 2, none⟩ (.int .i64 x3)).setCell ⟨w.heap.size, 3, none⟩ (.bool x4)).setCell ⟨w.heap.size, 4, none⟩ (.slice A5 x5.length c5)) (w.heap.size + 1) (.slice A5 x5.length c5) x5 from (((((HO5_5.out.setCell (Nat.lt_succ_self _)).setCell (Nat.lt_succ_self _)).setCell (Nat.lt_succ_self _)).setCell (Nat.lt_succ_self _)).setCell (Nat.lt_succ_self _)))
  go_wp2_with fail
  obtain ⟨W, hW⟩ : ∃ W, (((((w5).setCell ⟨w.heap.size, 0, none⟩ (.int .i64 x1)).setCell ⟨w.heap.size, 1, none⟩ (.int .i64 x2)).setCell ⟨w.heap.size, 2, none⟩ (.int .i64 x3)).setCell ⟨w.heap.size, 3, none⟩ (.bool x4)).setCell ⟨w.heap.size, 4, none⟩ (.slice A5 x5.length c5) = W := ⟨_, rfl⟩
  rw [hW] at HS HX HY HO5
  try rw [hW]
  have k0 := Joins.cell_of_block HS.out 0
  have k1 := Joins.cell_of_block HS.out 1
  have k2 := Joins.cell_of_block HS.out 2
  have k3 := Joins.cell_of_block HS.out 3
  have k4 := Joins.cell_of_block HS.out 4
  refine bodyPost_ret (v := .agg #[.int .i64 x1, .int .i64 x2, .int .i64 x3, .bool x4, .slice A5 x5.length c5]) (by simp [results, Tryz.results101, go_sem, k0, k1, k2, k3, k4]) rfl ?_
  exact ⟨A5, c5, rfl, HO5.out.less (Nat.le_succ _), HX.out, HY.out⟩
set_option maxRecDepth 100000 in
set_option maxHeartbeats 2000000 in
theorem readD_any {p : Nat} {s : St} (w : World) (h : Rd w p s) (hs : s.l.length ≤ 100000) :
    Calls Tryz.prog 100 #[.pointer (some ⟨p, 0, none⟩), .func (.func 101) #[.pointer (some ⟨p, 0, none⟩)] #[]] w (ReadsN ED ER Dr.tris p (rAll rD s).1 (rAll rD s).2 w) := by
  obtain ⟨RV⟩ := rowD
  have hp := h.lt
  have hmb := many_bd s
  obtain ⟨n, t, e1⟩ : ∃ n t, rMany s = (n, t) := ⟨_, _, rfl⟩
  have C1 := Lib.hid (show Calls Tryz.prog 124 #[.pointer (some ⟨p, 0, none⟩), .int .i64 ((s.l.length : Int) - 1)] w (Reads p (.int .i64 n) t w) from by
    have h2 := upTo_any ((s.l.length : Int) - 1) w h
    have e2 : rUp ((s.l.length : Int) - 1) s = (n, t) := e1
    rw [e2] at h2
    exact h2)
  have htl : t.l.length ≤ 100000 := by
    have h2 := up_le ((s.l.length : Int) - 1) s
    have e2 : rUp ((s.l.length : Int) - 1) s = (n, t) := e1
    rw [e2] at h2
    exact Nat.le_trans h2 hs
  rw [e1] at hmb
  dsimp only at hmb
  have hw : IntKind.i64.wrap ((s.l.length : Int) - 1) = (s.l.length : Int) - 1 := by rw [IntKind.wrap_i64]; omega
  obtain ⟨A0, c0, hb0, -, -⟩ := h
  have k0 := (rdB_cell hb0).1
  obtain ⟨m, hm⟩ : ∃ m, s.l.length = m := ⟨_, rfl⟩
  obtain ⟨k, rfl⟩ : ∃ k : Nat, n = k := ⟨n.toNat, by omega⟩
  have eA : rAll rD s = rRep rD k t := by unfold rAll; rw [e1]; rfl
  rw [eA]
  have HX := Lib.hid (show ∀ j, rRep rD (j + 1) t = ((rRep rD j t).1 ++ [(rD (rRep rD j t).2).1], (rD (rRep rD j t).2).2) from fun _ => rfl)
  have HL := Lib.hid (show ∀ j, (rRep rD j t).1.length = j from fun j => rep_len j t)
  have HLe := Lib.hid (show ∀ j, (rRep rD j t).2.l.length ≤ 100000 from fun j => Nat.le_trans (rep_le draw_le j t) htl)
  have H00 := Lib.hid (show rRep rD 0 t = ([], t) from rfl)
  generalize rRep rD = X at *
  rw [hm] at k0 hs hw hmb C1
  clear hb0 e1 eA hm htl
  go_enter Tryz.func100, Tryz.ntmps100
  go_wp2_with fail
  with_reducible refine (C1.out).mono ?_
  rintro e w1 ⟨rfl, hr, hb⟩
  have HR1 := Lib.hid hr
  have HB1 := Lib.hid hb
  clear hr hb C1 k0
  go_wp2_with fail
  go_loopw [6, 16] (fun v i wr => ∃ j : Nat, j ≤ k ∧ i = .int .i64 j ∧ ∃ A c ls, v = .slice A j c ∧ ls.length = j ∧ ls.map Lo.x = (X j t).1 ∧ OwnN ED ER Dr.tris wr w.heap.size (.slice A j c) ls ∧ Rd wr p (X j t).2 ∧ But p w wr) (fun _ i _ => k - (intOf i).toNat)
  case atStart => exact ⟨0, Nat.zero_le _, rfl, none, 0, [], rfl, rfl, (by rw [H00.out]; rfl), OwnN.nil _ _, (by rw [H00.out]; exact HR1.out), HB1.out⟩
  case round =>
    obtain ⟨j, hk, rfl, A, c, ls, rfl, hlj, hmp, ho, hr, hb⟩ := hrel
    have HO := Lib.hid ho
    have HR := Lib.hid hr
    have HB := Lib.hid hb
    have HMp := Lib.hid hmp
    clear ho hr hb hmp HR1 HB1
    by_cases hlt : j < k
    · have C2 := Lib.hid (rddraw_any wr HR.out (HLe.out j))
      obtain ⟨x, t2, e2⟩ : ∃ x t2, rD (X j t).2 = (x, t2) := ⟨_, _, rfl⟩
      have hX := HX.out j
      rw [e2] at C2 hX
      have HX1 := Lib.hid hX
      clear hX e2
      go_wp2_with fail
      with_reducible refine (C2.out).mono ?_
      rintro e w2 ⟨A2, c2, he, hoi, hr, hb⟩
      obtain rfl : e = .returned (.agg #[.int .i64 (⟨x, A2, c2⟩ : Lo Dr).x.id, .int .i64 (⟨x, A2, c2⟩ : Lo Dr).x.prog, .int .i64 (⟨x, A2, c2⟩ : Lo Dr).x.tex, .bool (⟨x, A2, c2⟩ : Lo Dr).x.op, .slice (⟨x, A2, c2⟩ : Lo Dr).A (⟨x, A2, c2⟩ : Lo Dr).x.tris.length (⟨x, A2, c2⟩ : Lo Dr).c]) := he
      have HO1 := Lib.hid (hb.ownN HO.out hp)
      have HI2 := Lib.hid (show EsP ER (w2.alloc (.cells #[.int .i64 (⟨x, A2, c2⟩ : Lo Dr).x.id, .int .i64 (⟨x, A2, c2⟩ : Lo Dr).x.prog, .int .i64 (⟨x, A2, c2⟩ : Lo Dr).x.tex, .bool (⟨x, A2, c2⟩ : Lo Dr).x.op, .slice (⟨x, A2, c2⟩ : Lo Dr).A (⟨x, A2, c2⟩ : Lo Dr).x.tris.length (⟨x, A2, c2⟩ : Lo Dr).c] 51)) (fun b => w.heap.size ≤ b ∧ (Value.slice A j c).ownBlock ≠ some b) A2 (Dr.tris x) from
        ((OwnE.toP hoi).imp fun b hb2 _ => ⟨by have := HB.out.size; omega, fun e => by have := ownE_lt HO.out.own e; omega⟩).keep fun b _ hlt => (new_below w2 _).block b hlt)
      have HC2 := Lib.hid (ownE_es hoi).2.1
      have HO2 := Lib.hid ((hb.ownN HO.out hp).keep (new_below w2 (.cells #[.int .i64 (⟨x, A2, c2⟩ : Lo Dr).x.id, .int .i64 (⟨x, A2, c2⟩ : Lo Dr).x.prog, .int .i64 (⟨x, A2, c2⟩ : Lo Dr).x.tex, .bool (⟨x, A2, c2⟩ : Lo Dr).x.op, .slice (⟨x, A2, c2⟩ : Lo Dr).A (⟨x, A2, c2⟩ : Lo Dr).x.tris.length (⟨x, A2, c2⟩ : Lo Dr).c] 51)))
      have HR2 := Lib.hid (hr.alloc (.cells #[.int .i64 (⟨x, A2, c2⟩ : Lo Dr).x.id, .int .i64 (⟨x, A2, c2⟩ : Lo Dr).x.prog, .int .i64 (⟨x, A2, c2⟩ : Lo Dr).x.tex, .bool (⟨x, A2, c2⟩ : Lo Dr).x.op, .slice (⟨x, A2, c2⟩ : Lo Dr).A (⟨x, A2, c2⟩ : Lo Dr).x.tris.length (⟨x, A2, c2⟩ : Lo Dr).c] 51))
      have HB2 := Lib.hid ((HB.out.trans hb).alloc hp (.cells #[.int .i64 (⟨x, A2, c2⟩ : Lo Dr).x.id, .int .i64 (⟨x, A2, c2⟩ : Lo Dr).x.prog, .int .i64 (⟨x, A2, c2⟩ : Lo Dr).x.tex, .bool (⟨x, A2, c2⟩ : Lo Dr).x.op, .slice (⟨x, A2, c2⟩ : Lo Dr).A (⟨x, A2, c2⟩ : Lo Dr).x.tris.length (⟨x, A2, c2⟩ : Lo Dr).c] 51))
      have HE2 := Lib.hid (es_one (E := ED) (x := ⟨x, A2, c2⟩) (cs := #[.int .i64 (⟨x, A2, c2⟩ : Lo Dr).x.id, .int .i64 (⟨x, A2, c2⟩ : Lo Dr).x.prog, .int .i64 (⟨x, A2, c2⟩ : Lo Dr).x.tex, .bool (⟨x, A2, c2⟩ : Lo Dr).x.op, .slice (⟨x, A2, c2⟩ : Lo Dr).A (⟨x, A2, c2⟩ : Lo Dr).x.tris.length (⟨x, A2, c2⟩ : Lo Dr).c]) rfl (show (w2.alloc (.cells #[.int .i64 (⟨x, A2, c2⟩ : Lo Dr).x.id, .int .i64 (⟨x, A2, c2⟩ : Lo Dr).x.prog, .int .i64 (⟨x, A2, c2⟩ : Lo Dr).x.tex, .bool (⟨x, A2, c2⟩ : Lo Dr).x.op, .slice (⟨x, A2, c2⟩ : Lo Dr).A (⟨x, A2, c2⟩ : Lo Dr).x.tris.length (⟨x, A2, c2⟩ : Lo Dr).c] 51)).heap[w2.heap.size]? = some (.cells #[.int .i64 (⟨x, A2, c2⟩ : Lo Dr).x.id, .int .i64 (⟨x, A2, c2⟩ : Lo Dr).x.prog, .int .i64 (⟨x, A2, c2⟩ : Lo Dr).x.tex, .bool (⟨x, A2, c2⟩ : Lo Dr).x.op, .slice (⟨x, A2, c2⟩ : Lo Dr).A (⟨x, A2, c2⟩ : Lo Dr).x.tris.length (⟨x, A2, c2⟩ : Lo Dr).c] 51 (0, 0)) from heap_alloc_new _ _))
      have hsz := HB2.out.size
      have hsz2 := (HB.out.trans hb).size
      clear hr hb hoi C2 HO HR HB
      
      go_wp2_with (at_builtin; refine wpList_append_ln rfl RV _ _ 1 1 (show [(⟨x, A2, c2⟩ : Lo (Dr))].length = 1 from rfl) rfl rfl rfl HO2.out.own HE2.out (by omega) (by simp) hsz ?_; intro v' w3 hown hg hat; obtain ⟨ho3, hbl⟩ := HO1.out.app (new_below w2 (.cells #[.int .i64 (⟨x, A2, c2⟩ : Lo Dr).x.id, .int .i64 (⟨x, A2, c2⟩ : Lo Dr).x.prog, .int .i64 (⟨x, A2, c2⟩ : Lo Dr).x.tex, .bool (⟨x, A2, c2⟩ : Lo Dr).x.op, .slice (⟨x, A2, c2⟩ : Lo Dr).A (⟨x, A2, c2⟩ : Lo Dr).x.tris.length (⟨x, A2, c2⟩ : Lo Dr).c] 51)) hsz2 (by simpa [Elem.flat] using hown) hg hat HI2.out HC2.out; have hge := ownE_ge HO2.out.own; obtain ⟨A3, c3, rfl⟩ := ho3.own.form)
      go_roundw
      case rel =>
        have e3 : (X (j + 1) t).1 = (X j t).1 ++ [x] := by rw [HX1.out]
        have e4 : (X (j + 1) t).2 = t2 := by rw [HX1.out]
        have e5 : (ls ++ [(⟨x, A2, c2⟩ : Lo (Dr))]).length = j + 1 := by rw [List.length_append, hlj]; rfl
        refine ⟨j + 1, by omega, by go_num, A3, c3, ls ++ [⟨x, A2, c2⟩], ?_, e5, ?_, ?_, ?_, ?_⟩
        · rw [← e5]
        · rw [e3, List.map_append, HMp.out]; rfl
        · rw [← e5]; exact ho3
        · rw [e4]; exact HR2.out.grown hg hge hp
        · exact HB2.out.grown (by omega) hg hge
      case measure => simp [intOf]; omega
    · obtain rfl : j = k := by omega
      go_wp2_with fail
      go_ret
      exact ⟨A, c, ls, (by rw [hlj]; rfl), HMp.out, (by rw [hlj]; exact HO.out), HR.out, HB.out⟩
end Go.Proofs.YtfmmfaeognoleaaGreat
