/-
  The walk of glazierlaw12.CodeOps, those that use three registers.
-/
import Derived.Test.YticfllfelbfceaaOk1
namespace Go.Proofs.Yticfllfelbfceaa
open Go.RowKit
attribute [local go_sem ↓] Go.wp_at_zero Go.wp_at_succ

set_option maxRecDepth 100000 in
set_option maxHeartbeats 4000000 in
theorem ops_2 (d' a' b' d a b : Int) (bd : 0 ≤ d ∧ d ≤ 7) (ba : 0 ≤ a ∧ a ≤ 7) (bb : 0 ≤ b ∧ b ≤ 7) (qd : d'.tmod 8 = d) (qa : a'.tmod 8 = a) (qb : b'.tmod 8 = b) (w : World) :
    Calls Try.prog 8 #[.int .u8 2, .agg #[.int .u8 d', .int .u8 a', .int .u8 b']] w fun e w' => e = .returned (.bool true) ∧ Below w.heap.size w w' := by
  have hx : (In.ok ⟨2, d, a, b, 0⟩) := by constructor <;> dsimp only <;> first | (unfold I64; omega) | omega
  have hy : (In.ok ⟨2, d, a, b, 0⟩) := by constructor <;> dsimp only <;> first | (unfold I64; omega) | omega
  have H1 := Lib.hid (fun w => one_any ⟨2, d, a, b, 0⟩ 0 1 hy (by decide) (by decide) w)
  have e1 : oneB ⟨2, d, a, b, 0⟩ 0 1 = true := by unfold oneB; exact decide_eq_true (by simp [us, ms, lo, hi] <;> omega)
  rw [e1] at H1
  have H2 := Lib.hid (fun A c w he => samples_any [⟨2, d, a, b, 0⟩] A c (by simp) (ok1 hy) w he)
  have e2 : List.any [(⟨2, d, a, b, 0⟩ : In)] tex = false := by simp [tex]
  rw [e2] at H2
  have H3 := Lib.hid (fun w => one_any ⟨2, d, a, b, 0⟩ 0 1 hx (by decide) (by decide) w)
  dsimp only [List.length_cons, List.length_nil] at H1 H2 H3
  have h0 := new_below w (.cells #[.int .u8 d', .int .u8 a', .int .u8 b'] 40)
  have R0 := Lib.hid (new_at1 w (.cells #[.int .u8 d', .int .u8 a', .int .u8 b'] 40))
  have B0 := Lib.hid h0
  clear h0 e1 e2
  go_enter Try.func8, Try.ntmps8
  go_wp2_with fail
  generalize w.alloc (.cells #[.int .u8 d', .int .u8 a', .int .u8 b'] 40) = w0 at *
  with_reducible refine (shown_any w0).mono ?_
  rintro e' w1 ⟨rfl, hb⟩
  have B1 := Lib.hid (bstep B0.out B0.out.size hb)
  have R1 := Lib.hid ((hb.block _ (Array.getElem?_eq_some_iff.1 R0.out).1).trans R0.out)
  have r0 : w1.cell? ⟨w.heap.size, 0, none⟩ = some (.int .u8 d') := cell_of_row _ _ _ _ 40 (0, 0) R1.out
  have r1 : w1.cell? ⟨w.heap.size, 1, none⟩ = some (.int .u8 a') := cell_of_row _ _ _ _ 40 (0, 0) R1.out
  have r2 : w1.cell? ⟨w.heap.size, 2, none⟩ = some (.int .u8 b') := cell_of_row _ _ _ _ 40 (0, 0) R1.out
  have hlt : w.heap.size < w1.heap.size := (Array.getElem?_eq_some_iff.1 R1.out).1
  clear hb B0 R0
  go_wp2_with fail
  have B2 := Lib.hid (show Below w.heap.size w ((w1.alloc (.cells #[.int .u8 2, .int .u8 d, .int .u8 a, .int .u8 b, .int .i64 0] 24)).alloc (.cells #[.int .u8 2, .int .u8 d, .int .u8 a, .int .u8 b, .int .i64 0] 24)) from (B1.out.alloc B1.out.size _).alloc (by have := B1.out.size; simp; omega) _)
  have X2 := Lib.hid (show ((w1.alloc (.cells #[.int .u8 2, .int .u8 d, .int .u8 a, .int .u8 b, .int .i64 0] 24)).alloc (.cells #[.int .u8 2, .int .u8 d, .int .u8 a, .int .u8 b, .int .i64 0] 24)).heap[w1.heap.size]? = some (inB ⟨2, d, a, b, 0⟩) from new_keep _ (new_at1 _ _))
  have Y2 := Lib.hid (show ((w1.alloc (.cells #[.int .u8 2, .int .u8 d, .int .u8 a, .int .u8 b, .int .i64 0] 24)).alloc (.cells #[.int .u8 2, .int .u8 d, .int .u8 a, .int .u8 b, .int .i64 0] 24)).heap[w1.heap.size + 1]? = some (inB ⟨2, d, a, b, 0⟩) from by
    have := new_at1 (w1.alloc (.cells #[.int .u8 2, .int .u8 d, .int .u8 a, .int .u8 b, .int .i64 0] 24)) (.cells #[.int .u8 2, .int .u8 d, .int .u8 a, .int .u8 b, .int .i64 0] 24)
    simpa using this)
  clear r0 r1 r2 hlt R1 B1 qd qa qb
  generalize (w1.alloc (.cells #[.int .u8 2, .int .u8 d, .int .u8 a, .int .u8 b, .int .i64 0] 24)).alloc (.cells #[.int .u8 2, .int .u8 d, .int .u8 a, .int .u8 b, .int .i64 0] 24) = W2 at *
  generalize w1.heap.size = g at *
  with_reducible refine (H1.out _).mono ?_
  rintro e' w2 ⟨rfl, hb⟩
  have B3 := Lib.hid (bstep B2.out B2.out.size hb)
  have X3 := Lib.hid ((hb.block _ (Array.getElem?_eq_some_iff.1 X2.out).1).trans X2.out)
  have Y3 := Lib.hid ((hb.block _ (Array.getElem?_eq_some_iff.1 Y2.out).1).trans Y2.out)
  obtain ⟨c0, c1, c2, c3, c4⟩ := inB_cell Y3.out
  have hn := new_below w2 (.cells #[.int .u8 2, .int .u8 d, .int .u8 a, .int .u8 b, .int .i64 0] 24)
  have B4 := Lib.hid (bstep B3.out B3.out.size hn)
  have X4 := Lib.hid ((hn.block _ (Array.getElem?_eq_some_iff.1 X3.out).1).trans X3.out)
  have S2 := Lib.hid (H2.out (some ⟨w2.heap.size, 0, none⟩) 1 _ (esI_new w2 [⟨2, d, a, b, 0⟩] #[.int .u8 2, .int .u8 d, .int .u8 a, .int .u8 b, .int .i64 0] rfl (by simp)))
  clear hb B2 X2 Y2 H1 H2 hn B3 X3
  go_wp2_with fail
  clear c0 c1 c2 c3 c4 Y3
  generalize w2.alloc (.cells #[.int .u8 2, .int .u8 d, .int .u8 a, .int .u8 b, .int .i64 0] 24) = W4 at *
  generalize w2.heap.size = g2 at *
  with_reducible refine (S2.out).mono ?_
  rintro e' w5 ⟨rfl, hb⟩
  have B5 := Lib.hid (bstep B4.out B4.out.size hb)
  have X5 := Lib.hid ((hb.block _ (Array.getElem?_eq_some_iff.1 X4.out).1).trans X4.out)
  obtain ⟨c0, c1, c2, c3, c4⟩ := inB_cell X5.out
  clear hb B4 X4 S2
  go_wp2_with fail
  go_ret
  exact ⟨rfl, B5.out⟩

set_option maxRecDepth 100000 in
set_option maxHeartbeats 4000000 in
theorem ops_3 (d' a' b' d a b : Int) (bd : 0 ≤ d ∧ d ≤ 7) (ba : 0 ≤ a ∧ a ≤ 7) (bb : 0 ≤ b ∧ b ≤ 7) (qd : d'.tmod 8 = d) (qa : a'.tmod 8 = a) (qb : b'.tmod 8 = b) (w : World) :
    Calls Try.prog 8 #[.int .u8 3, .agg #[.int .u8 d', .int .u8 a', .int .u8 b']] w fun e w' => e = .returned (.bool true) ∧ Below w.heap.size w w' := by
  have hx : (In.ok ⟨3, d, a, b, 0⟩) := by constructor <;> dsimp only <;> first | (unfold I64; omega) | omega
  have hy : (In.ok ⟨3, d, a, b, 0⟩) := by constructor <;> dsimp only <;> first | (unfold I64; omega) | omega
  have H1 := Lib.hid (fun w => one_any ⟨3, d, a, b, 0⟩ 0 1 hy (by decide) (by decide) w)
  have e1 : oneB ⟨3, d, a, b, 0⟩ 0 1 = true := by unfold oneB; exact decide_eq_true (by simp [us, ms, lo, hi] <;> omega)
  rw [e1] at H1
  have H2 := Lib.hid (fun A c w he => samples_any [⟨3, d, a, b, 0⟩] A c (by simp) (ok1 hy) w he)
  have e2 : List.any [(⟨3, d, a, b, 0⟩ : In)] tex = false := by simp [tex]
  rw [e2] at H2
  have H3 := Lib.hid (fun w => one_any ⟨3, d, a, b, 0⟩ 0 1 hx (by decide) (by decide) w)
  dsimp only [List.length_cons, List.length_nil] at H1 H2 H3
  have h0 := new_below w (.cells #[.int .u8 d', .int .u8 a', .int .u8 b'] 40)
  have R0 := Lib.hid (new_at1 w (.cells #[.int .u8 d', .int .u8 a', .int .u8 b'] 40))
  have B0 := Lib.hid h0
  clear h0 e1 e2
  go_enter Try.func8, Try.ntmps8
  go_wp2_with fail
  generalize w.alloc (.cells #[.int .u8 d', .int .u8 a', .int .u8 b'] 40) = w0 at *
  with_reducible refine (shown_any w0).mono ?_
  rintro e' w1 ⟨rfl, hb⟩
  have B1 := Lib.hid (bstep B0.out B0.out.size hb)
  have R1 := Lib.hid ((hb.block _ (Array.getElem?_eq_some_iff.1 R0.out).1).trans R0.out)
  have r0 : w1.cell? ⟨w.heap.size, 0, none⟩ = some (.int .u8 d') := cell_of_row _ _ _ _ 40 (0, 0) R1.out
  have r1 : w1.cell? ⟨w.heap.size, 1, none⟩ = some (.int .u8 a') := cell_of_row _ _ _ _ 40 (0, 0) R1.out
  have r2 : w1.cell? ⟨w.heap.size, 2, none⟩ = some (.int .u8 b') := cell_of_row _ _ _ _ 40 (0, 0) R1.out
  have hlt : w.heap.size < w1.heap.size := (Array.getElem?_eq_some_iff.1 R1.out).1
  clear hb B0 R0
  go_wp2_with fail
  have B2 := Lib.hid (show Below w.heap.size w ((w1.alloc (.cells #[.int .u8 3, .int .u8 d, .int .u8 a, .int .u8 b, .int .i64 0] 24)).alloc (.cells #[.int .u8 3, .int .u8 d, .int .u8 a, .int .u8 b, .int .i64 0] 24)) from (B1.out.alloc B1.out.size _).alloc (by have := B1.out.size; simp; omega) _)
  have X2 := Lib.hid (show ((w1.alloc (.cells #[.int .u8 3, .int .u8 d, .int .u8 a, .int .u8 b, .int .i64 0] 24)).alloc (.cells #[.int .u8 3, .int .u8 d, .int .u8 a, .int .u8 b, .int .i64 0] 24)).heap[w1.heap.size]? = some (inB ⟨3, d, a, b, 0⟩) from new_keep _ (new_at1 _ _))
  have Y2 := Lib.hid (show ((w1.alloc (.cells #[.int .u8 3, .int .u8 d, .int .u8 a, .int .u8 b, .int .i64 0] 24)).alloc (.cells #[.int .u8 3, .int .u8 d, .int .u8 a, .int .u8 b, .int .i64 0] 24)).heap[w1.heap.size + 1]? = some (inB ⟨3, d, a, b, 0⟩) from by
    have := new_at1 (w1.alloc (.cells #[.int .u8 3, .int .u8 d, .int .u8 a, .int .u8 b, .int .i64 0] 24)) (.cells #[.int .u8 3, .int .u8 d, .int .u8 a, .int .u8 b, .int .i64 0] 24)
    simpa using this)
  clear r0 r1 r2 hlt R1 B1 qd qa qb
  generalize (w1.alloc (.cells #[.int .u8 3, .int .u8 d, .int .u8 a, .int .u8 b, .int .i64 0] 24)).alloc (.cells #[.int .u8 3, .int .u8 d, .int .u8 a, .int .u8 b, .int .i64 0] 24) = W2 at *
  generalize w1.heap.size = g at *
  with_reducible refine (H1.out _).mono ?_
  rintro e' w2 ⟨rfl, hb⟩
  have B3 := Lib.hid (bstep B2.out B2.out.size hb)
  have X3 := Lib.hid ((hb.block _ (Array.getElem?_eq_some_iff.1 X2.out).1).trans X2.out)
  have Y3 := Lib.hid ((hb.block _ (Array.getElem?_eq_some_iff.1 Y2.out).1).trans Y2.out)
  obtain ⟨c0, c1, c2, c3, c4⟩ := inB_cell Y3.out
  have hn := new_below w2 (.cells #[.int .u8 3, .int .u8 d, .int .u8 a, .int .u8 b, .int .i64 0] 24)
  have B4 := Lib.hid (bstep B3.out B3.out.size hn)
  have X4 := Lib.hid ((hn.block _ (Array.getElem?_eq_some_iff.1 X3.out).1).trans X3.out)
  have S2 := Lib.hid (H2.out (some ⟨w2.heap.size, 0, none⟩) 1 _ (esI_new w2 [⟨3, d, a, b, 0⟩] #[.int .u8 3, .int .u8 d, .int .u8 a, .int .u8 b, .int .i64 0] rfl (by simp)))
  clear hb B2 X2 Y2 H1 H2 hn B3 X3
  go_wp2_with fail
  clear c0 c1 c2 c3 c4 Y3
  generalize w2.alloc (.cells #[.int .u8 3, .int .u8 d, .int .u8 a, .int .u8 b, .int .i64 0] 24) = W4 at *
  generalize w2.heap.size = g2 at *
  with_reducible refine (S2.out).mono ?_
  rintro e' w5 ⟨rfl, hb⟩
  have B5 := Lib.hid (bstep B4.out B4.out.size hb)
  have X5 := Lib.hid ((hb.block _ (Array.getElem?_eq_some_iff.1 X4.out).1).trans X4.out)
  obtain ⟨c0, c1, c2, c3, c4⟩ := inB_cell X5.out
  clear hb B4 X4 S2
  go_wp2_with fail
  go_ret
  exact ⟨rfl, B5.out⟩

set_option maxRecDepth 100000 in
set_option maxHeartbeats 4000000 in
theorem ops_4 (d' a' b' d a b : Int) (bd : 0 ≤ d ∧ d ≤ 7) (ba : 0 ≤ a ∧ a ≤ 7) (bb : 0 ≤ b ∧ b ≤ 7) (qd : d'.tmod 8 = d) (qa : a'.tmod 8 = a) (qb : b'.tmod 8 = b) (w : World) :
    Calls Try.prog 8 #[.int .u8 4, .agg #[.int .u8 d', .int .u8 a', .int .u8 b']] w fun e w' => e = .returned (.bool true) ∧ Below w.heap.size w w' := by
  have hx : (In.ok ⟨4, d, a, b, 0⟩) := by constructor <;> dsimp only <;> first | (unfold I64; omega) | omega
  have hy : (In.ok ⟨4, d, a, b, 0⟩) := by constructor <;> dsimp only <;> first | (unfold I64; omega) | omega
  have H1 := Lib.hid (fun w => one_any ⟨4, d, a, b, 0⟩ 0 1 hy (by decide) (by decide) w)
  have e1 : oneB ⟨4, d, a, b, 0⟩ 0 1 = true := by unfold oneB; exact decide_eq_true (by simp [us, ms, lo, hi] <;> omega)
  rw [e1] at H1
  have H2 := Lib.hid (fun A c w he => samples_any [⟨4, d, a, b, 0⟩] A c (by simp) (ok1 hy) w he)
  have e2 : List.any [(⟨4, d, a, b, 0⟩ : In)] tex = false := by simp [tex]
  rw [e2] at H2
  have H3 := Lib.hid (fun w => one_any ⟨4, d, a, b, 0⟩ 0 1 hx (by decide) (by decide) w)
  dsimp only [List.length_cons, List.length_nil] at H1 H2 H3
  have h0 := new_below w (.cells #[.int .u8 d', .int .u8 a', .int .u8 b'] 40)
  have R0 := Lib.hid (new_at1 w (.cells #[.int .u8 d', .int .u8 a', .int .u8 b'] 40))
  have B0 := Lib.hid h0
  clear h0 e1 e2
  go_enter Try.func8, Try.ntmps8
  go_wp2_with fail
  generalize w.alloc (.cells #[.int .u8 d', .int .u8 a', .int .u8 b'] 40) = w0 at *
  with_reducible refine (shown_any w0).mono ?_
  rintro e' w1 ⟨rfl, hb⟩
  have B1 := Lib.hid (bstep B0.out B0.out.size hb)
  have R1 := Lib.hid ((hb.block _ (Array.getElem?_eq_some_iff.1 R0.out).1).trans R0.out)
  have r0 : w1.cell? ⟨w.heap.size, 0, none⟩ = some (.int .u8 d') := cell_of_row _ _ _ _ 40 (0, 0) R1.out
  have r1 : w1.cell? ⟨w.heap.size, 1, none⟩ = some (.int .u8 a') := cell_of_row _ _ _ _ 40 (0, 0) R1.out
  have r2 : w1.cell? ⟨w.heap.size, 2, none⟩ = some (.int .u8 b') := cell_of_row _ _ _ _ 40 (0, 0) R1.out
  have hlt : w.heap.size < w1.heap.size := (Array.getElem?_eq_some_iff.1 R1.out).1
  clear hb B0 R0
  go_wp2_with fail
  have B2 := Lib.hid (show Below w.heap.size w ((w1.alloc (.cells #[.int .u8 4, .int .u8 d, .int .u8 a, .int .u8 b, .int .i64 0] 24)).alloc (.cells #[.int .u8 4, .int .u8 d, .int .u8 a, .int .u8 b, .int .i64 0] 24)) from (B1.out.alloc B1.out.size _).alloc (by have := B1.out.size; simp; omega) _)
  have X2 := Lib.hid (show ((w1.alloc (.cells #[.int .u8 4, .int .u8 d, .int .u8 a, .int .u8 b, .int .i64 0] 24)).alloc (.cells #[.int .u8 4, .int .u8 d, .int .u8 a, .int .u8 b, .int .i64 0] 24)).heap[w1.heap.size]? = some (inB ⟨4, d, a, b, 0⟩) from new_keep _ (new_at1 _ _))
  have Y2 := Lib.hid (show ((w1.alloc (.cells #[.int .u8 4, .int .u8 d, .int .u8 a, .int .u8 b, .int .i64 0] 24)).alloc (.cells #[.int .u8 4, .int .u8 d, .int .u8 a, .int .u8 b, .int .i64 0] 24)).heap[w1.heap.size + 1]? = some (inB ⟨4, d, a, b, 0⟩) from by
    have := new_at1 (w1.alloc (.cells #[.int .u8 4, .int .u8 d, .int .u8 a, .int .u8 b, .int .i64 0] 24)) (.cells #[.int .u8 4, .int .u8 d, .int .u8 a, .int .u8 b, .int .i64 0] 24)
    simpa using this)
  clear r0 r1 r2 hlt R1 B1 qd qa qb
  generalize (w1.alloc (.cells #[.int .u8 4, .int .u8 d, .int .u8 a, .int .u8 b, .int .i64 0] 24)).alloc (.cells #[.int .u8 4, .int .u8 d, .int .u8 a, .int .u8 b, .int .i64 0] 24) = W2 at *
  generalize w1.heap.size = g at *
  with_reducible refine (H1.out _).mono ?_
  rintro e' w2 ⟨rfl, hb⟩
  have B3 := Lib.hid (bstep B2.out B2.out.size hb)
  have X3 := Lib.hid ((hb.block _ (Array.getElem?_eq_some_iff.1 X2.out).1).trans X2.out)
  have Y3 := Lib.hid ((hb.block _ (Array.getElem?_eq_some_iff.1 Y2.out).1).trans Y2.out)
  obtain ⟨c0, c1, c2, c3, c4⟩ := inB_cell Y3.out
  have hn := new_below w2 (.cells #[.int .u8 4, .int .u8 d, .int .u8 a, .int .u8 b, .int .i64 0] 24)
  have B4 := Lib.hid (bstep B3.out B3.out.size hn)
  have X4 := Lib.hid ((hn.block _ (Array.getElem?_eq_some_iff.1 X3.out).1).trans X3.out)
  have S2 := Lib.hid (H2.out (some ⟨w2.heap.size, 0, none⟩) 1 _ (esI_new w2 [⟨4, d, a, b, 0⟩] #[.int .u8 4, .int .u8 d, .int .u8 a, .int .u8 b, .int .i64 0] rfl (by simp)))
  clear hb B2 X2 Y2 H1 H2 hn B3 X3
  go_wp2_with fail
  clear c0 c1 c2 c3 c4 Y3
  generalize w2.alloc (.cells #[.int .u8 4, .int .u8 d, .int .u8 a, .int .u8 b, .int .i64 0] 24) = W4 at *
  generalize w2.heap.size = g2 at *
  with_reducible refine (S2.out).mono ?_
  rintro e' w5 ⟨rfl, hb⟩
  have B5 := Lib.hid (bstep B4.out B4.out.size hb)
  have X5 := Lib.hid ((hb.block _ (Array.getElem?_eq_some_iff.1 X4.out).1).trans X4.out)
  obtain ⟨c0, c1, c2, c3, c4⟩ := inB_cell X5.out
  clear hb B4 X4 S2
  go_wp2_with fail
  go_ret
  exact ⟨rfl, B5.out⟩

set_option maxRecDepth 100000 in
set_option maxHeartbeats 4000000 in
theorem ops_5 (d' a' b' d a b : Int) (bd : 0 ≤ d ∧ d ≤ 7) (ba : 0 ≤ a ∧ a ≤ 7) (bb : 0 ≤ b ∧ b ≤ 7) (qd : d'.tmod 8 = d) (qa : a'.tmod 8 = a) (qb : b'.tmod 8 = b) (w : World) :
    Calls Try.prog 8 #[.int .u8 5, .agg #[.int .u8 d', .int .u8 a', .int .u8 b']] w fun e w' => e = .returned (.bool true) ∧ Below w.heap.size w w' := by
  have hx : (In.ok ⟨5, d, a, b, 0⟩) := by constructor <;> dsimp only <;> first | (unfold I64; omega) | omega
  have hy : (In.ok ⟨5, d, a, b, 0⟩) := by constructor <;> dsimp only <;> first | (unfold I64; omega) | omega
  have H1 := Lib.hid (fun w => one_any ⟨5, d, a, b, 0⟩ 0 1 hy (by decide) (by decide) w)
  have e1 : oneB ⟨5, d, a, b, 0⟩ 0 1 = true := by unfold oneB; exact decide_eq_true (by simp [us, ms, lo, hi] <;> omega)
  rw [e1] at H1
  have H2 := Lib.hid (fun A c w he => samples_any [⟨5, d, a, b, 0⟩] A c (by simp) (ok1 hy) w he)
  have e2 : List.any [(⟨5, d, a, b, 0⟩ : In)] tex = false := by simp [tex]
  rw [e2] at H2
  have H3 := Lib.hid (fun w => one_any ⟨5, d, a, b, 0⟩ 0 1 hx (by decide) (by decide) w)
  dsimp only [List.length_cons, List.length_nil] at H1 H2 H3
  have h0 := new_below w (.cells #[.int .u8 d', .int .u8 a', .int .u8 b'] 40)
  have R0 := Lib.hid (new_at1 w (.cells #[.int .u8 d', .int .u8 a', .int .u8 b'] 40))
  have B0 := Lib.hid h0
  clear h0 e1 e2
  go_enter Try.func8, Try.ntmps8
  go_wp2_with fail
  generalize w.alloc (.cells #[.int .u8 d', .int .u8 a', .int .u8 b'] 40) = w0 at *
  with_reducible refine (shown_any w0).mono ?_
  rintro e' w1 ⟨rfl, hb⟩
  have B1 := Lib.hid (bstep B0.out B0.out.size hb)
  have R1 := Lib.hid ((hb.block _ (Array.getElem?_eq_some_iff.1 R0.out).1).trans R0.out)
  have r0 : w1.cell? ⟨w.heap.size, 0, none⟩ = some (.int .u8 d') := cell_of_row _ _ _ _ 40 (0, 0) R1.out
  have r1 : w1.cell? ⟨w.heap.size, 1, none⟩ = some (.int .u8 a') := cell_of_row _ _ _ _ 40 (0, 0) R1.out
  have r2 : w1.cell? ⟨w.heap.size, 2, none⟩ = some (.int .u8 b') := cell_of_row _ _ _ _ 40 (0, 0) R1.out
  have hlt : w.heap.size < w1.heap.size := (Array.getElem?_eq_some_iff.1 R1.out).1
  clear hb B0 R0
  go_wp2_with fail
  have B2 := Lib.hid (show Below w.heap.size w ((w1.alloc (.cells #[.int .u8 5, .int .u8 d, .int .u8 a, .int .u8 b, .int .i64 0] 24)).alloc (.cells #[.int .u8 5, .int .u8 d, .int .u8 a, .int .u8 b, .int .i64 0] 24)) from (B1.out.alloc B1.out.size _).alloc (by have := B1.out.size; simp; omega) _)
  have X2 := Lib.hid (show ((w1.alloc (.cells #[.int .u8 5, .int .u8 d, .int .u8 a, .int .u8 b, .int .i64 0] 24)).alloc (.cells #[.int .u8 5, .int .u8 d, .int .u8 a, .int .u8 b, .int .i64 0] 24)).heap[w1.heap.size]? = some (inB ⟨5, d, a, b, 0⟩) from new_keep _ (new_at1 _ _))
  have Y2 := Lib.hid (show ((w1.alloc (.cells #[.int .u8 5, .int .u8 d, .int .u8 a, .int .u8 b, .int .i64 0] 24)).alloc (.cells #[.int .u8 5, .int .u8 d, .int .u8 a, .int .u8 b, .int .i64 0] 24)).heap[w1.heap.size + 1]? = some (inB ⟨5, d, a, b, 0⟩) from by
    have := new_at1 (w1.alloc (.cells #[.int .u8 5, .int .u8 d, .int .u8 a, .int .u8 b, .int .i64 0] 24)) (.cells #[.int .u8 5, .int .u8 d, .int .u8 a, .int .u8 b, .int .i64 0] 24)
    simpa using this)
  clear r0 r1 r2 hlt R1 B1 qd qa qb
  generalize (w1.alloc (.cells #[.int .u8 5, .int .u8 d, .int .u8 a, .int .u8 b, .int .i64 0] 24)).alloc (.cells #[.int .u8 5, .int .u8 d, .int .u8 a, .int .u8 b, .int .i64 0] 24) = W2 at *
  generalize w1.heap.size = g at *
  with_reducible refine (H1.out _).mono ?_
  rintro e' w2 ⟨rfl, hb⟩
  have B3 := Lib.hid (bstep B2.out B2.out.size hb)
  have X3 := Lib.hid ((hb.block _ (Array.getElem?_eq_some_iff.1 X2.out).1).trans X2.out)
  have Y3 := Lib.hid ((hb.block _ (Array.getElem?_eq_some_iff.1 Y2.out).1).trans Y2.out)
  obtain ⟨c0, c1, c2, c3, c4⟩ := inB_cell Y3.out
  have hn := new_below w2 (.cells #[.int .u8 5, .int .u8 d, .int .u8 a, .int .u8 b, .int .i64 0] 24)
  have B4 := Lib.hid (bstep B3.out B3.out.size hn)
  have X4 := Lib.hid ((hn.block _ (Array.getElem?_eq_some_iff.1 X3.out).1).trans X3.out)
  have S2 := Lib.hid (H2.out (some ⟨w2.heap.size, 0, none⟩) 1 _ (esI_new w2 [⟨5, d, a, b, 0⟩] #[.int .u8 5, .int .u8 d, .int .u8 a, .int .u8 b, .int .i64 0] rfl (by simp)))
  clear hb B2 X2 Y2 H1 H2 hn B3 X3
  go_wp2_with fail
  clear c0 c1 c2 c3 c4 Y3
  generalize w2.alloc (.cells #[.int .u8 5, .int .u8 d, .int .u8 a, .int .u8 b, .int .i64 0] 24) = W4 at *
  generalize w2.heap.size = g2 at *
  with_reducible refine (S2.out).mono ?_
  rintro e' w5 ⟨rfl, hb⟩
  have B5 := Lib.hid (bstep B4.out B4.out.size hb)
  have X5 := Lib.hid ((hb.block _ (Array.getElem?_eq_some_iff.1 X4.out).1).trans X4.out)
  obtain ⟨c0, c1, c2, c3, c4⟩ := inB_cell X5.out
  clear hb B4 X4 S2
  go_wp2_with fail
  go_ret
  exact ⟨rfl, B5.out⟩

set_option maxRecDepth 100000 in
set_option maxHeartbeats 4000000 in
theorem ops_6 (d' a' b' d a b : Int) (bd : 0 ≤ d ∧ d ≤ 7) (ba : 0 ≤ a ∧ a ≤ 7) (bb : 0 ≤ b ∧ b ≤ 7) (qd : d'.tmod 8 = d) (qa : a'.tmod 8 = a) (qb : b'.tmod 8 = b) (w : World) :
    Calls Try.prog 8 #[.int .u8 6, .agg #[.int .u8 d', .int .u8 a', .int .u8 b']] w fun e w' => e = .returned (.bool true) ∧ Below w.heap.size w w' := by
  have hx : (In.ok ⟨6, d, a, b, 0⟩) := by constructor <;> dsimp only <;> first | (unfold I64; omega) | omega
  have hy : (In.ok ⟨6, d, a, b, 0⟩) := by constructor <;> dsimp only <;> first | (unfold I64; omega) | omega
  have H1 := Lib.hid (fun w => one_any ⟨6, d, a, b, 0⟩ 0 1 hy (by decide) (by decide) w)
  have e1 : oneB ⟨6, d, a, b, 0⟩ 0 1 = true := by unfold oneB; exact decide_eq_true (by simp [us, ms, lo, hi] <;> omega)
  rw [e1] at H1
  have H2 := Lib.hid (fun A c w he => samples_any [⟨6, d, a, b, 0⟩] A c (by simp) (ok1 hy) w he)
  have e2 : List.any [(⟨6, d, a, b, 0⟩ : In)] tex = false := by simp [tex]
  rw [e2] at H2
  have H3 := Lib.hid (fun w => one_any ⟨6, d, a, b, 0⟩ 0 1 hx (by decide) (by decide) w)
  dsimp only [List.length_cons, List.length_nil] at H1 H2 H3
  have h0 := new_below w (.cells #[.int .u8 d', .int .u8 a', .int .u8 b'] 40)
  have R0 := Lib.hid (new_at1 w (.cells #[.int .u8 d', .int .u8 a', .int .u8 b'] 40))
  have B0 := Lib.hid h0
  clear h0 e1 e2
  go_enter Try.func8, Try.ntmps8
  go_wp2_with fail
  generalize w.alloc (.cells #[.int .u8 d', .int .u8 a', .int .u8 b'] 40) = w0 at *
  with_reducible refine (shown_any w0).mono ?_
  rintro e' w1 ⟨rfl, hb⟩
  have B1 := Lib.hid (bstep B0.out B0.out.size hb)
  have R1 := Lib.hid ((hb.block _ (Array.getElem?_eq_some_iff.1 R0.out).1).trans R0.out)
  have r0 : w1.cell? ⟨w.heap.size, 0, none⟩ = some (.int .u8 d') := cell_of_row _ _ _ _ 40 (0, 0) R1.out
  have r1 : w1.cell? ⟨w.heap.size, 1, none⟩ = some (.int .u8 a') := cell_of_row _ _ _ _ 40 (0, 0) R1.out
  have r2 : w1.cell? ⟨w.heap.size, 2, none⟩ = some (.int .u8 b') := cell_of_row _ _ _ _ 40 (0, 0) R1.out
  have hlt : w.heap.size < w1.heap.size := (Array.getElem?_eq_some_iff.1 R1.out).1
  clear hb B0 R0
  go_wp2_with fail
  have B2 := Lib.hid (show Below w.heap.size w ((w1.alloc (.cells #[.int .u8 6, .int .u8 d, .int .u8 a, .int .u8 b, .int .i64 0] 24)).alloc (.cells #[.int .u8 6, .int .u8 d, .int .u8 a, .int .u8 b, .int .i64 0] 24)) from (B1.out.alloc B1.out.size _).alloc (by have := B1.out.size; simp; omega) _)
  have X2 := Lib.hid (show ((w1.alloc (.cells #[.int .u8 6, .int .u8 d, .int .u8 a, .int .u8 b, .int .i64 0] 24)).alloc (.cells #[.int .u8 6, .int .u8 d, .int .u8 a, .int .u8 b, .int .i64 0] 24)).heap[w1.heap.size]? = some (inB ⟨6, d, a, b, 0⟩) from new_keep _ (new_at1 _ _))
  have Y2 := Lib.hid (show ((w1.alloc (.cells #[.int .u8 6, .int .u8 d, .int .u8 a, .int .u8 b, .int .i64 0] 24)).alloc (.cells #[.int .u8 6, .int .u8 d, .int .u8 a, .int .u8 b, .int .i64 0] 24)).heap[w1.heap.size + 1]? = some (inB ⟨6, d, a, b, 0⟩) from by
    have := new_at1 (w1.alloc (.cells #[.int .u8 6, .int .u8 d, .int .u8 a, .int .u8 b, .int .i64 0] 24)) (.cells #[.int .u8 6, .int .u8 d, .int .u8 a, .int .u8 b, .int .i64 0] 24)
    simpa using this)
  clear r0 r1 r2 hlt R1 B1 qd qa qb
  generalize (w1.alloc (.cells #[.int .u8 6, .int .u8 d, .int .u8 a, .int .u8 b, .int .i64 0] 24)).alloc (.cells #[.int .u8 6, .int .u8 d, .int .u8 a, .int .u8 b, .int .i64 0] 24) = W2 at *
  generalize w1.heap.size = g at *
  with_reducible refine (H1.out _).mono ?_
  rintro e' w2 ⟨rfl, hb⟩
  have B3 := Lib.hid (bstep B2.out B2.out.size hb)
  have X3 := Lib.hid ((hb.block _ (Array.getElem?_eq_some_iff.1 X2.out).1).trans X2.out)
  have Y3 := Lib.hid ((hb.block _ (Array.getElem?_eq_some_iff.1 Y2.out).1).trans Y2.out)
  obtain ⟨c0, c1, c2, c3, c4⟩ := inB_cell Y3.out
  have hn := new_below w2 (.cells #[.int .u8 6, .int .u8 d, .int .u8 a, .int .u8 b, .int .i64 0] 24)
  have B4 := Lib.hid (bstep B3.out B3.out.size hn)
  have X4 := Lib.hid ((hn.block _ (Array.getElem?_eq_some_iff.1 X3.out).1).trans X3.out)
  have S2 := Lib.hid (H2.out (some ⟨w2.heap.size, 0, none⟩) 1 _ (esI_new w2 [⟨6, d, a, b, 0⟩] #[.int .u8 6, .int .u8 d, .int .u8 a, .int .u8 b, .int .i64 0] rfl (by simp)))
  clear hb B2 X2 Y2 H1 H2 hn B3 X3
  go_wp2_with fail
  clear c0 c1 c2 c3 c4 Y3
  generalize w2.alloc (.cells #[.int .u8 6, .int .u8 d, .int .u8 a, .int .u8 b, .int .i64 0] 24) = W4 at *
  generalize w2.heap.size = g2 at *
  with_reducible refine (S2.out).mono ?_
  rintro e' w5 ⟨rfl, hb⟩
  have B5 := Lib.hid (bstep B4.out B4.out.size hb)
  have X5 := Lib.hid ((hb.block _ (Array.getElem?_eq_some_iff.1 X4.out).1).trans X4.out)
  obtain ⟨c0, c1, c2, c3, c4⟩ := inB_cell X5.out
  clear hb B4 X4 S2
  go_wp2_with fail
  go_ret
  exact ⟨rfl, B5.out⟩

set_option maxRecDepth 100000 in
set_option maxHeartbeats 4000000 in
theorem ops_7 (d' a' b' d a b : Int) (bd : 0 ≤ d ∧ d ≤ 7) (ba : 0 ≤ a ∧ a ≤ 7) (bb : 0 ≤ b ∧ b ≤ 7) (qd : d'.tmod 8 = d) (qa : a'.tmod 8 = a) (qb : b'.tmod 8 = b) (w : World) :
    Calls Try.prog 8 #[.int .u8 7, .agg #[.int .u8 d', .int .u8 a', .int .u8 b']] w fun e w' => e = .returned (.bool true) ∧ Below w.heap.size w w' := by
  have hx : (In.ok ⟨7, d, a, b, 0⟩) := by constructor <;> dsimp only <;> first | (unfold I64; omega) | omega
  have hy : (In.ok ⟨7, d, a, b, 0⟩) := by constructor <;> dsimp only <;> first | (unfold I64; omega) | omega
  have H1 := Lib.hid (fun w => one_any ⟨7, d, a, b, 0⟩ 0 1 hy (by decide) (by decide) w)
  have e1 : oneB ⟨7, d, a, b, 0⟩ 0 1 = true := by unfold oneB; exact decide_eq_true (by simp [us, ms, lo, hi] <;> omega)
  rw [e1] at H1
  have H2 := Lib.hid (fun A c w he => samples_any [⟨7, d, a, b, 0⟩] A c (by simp) (ok1 hy) w he)
  have e2 : List.any [(⟨7, d, a, b, 0⟩ : In)] tex = false := by simp [tex]
  rw [e2] at H2
  have H3 := Lib.hid (fun w => one_any ⟨7, d, a, b, 0⟩ 0 1 hx (by decide) (by decide) w)
  dsimp only [List.length_cons, List.length_nil] at H1 H2 H3
  have h0 := new_below w (.cells #[.int .u8 d', .int .u8 a', .int .u8 b'] 40)
  have R0 := Lib.hid (new_at1 w (.cells #[.int .u8 d', .int .u8 a', .int .u8 b'] 40))
  have B0 := Lib.hid h0
  clear h0 e1 e2
  go_enter Try.func8, Try.ntmps8
  go_wp2_with fail
  generalize w.alloc (.cells #[.int .u8 d', .int .u8 a', .int .u8 b'] 40) = w0 at *
  with_reducible refine (shown_any w0).mono ?_
  rintro e' w1 ⟨rfl, hb⟩
  have B1 := Lib.hid (bstep B0.out B0.out.size hb)
  have R1 := Lib.hid ((hb.block _ (Array.getElem?_eq_some_iff.1 R0.out).1).trans R0.out)
  have r0 : w1.cell? ⟨w.heap.size, 0, none⟩ = some (.int .u8 d') := cell_of_row _ _ _ _ 40 (0, 0) R1.out
  have r1 : w1.cell? ⟨w.heap.size, 1, none⟩ = some (.int .u8 a') := cell_of_row _ _ _ _ 40 (0, 0) R1.out
  have r2 : w1.cell? ⟨w.heap.size, 2, none⟩ = some (.int .u8 b') := cell_of_row _ _ _ _ 40 (0, 0) R1.out
  have hlt : w.heap.size < w1.heap.size := (Array.getElem?_eq_some_iff.1 R1.out).1
  clear hb B0 R0
  go_wp2_with fail
  have B2 := Lib.hid (show Below w.heap.size w ((w1.alloc (.cells #[.int .u8 7, .int .u8 d, .int .u8 a, .int .u8 b, .int .i64 0] 24)).alloc (.cells #[.int .u8 7, .int .u8 d, .int .u8 a, .int .u8 b, .int .i64 0] 24)) from (B1.out.alloc B1.out.size _).alloc (by have := B1.out.size; simp; omega) _)
  have X2 := Lib.hid (show ((w1.alloc (.cells #[.int .u8 7, .int .u8 d, .int .u8 a, .int .u8 b, .int .i64 0] 24)).alloc (.cells #[.int .u8 7, .int .u8 d, .int .u8 a, .int .u8 b, .int .i64 0] 24)).heap[w1.heap.size]? = some (inB ⟨7, d, a, b, 0⟩) from new_keep _ (new_at1 _ _))
  have Y2 := Lib.hid (show ((w1.alloc (.cells #[.int .u8 7, .int .u8 d, .int .u8 a, .int .u8 b, .int .i64 0] 24)).alloc (.cells #[.int .u8 7, .int .u8 d, .int .u8 a, .int .u8 b, .int .i64 0] 24)).heap[w1.heap.size + 1]? = some (inB ⟨7, d, a, b, 0⟩) from by
    have := new_at1 (w1.alloc (.cells #[.int .u8 7, .int .u8 d, .int .u8 a, .int .u8 b, .int .i64 0] 24)) (.cells #[.int .u8 7, .int .u8 d, .int .u8 a, .int .u8 b, .int .i64 0] 24)
    simpa using this)
  clear r0 r1 r2 hlt R1 B1 qd qa qb
  generalize (w1.alloc (.cells #[.int .u8 7, .int .u8 d, .int .u8 a, .int .u8 b, .int .i64 0] 24)).alloc (.cells #[.int .u8 7, .int .u8 d, .int .u8 a, .int .u8 b, .int .i64 0] 24) = W2 at *
  generalize w1.heap.size = g at *
  with_reducible refine (H1.out _).mono ?_
  rintro e' w2 ⟨rfl, hb⟩
  have B3 := Lib.hid (bstep B2.out B2.out.size hb)
  have X3 := Lib.hid ((hb.block _ (Array.getElem?_eq_some_iff.1 X2.out).1).trans X2.out)
  have Y3 := Lib.hid ((hb.block _ (Array.getElem?_eq_some_iff.1 Y2.out).1).trans Y2.out)
  obtain ⟨c0, c1, c2, c3, c4⟩ := inB_cell Y3.out
  have hn := new_below w2 (.cells #[.int .u8 7, .int .u8 d, .int .u8 a, .int .u8 b, .int .i64 0] 24)
  have B4 := Lib.hid (bstep B3.out B3.out.size hn)
  have X4 := Lib.hid ((hn.block _ (Array.getElem?_eq_some_iff.1 X3.out).1).trans X3.out)
  have S2 := Lib.hid (H2.out (some ⟨w2.heap.size, 0, none⟩) 1 _ (esI_new w2 [⟨7, d, a, b, 0⟩] #[.int .u8 7, .int .u8 d, .int .u8 a, .int .u8 b, .int .i64 0] rfl (by simp)))
  clear hb B2 X2 Y2 H1 H2 hn B3 X3
  go_wp2_with fail
  clear c0 c1 c2 c3 c4 Y3
  generalize w2.alloc (.cells #[.int .u8 7, .int .u8 d, .int .u8 a, .int .u8 b, .int .i64 0] 24) = W4 at *
  generalize w2.heap.size = g2 at *
  with_reducible refine (S2.out).mono ?_
  rintro e' w5 ⟨rfl, hb⟩
  have B5 := Lib.hid (bstep B4.out B4.out.size hb)
  have X5 := Lib.hid ((hb.block _ (Array.getElem?_eq_some_iff.1 X4.out).1).trans X4.out)
  obtain ⟨c0, c1, c2, c3, c4⟩ := inB_cell X5.out
  clear hb B4 X4 S2
  go_wp2_with fail
  go_ret
  exact ⟨rfl, B5.out⟩

set_option maxRecDepth 100000 in
set_option maxHeartbeats 4000000 in
theorem ops_8 (d' a' b' d a b : Int) (bd : 0 ≤ d ∧ d ≤ 7) (ba : 0 ≤ a ∧ a ≤ 7) (bb : 0 ≤ b ∧ b ≤ 7) (qd : d'.tmod 8 = d) (qa : a'.tmod 8 = a) (qb : b'.tmod 8 = b) (w : World) :
    Calls Try.prog 8 #[.int .u8 8, .agg #[.int .u8 d', .int .u8 a', .int .u8 b']] w fun e w' => e = .returned (.bool true) ∧ Below w.heap.size w w' := by
  have hx : (In.ok ⟨8, d, a, b, 0⟩) := by constructor <;> dsimp only <;> first | (unfold I64; omega) | omega
  have hy : (In.ok ⟨8, d, a, b, 0⟩) := by constructor <;> dsimp only <;> first | (unfold I64; omega) | omega
  have H1 := Lib.hid (fun w => one_any ⟨8, d, a, b, 0⟩ 0 1 hy (by decide) (by decide) w)
  have e1 : oneB ⟨8, d, a, b, 0⟩ 0 1 = true := by unfold oneB; exact decide_eq_true (by simp [us, ms, lo, hi] <;> omega)
  rw [e1] at H1
  have H2 := Lib.hid (fun A c w he => samples_any [⟨8, d, a, b, 0⟩] A c (by simp) (ok1 hy) w he)
  have e2 : List.any [(⟨8, d, a, b, 0⟩ : In)] tex = false := by simp [tex]
  rw [e2] at H2
  have H3 := Lib.hid (fun w => one_any ⟨8, d, a, b, 0⟩ 0 1 hx (by decide) (by decide) w)
  dsimp only [List.length_cons, List.length_nil] at H1 H2 H3
  have h0 := new_below w (.cells #[.int .u8 d', .int .u8 a', .int .u8 b'] 40)
  have R0 := Lib.hid (new_at1 w (.cells #[.int .u8 d', .int .u8 a', .int .u8 b'] 40))
  have B0 := Lib.hid h0
  clear h0 e1 e2
  go_enter Try.func8, Try.ntmps8
  go_wp2_with fail
  generalize w.alloc (.cells #[.int .u8 d', .int .u8 a', .int .u8 b'] 40) = w0 at *
  with_reducible refine (shown_any w0).mono ?_
  rintro e' w1 ⟨rfl, hb⟩
  have B1 := Lib.hid (bstep B0.out B0.out.size hb)
  have R1 := Lib.hid ((hb.block _ (Array.getElem?_eq_some_iff.1 R0.out).1).trans R0.out)
  have r0 : w1.cell? ⟨w.heap.size, 0, none⟩ = some (.int .u8 d') := cell_of_row _ _ _ _ 40 (0, 0) R1.out
  have r1 : w1.cell? ⟨w.heap.size, 1, none⟩ = some (.int .u8 a') := cell_of_row _ _ _ _ 40 (0, 0) R1.out
  have r2 : w1.cell? ⟨w.heap.size, 2, none⟩ = some (.int .u8 b') := cell_of_row _ _ _ _ 40 (0, 0) R1.out
  have hlt : w.heap.size < w1.heap.size := (Array.getElem?_eq_some_iff.1 R1.out).1
  clear hb B0 R0
  go_wp2_with fail
  have B2 := Lib.hid (show Below w.heap.size w ((w1.alloc (.cells #[.int .u8 8, .int .u8 d, .int .u8 a, .int .u8 b, .int .i64 0] 24)).alloc (.cells #[.int .u8 8, .int .u8 d, .int .u8 a, .int .u8 b, .int .i64 0] 24)) from (B1.out.alloc B1.out.size _).alloc (by have := B1.out.size; simp; omega) _)
  have X2 := Lib.hid (show ((w1.alloc (.cells #[.int .u8 8, .int .u8 d, .int .u8 a, .int .u8 b, .int .i64 0] 24)).alloc (.cells #[.int .u8 8, .int .u8 d, .int .u8 a, .int .u8 b, .int .i64 0] 24)).heap[w1.heap.size]? = some (inB ⟨8, d, a, b, 0⟩) from new_keep _ (new_at1 _ _))
  have Y2 := Lib.hid (show ((w1.alloc (.cells #[.int .u8 8, .int .u8 d, .int .u8 a, .int .u8 b, .int .i64 0] 24)).alloc (.cells #[.int .u8 8, .int .u8 d, .int .u8 a, .int .u8 b, .int .i64 0] 24)).heap[w1.heap.size + 1]? = some (inB ⟨8, d, a, b, 0⟩) from by
    have := new_at1 (w1.alloc (.cells #[.int .u8 8, .int .u8 d, .int .u8 a, .int .u8 b, .int .i64 0] 24)) (.cells #[.int .u8 8, .int .u8 d, .int .u8 a, .int .u8 b, .int .i64 0] 24)
    simpa using this)
  clear r0 r1 r2 hlt R1 B1 qd qa qb
  generalize (w1.alloc (.cells #[.int .u8 8, .int .u8 d, .int .u8 a, .int .u8 b, .int .i64 0] 24)).alloc (.cells #[.int .u8 8, .int .u8 d, .int .u8 a, .int .u8 b, .int .i64 0] 24) = W2 at *
  generalize w1.heap.size = g at *
  with_reducible refine (H1.out _).mono ?_
  rintro e' w2 ⟨rfl, hb⟩
  have B3 := Lib.hid (bstep B2.out B2.out.size hb)
  have X3 := Lib.hid ((hb.block _ (Array.getElem?_eq_some_iff.1 X2.out).1).trans X2.out)
  have Y3 := Lib.hid ((hb.block _ (Array.getElem?_eq_some_iff.1 Y2.out).1).trans Y2.out)
  obtain ⟨c0, c1, c2, c3, c4⟩ := inB_cell Y3.out
  have hn := new_below w2 (.cells #[.int .u8 8, .int .u8 d, .int .u8 a, .int .u8 b, .int .i64 0] 24)
  have B4 := Lib.hid (bstep B3.out B3.out.size hn)
  have X4 := Lib.hid ((hn.block _ (Array.getElem?_eq_some_iff.1 X3.out).1).trans X3.out)
  have S2 := Lib.hid (H2.out (some ⟨w2.heap.size, 0, none⟩) 1 _ (esI_new w2 [⟨8, d, a, b, 0⟩] #[.int .u8 8, .int .u8 d, .int .u8 a, .int .u8 b, .int .i64 0] rfl (by simp)))
  clear hb B2 X2 Y2 H1 H2 hn B3 X3
  go_wp2_with fail
  clear c0 c1 c2 c3 c4 Y3
  generalize w2.alloc (.cells #[.int .u8 8, .int .u8 d, .int .u8 a, .int .u8 b, .int .i64 0] 24) = W4 at *
  generalize w2.heap.size = g2 at *
  with_reducible refine (S2.out).mono ?_
  rintro e' w5 ⟨rfl, hb⟩
  have B5 := Lib.hid (bstep B4.out B4.out.size hb)
  have X5 := Lib.hid ((hb.block _ (Array.getElem?_eq_some_iff.1 X4.out).1).trans X4.out)
  obtain ⟨c0, c1, c2, c3, c4⟩ := inB_cell X5.out
  clear hb B4 X4 S2
  go_wp2_with fail
  go_ret
  exact ⟨rfl, B5.out⟩

set_option maxRecDepth 100000 in
set_option maxHeartbeats 4000000 in
theorem ops_11 (d' a' b' d a b : Int) (bd : 0 ≤ d ∧ d ≤ 7) (ba : 0 ≤ a ∧ a ≤ 7) (bb : 0 ≤ b ∧ b ≤ 7) (qd : d'.tmod 8 = d) (qa : a'.tmod 8 = a) (qb : b'.tmod 8 = b) (w : World) :
    Calls Try.prog 8 #[.int .u8 11, .agg #[.int .u8 d', .int .u8 a', .int .u8 b']] w fun e w' => e = .returned (.bool true) ∧ Below w.heap.size w w' := by
  have hx : (In.ok ⟨11, d, a, b, 0⟩) := by constructor <;> dsimp only <;> first | (unfold I64; omega) | omega
  have hy : (In.ok ⟨11, d, a, b, 0⟩) := by constructor <;> dsimp only <;> first | (unfold I64; omega) | omega
  have H1 := Lib.hid (fun w => one_any ⟨11, d, a, b, 0⟩ 0 1 hy (by decide) (by decide) w)
  have e1 : oneB ⟨11, d, a, b, 0⟩ 0 1 = true := by unfold oneB; exact decide_eq_true (by simp [us, ms, lo, hi] <;> omega)
  rw [e1] at H1
  have H2 := Lib.hid (fun A c w he => samples_any [⟨11, d, a, b, 0⟩] A c (by simp) (ok1 hy) w he)
  have e2 : List.any [(⟨11, d, a, b, 0⟩ : In)] tex = false := by simp [tex]
  rw [e2] at H2
  have H3 := Lib.hid (fun w => one_any ⟨11, d, a, b, 0⟩ 0 1 hx (by decide) (by decide) w)
  dsimp only [List.length_cons, List.length_nil] at H1 H2 H3
  have h0 := new_below w (.cells #[.int .u8 d', .int .u8 a', .int .u8 b'] 40)
  have R0 := Lib.hid (new_at1 w (.cells #[.int .u8 d', .int .u8 a', .int .u8 b'] 40))
  have B0 := Lib.hid h0
  clear h0 e1 e2
  go_enter Try.func8, Try.ntmps8
  go_wp2_with fail
  generalize w.alloc (.cells #[.int .u8 d', .int .u8 a', .int .u8 b'] 40) = w0 at *
  with_reducible refine (shown_any w0).mono ?_
  rintro e' w1 ⟨rfl, hb⟩
  have B1 := Lib.hid (bstep B0.out B0.out.size hb)
  have R1 := Lib.hid ((hb.block _ (Array.getElem?_eq_some_iff.1 R0.out).1).trans R0.out)
  have r0 : w1.cell? ⟨w.heap.size, 0, none⟩ = some (.int .u8 d') := cell_of_row _ _ _ _ 40 (0, 0) R1.out
  have r1 : w1.cell? ⟨w.heap.size, 1, none⟩ = some (.int .u8 a') := cell_of_row _ _ _ _ 40 (0, 0) R1.out
  have r2 : w1.cell? ⟨w.heap.size, 2, none⟩ = some (.int .u8 b') := cell_of_row _ _ _ _ 40 (0, 0) R1.out
  have hlt : w.heap.size < w1.heap.size := (Array.getElem?_eq_some_iff.1 R1.out).1
  clear hb B0 R0
  go_wp2_with fail
  have B2 := Lib.hid (show Below w.heap.size w ((w1.alloc (.cells #[.int .u8 11, .int .u8 d, .int .u8 a, .int .u8 b, .int .i64 0] 24)).alloc (.cells #[.int .u8 11, .int .u8 d, .int .u8 a, .int .u8 b, .int .i64 0] 24)) from (B1.out.alloc B1.out.size _).alloc (by have := B1.out.size; simp; omega) _)
  have X2 := Lib.hid (show ((w1.alloc (.cells #[.int .u8 11, .int .u8 d, .int .u8 a, .int .u8 b, .int .i64 0] 24)).alloc (.cells #[.int .u8 11, .int .u8 d, .int .u8 a, .int .u8 b, .int .i64 0] 24)).heap[w1.heap.size]? = some (inB ⟨11, d, a, b, 0⟩) from new_keep _ (new_at1 _ _))
  have Y2 := Lib.hid (show ((w1.alloc (.cells #[.int .u8 11, .int .u8 d, .int .u8 a, .int .u8 b, .int .i64 0] 24)).alloc (.cells #[.int .u8 11, .int .u8 d, .int .u8 a, .int .u8 b, .int .i64 0] 24)).heap[w1.heap.size + 1]? = some (inB ⟨11, d, a, b, 0⟩) from by
    have := new_at1 (w1.alloc (.cells #[.int .u8 11, .int .u8 d, .int .u8 a, .int .u8 b, .int .i64 0] 24)) (.cells #[.int .u8 11, .int .u8 d, .int .u8 a, .int .u8 b, .int .i64 0] 24)
    simpa using this)
  clear r0 r1 r2 hlt R1 B1 qd qa qb
  generalize (w1.alloc (.cells #[.int .u8 11, .int .u8 d, .int .u8 a, .int .u8 b, .int .i64 0] 24)).alloc (.cells #[.int .u8 11, .int .u8 d, .int .u8 a, .int .u8 b, .int .i64 0] 24) = W2 at *
  generalize w1.heap.size = g at *
  with_reducible refine (H1.out _).mono ?_
  rintro e' w2 ⟨rfl, hb⟩
  have B3 := Lib.hid (bstep B2.out B2.out.size hb)
  have X3 := Lib.hid ((hb.block _ (Array.getElem?_eq_some_iff.1 X2.out).1).trans X2.out)
  have Y3 := Lib.hid ((hb.block _ (Array.getElem?_eq_some_iff.1 Y2.out).1).trans Y2.out)
  obtain ⟨c0, c1, c2, c3, c4⟩ := inB_cell Y3.out
  have hn := new_below w2 (.cells #[.int .u8 11, .int .u8 d, .int .u8 a, .int .u8 b, .int .i64 0] 24)
  have B4 := Lib.hid (bstep B3.out B3.out.size hn)
  have X4 := Lib.hid ((hn.block _ (Array.getElem?_eq_some_iff.1 X3.out).1).trans X3.out)
  have S2 := Lib.hid (H2.out (some ⟨w2.heap.size, 0, none⟩) 1 _ (esI_new w2 [⟨11, d, a, b, 0⟩] #[.int .u8 11, .int .u8 d, .int .u8 a, .int .u8 b, .int .i64 0] rfl (by simp)))
  clear hb B2 X2 Y2 H1 H2 hn B3 X3
  go_wp2_with fail
  clear c0 c1 c2 c3 c4 Y3
  generalize w2.alloc (.cells #[.int .u8 11, .int .u8 d, .int .u8 a, .int .u8 b, .int .i64 0] 24) = W4 at *
  generalize w2.heap.size = g2 at *
  with_reducible refine (S2.out).mono ?_
  rintro e' w5 ⟨rfl, hb⟩
  have B5 := Lib.hid (bstep B4.out B4.out.size hb)
  have X5 := Lib.hid ((hb.block _ (Array.getElem?_eq_some_iff.1 X4.out).1).trans X4.out)
  obtain ⟨c0, c1, c2, c3, c4⟩ := inB_cell X5.out
  clear hb B4 X4 S2
  go_wp2_with fail
  go_ret
  exact ⟨rfl, B5.out⟩

end Go.Proofs.Yticfllfelbfceaa
