/-
  The walk of glazierlaw02.ColourRight.
-/
import Derived.Test.YtpnjhmmodkhmfaaRgt
import Derived.Deep.RegionWith
namespace Go.Proofs.Ytpnjhmmodkhmfaa
open Go.RowKit
attribute [local go_sem ↓] Go.wp_at_zero Go.wp_at_succ

theorem fold_three (A B C D : Col) (g : Nat) (V : World) (hA : A.ok) (hB : B.ok) (hC : C.ok) (hD : D.ok) (h : V.heap[g]? = some (fourB A B C D)) :
    Calls Try.prog 17 #[.agg #[.int .u8 D.r, .int .u8 D.g, .int .u8 D.b, .int .u8 D.a], .slice (some ⟨g, 0, none⟩) 3 4] V fun e w' => e = .returned (.agg #[.int .u8 (over C (over B (over A D))).r, .int .u8 (over C (over B (over A D))).g, .int .u8 (over C (over B (over A D))).b, .int .u8 (over C (over B (over A D))).a]) ∧ Below V.heap.size V w' :=
  fold_row D [A, B, C] g 0 4 V hD (fun x hx => by simp at hx; rcases hx with rfl | rfl | rfl <;> assumption) (by simp) (colsAt_three (fourB_at h))

set_option maxRecDepth 100000 in
set_option maxHeartbeats 8000000 in
theorem colourRight_walk (a b c d : Col) (w : World) (ha : a.ok) (hb : b.ok) (hc : c.ok) (hd : d.ok) :
    Calls Try.prog 4 #[.agg #[.int .u8 a.r, .int .u8 a.g, .int .u8 a.b, .int .u8 a.a, .int .u8 b.r, .int .u8 b.g, .int .u8 b.b, .int .u8 b.a, .int .u8 c.r, .int .u8 c.g, .int .u8 c.b, .int .u8 c.a, .int .u8 d.r, .int .u8 d.g, .int .u8 d.b, .int .u8 d.a]] w fun e w' => e = .returned (.bool true) ∧ Below w.heap.size w w' := by
  go_enter Try.func4, Try.ntmps4
  go_wp2_with fail
  refine (shown_any _).mono ?_
  rintro e w1 ⟨rfl, hb1⟩
  have n1 : w1.heap[w.heap.size]? = some (fourB a b c d) := by rw [hb1.block _ (by simp)]; exact heap_alloc_new _ _
  have z1 : w.heap.size < w1.heap.size := World.block_lt_of_cell? _ _ (fourB_at n1).1
  have HB1 := Lib.hid (((Below.refl w.heap.size w).alloc (Nat.le_refl _) _).trans (hb1.mono (by simp)))
  have HN1 := Lib.hid n1
  clear hb1 n1
  go_wp2_with fail
  refine wp_loop_rounds 5 ?_
  have hW : ∃ W, W = w1.alloc (fourB zeroC zeroC zeroC zeroC) := ⟨_, rfl⟩
  obtain ⟨W0, hW⟩ := hW
  have HN0 := Lib.hid (show W0.heap[w.heap.size]? = some (fourB a b c d) by rw [hW]; exact (Below.heap_alloc _ _ _ z1).trans HN1.out)
  have HP0 := Lib.hid (show W0.heap[w1.heap.size]? = some (fourB zeroC zeroC zeroC zeroC) by rw [hW]; exact heap_alloc_new _ _)
  have HE0 := Lib.hid (show Below w.heap.size w W0 by rw [hW]; exact HB1.out.alloc HB1.out.size _)
  change Code.rounds _ _ _ _ _ (w1.alloc (fourB zeroC zeroC zeroC zeroC))
  rw [← hW]
  clear hW HB1 HN1
  rw [rounds_succ]
  obtain ⟨e0, e1, e2, e3, -, -, -, -, -, -, -, -, -, -, -, -⟩ := fourB_at HN0.out
  go_wp2_with fail
  refine (pre_col a _ ha).mono ?_
  rintro e u0 ⟨rfl, hu⟩
  have zN : w.heap.size < W0.heap.size := World.block_lt_of_cell? _ _ (fourB_at HN0.out).1
  have zP : w1.heap.size < W0.heap.size := World.block_lt_of_cell? _ _ (fourB_at HP0.out).1
  have HUN := Lib.hid ((hu.block _ zN).trans HN0.out)
  have HUP := Lib.hid ((hu.block _ zP).trans HP0.out)
  have HUE := Lib.hid (bstep HE0.out HE0.out.size hu)
  clear hu e0 e1 e2 e3
  obtain ⟨q0, q1, q2, q3, -, -, -, -, -, -, -, -, -, -, -, -⟩ := fourB_at HUP.out
  have r0 := fourB_free HUP.out 0
  have r1 := fourB_free HUP.out 1
  have r2 := fourB_free HUP.out 2
  have r3 := fourB_free HUP.out 3
  go_wp2_with fail
  have hV : ∃ V, V = ((((u0.setCell ⟨w1.heap.size, 0, none⟩ (.int .u8 (pre a).r)).setCell ⟨w1.heap.size, 1, none⟩ (.int .u8 (pre a).g)).setCell ⟨w1.heap.size, 2, none⟩ (.int .u8 (pre a).b)).setCell ⟨w1.heap.size, 3, none⟩ (.int .u8 (pre a).a)) := ⟨_, rfl⟩
  obtain ⟨V0, hV⟩ := hV
  rw [← hV]
  have HVN := Lib.hid (show V0.heap[w.heap.size]? = some (fourB a b c d) by rw [hV, heap_setCell_other _ _ _ _ (by simp; omega), heap_setCell_other _ _ _ _ (by simp; omega), heap_setCell_other _ _ _ _ (by simp; omega), heap_setCell_other _ _ _ _ (by simp; omega)]; exact HUN.out)
  have HVP := Lib.hid (show V0.heap[w1.heap.size]? = some (fourB (pre a) zeroC zeroC zeroC) by rw [hV]; exact (fourB_set (pre a) HUP.out).1)
  have HVE := Lib.hid (show Below w.heap.size w V0 by rw [hV]; exact (((HUE.out.setCell (by simp; omega) _).setCell (by simp; omega) _).setCell (by simp; omega) _).setCell (by simp; omega) _)
  clear hV q0 r0 q1 r1 q2 r2 q3 r3 HUN HUP HUE HN0 HP0 HE0
  have g0 : ∀ x : Grow V0, x.w.cell? ⟨w1.heap.size, 0, none⟩ = some (.int .u8 ((pre a).r)) := fun x => x.cell ((fourB_at HVP.out).1)
  have g1 : ∀ x : Grow V0, x.w.cell? ⟨w1.heap.size, 1, none⟩ = some (.int .u8 ((pre a).g)) := fun x => x.cell ((fourB_at HVP.out).2.1)
  have g2 : ∀ x : Grow V0, x.w.cell? ⟨w1.heap.size, 2, none⟩ = some (.int .u8 ((pre a).b)) := fun x => x.cell ((fourB_at HVP.out).2.2.1)
  have g3 : ∀ x : Grow V0, x.w.cell? ⟨w1.heap.size, 3, none⟩ = some (.int .u8 (a.a)) := fun x => x.cell ((fourB_at HVP.out).2.2.2.1)
  have g4 : ∀ x : Grow V0, x.w.cell? ⟨w.heap.size, 3, none⟩ = some (.int .u8 a.a) := fun x => x.cell ((fourB_at HVN.out).2.2.2.1)
  have ne := Grow.ne V0
  have S1 : ∀ y : Grow V0, Calls Try.prog 11 #[.agg #[.int .u8 (pre a).r, .int .u8 (pre a).g, .int .u8 (pre a).b, .int .u8 a.a]] y.w fun e w' => e = .returned (.bool true) ∧ Below y.w.heap.size y.w w' := fun y => right_yes (pre a) y.w (pre_right ha)
  have HS1 := Lib.hid S1
  clear S1
  refine wp_region_grow (by kernel_rfl) (by kernel_rfl) ?_
  repeat (go_big_quiet_step ((go_at_call 11; with_reducible exact Grow.calls (HS1.out _))))
  refine wpQuiet_nil ?_
  rintro _ ⟨x, rfl⟩
  have zN' : w.heap.size < V0.heap.size := World.block_lt_of_cell? _ _ (fourB_at HVN.out).1
  have zP' : w1.heap.size < V0.heap.size := World.block_lt_of_cell? _ _ (fourB_at HVP.out).1
  have HN1 := Lib.hid ((x.below.block _ zN').trans HVN.out)
  have HP1 := Lib.hid ((x.below.block _ zP').trans HVP.out)
  have HE1 := Lib.hid (bstep HVE.out HVE.out.size x.below)
  clear g0 g1 g2 g3 g4 ne HS1 HVN HVP HVE zN zP zN' zP'
  generalize x.w = W1 at *
  clear x V0 u0 W0
  go_wp2_with fail
  rw [rounds_succ]
  obtain ⟨-, -, -, -, e4, e5, e6, e7, -, -, -, -, -, -, -, -⟩ := fourB_at HN1.out
  go_wp2_with fail
  refine (pre_col b _ hb).mono ?_
  rintro e u1 ⟨rfl, hu⟩
  have zN : w.heap.size < W1.heap.size := World.block_lt_of_cell? _ _ (fourB_at HN1.out).1
  have zP : w1.heap.size < W1.heap.size := World.block_lt_of_cell? _ _ (fourB_at HP1.out).1
  have HUN := Lib.hid ((hu.block _ zN).trans HN1.out)
  have HUP := Lib.hid ((hu.block _ zP).trans HP1.out)
  have HUE := Lib.hid (bstep HE1.out HE1.out.size hu)
  clear hu e4 e5 e6 e7
  obtain ⟨-, -, -, -, q4, q5, q6, q7, -, -, -, -, -, -, -, -⟩ := fourB_at HUP.out
  have r4 := fourB_free HUP.out 4
  have r5 := fourB_free HUP.out 5
  have r6 := fourB_free HUP.out 6
  have r7 := fourB_free HUP.out 7
  go_wp2_with fail
  have hV : ∃ V, V = ((((u1.setCell ⟨w1.heap.size, 4, none⟩ (.int .u8 (pre b).r)).setCell ⟨w1.heap.size, 5, none⟩ (.int .u8 (pre b).g)).setCell ⟨w1.heap.size, 6, none⟩ (.int .u8 (pre b).b)).setCell ⟨w1.heap.size, 7, none⟩ (.int .u8 (pre b).a)) := ⟨_, rfl⟩
  obtain ⟨V1, hV⟩ := hV
  rw [← hV]
  have HVN := Lib.hid (show V1.heap[w.heap.size]? = some (fourB a b c d) by rw [hV, heap_setCell_other _ _ _ _ (by simp; omega), heap_setCell_other _ _ _ _ (by simp; omega), heap_setCell_other _ _ _ _ (by simp; omega), heap_setCell_other _ _ _ _ (by simp; omega)]; exact HUN.out)
  have HVP := Lib.hid (show V1.heap[w1.heap.size]? = some (fourB (pre a) (pre b) zeroC zeroC) by rw [hV]; exact (fourB_set (pre b) HUP.out).2.1)
  have HVE := Lib.hid (show Below w.heap.size w V1 by rw [hV]; exact (((HUE.out.setCell (by simp; omega) _).setCell (by simp; omega) _).setCell (by simp; omega) _).setCell (by simp; omega) _)
  clear hV q4 r4 q5 r5 q6 r6 q7 r7 HUN HUP HUE HN1 HP1 HE1
  have g0 : ∀ x : Grow V1, x.w.cell? ⟨w1.heap.size, 4, none⟩ = some (.int .u8 ((pre b).r)) := fun x => x.cell ((fourB_at HVP.out).2.2.2.2.1)
  have g1 : ∀ x : Grow V1, x.w.cell? ⟨w1.heap.size, 5, none⟩ = some (.int .u8 ((pre b).g)) := fun x => x.cell ((fourB_at HVP.out).2.2.2.2.2.1)
  have g2 : ∀ x : Grow V1, x.w.cell? ⟨w1.heap.size, 6, none⟩ = some (.int .u8 ((pre b).b)) := fun x => x.cell ((fourB_at HVP.out).2.2.2.2.2.2.1)
  have g3 : ∀ x : Grow V1, x.w.cell? ⟨w1.heap.size, 7, none⟩ = some (.int .u8 (b.a)) := fun x => x.cell ((fourB_at HVP.out).2.2.2.2.2.2.2.1)
  have g4 : ∀ x : Grow V1, x.w.cell? ⟨w.heap.size, 7, none⟩ = some (.int .u8 b.a) := fun x => x.cell ((fourB_at HVN.out).2.2.2.2.2.2.2.1)
  have ne := Grow.ne V1
  have S1 : ∀ y : Grow V1, Calls Try.prog 11 #[.agg #[.int .u8 (pre b).r, .int .u8 (pre b).g, .int .u8 (pre b).b, .int .u8 b.a]] y.w fun e w' => e = .returned (.bool true) ∧ Below y.w.heap.size y.w w' := fun y => right_yes (pre b) y.w (pre_right hb)
  have HS1 := Lib.hid S1
  clear S1
  refine wp_region_grow (by kernel_rfl) (by kernel_rfl) ?_
  repeat (go_big_quiet_step ((go_at_call 11; with_reducible exact Grow.calls (HS1.out _))))
  refine wpQuiet_nil ?_
  rintro _ ⟨x, rfl⟩
  have zN' : w.heap.size < V1.heap.size := World.block_lt_of_cell? _ _ (fourB_at HVN.out).1
  have zP' : w1.heap.size < V1.heap.size := World.block_lt_of_cell? _ _ (fourB_at HVP.out).1
  have HN2 := Lib.hid ((x.below.block _ zN').trans HVN.out)
  have HP2 := Lib.hid ((x.below.block _ zP').trans HVP.out)
  have HE2 := Lib.hid (bstep HVE.out HVE.out.size x.below)
  clear g0 g1 g2 g3 g4 ne HS1 HVN HVP HVE zN zP zN' zP'
  generalize x.w = W2 at *
  clear x V1 u1 W1
  go_wp2_with fail
  rw [rounds_succ]
  obtain ⟨-, -, -, -, -, -, -, -, e8, e9, e10, e11, -, -, -, -⟩ := fourB_at HN2.out
  go_wp2_with fail
  refine (pre_col c _ hc).mono ?_
  rintro e u2 ⟨rfl, hu⟩
  have zN : w.heap.size < W2.heap.size := World.block_lt_of_cell? _ _ (fourB_at HN2.out).1
  have zP : w1.heap.size < W2.heap.size := World.block_lt_of_cell? _ _ (fourB_at HP2.out).1
  have HUN := Lib.hid ((hu.block _ zN).trans HN2.out)
  have HUP := Lib.hid ((hu.block _ zP).trans HP2.out)
  have HUE := Lib.hid (bstep HE2.out HE2.out.size hu)
  clear hu e8 e9 e10 e11
  obtain ⟨-, -, -, -, -, -, -, -, q8, q9, q10, q11, -, -, -, -⟩ := fourB_at HUP.out
  have r8 := fourB_free HUP.out 8
  have r9 := fourB_free HUP.out 9
  have r10 := fourB_free HUP.out 10
  have r11 := fourB_free HUP.out 11
  go_wp2_with fail
  have hV : ∃ V, V = ((((u2.setCell ⟨w1.heap.size, 8, none⟩ (.int .u8 (pre c).r)).setCell ⟨w1.heap.size, 9, none⟩ (.int .u8 (pre c).g)).setCell ⟨w1.heap.size, 10, none⟩ (.int .u8 (pre c).b)).setCell ⟨w1.heap.size, 11, none⟩ (.int .u8 (pre c).a)) := ⟨_, rfl⟩
  obtain ⟨V2, hV⟩ := hV
  rw [← hV]
  have HVN := Lib.hid (show V2.heap[w.heap.size]? = some (fourB a b c d) by rw [hV, heap_setCell_other _ _ _ _ (by simp; omega), heap_setCell_other _ _ _ _ (by simp; omega), heap_setCell_other _ _ _ _ (by simp; omega), heap_setCell_other _ _ _ _ (by simp; omega)]; exact HUN.out)
  have HVP := Lib.hid (show V2.heap[w1.heap.size]? = some (fourB (pre a) (pre b) (pre c) zeroC) by rw [hV]; exact (fourB_set (pre c) HUP.out).2.2.1)
  have HVE := Lib.hid (show Below w.heap.size w V2 by rw [hV]; exact (((HUE.out.setCell (by simp; omega) _).setCell (by simp; omega) _).setCell (by simp; omega) _).setCell (by simp; omega) _)
  clear hV q8 r8 q9 r9 q10 r10 q11 r11 HUN HUP HUE HN2 HP2 HE2
  have g0 : ∀ x : Grow V2, x.w.cell? ⟨w1.heap.size, 8, none⟩ = some (.int .u8 ((pre c).r)) := fun x => x.cell ((fourB_at HVP.out).2.2.2.2.2.2.2.2.1)
  have g1 : ∀ x : Grow V2, x.w.cell? ⟨w1.heap.size, 9, none⟩ = some (.int .u8 ((pre c).g)) := fun x => x.cell ((fourB_at HVP.out).2.2.2.2.2.2.2.2.2.1)
  have g2 : ∀ x : Grow V2, x.w.cell? ⟨w1.heap.size, 10, none⟩ = some (.int .u8 ((pre c).b)) := fun x => x.cell ((fourB_at HVP.out).2.2.2.2.2.2.2.2.2.2.1)
  have g3 : ∀ x : Grow V2, x.w.cell? ⟨w1.heap.size, 11, none⟩ = some (.int .u8 (c.a)) := fun x => x.cell ((fourB_at HVP.out).2.2.2.2.2.2.2.2.2.2.2.1)
  have g4 : ∀ x : Grow V2, x.w.cell? ⟨w.heap.size, 11, none⟩ = some (.int .u8 c.a) := fun x => x.cell ((fourB_at HVN.out).2.2.2.2.2.2.2.2.2.2.2.1)
  have ne := Grow.ne V2
  have S1 : ∀ y : Grow V2, Calls Try.prog 11 #[.agg #[.int .u8 (pre c).r, .int .u8 (pre c).g, .int .u8 (pre c).b, .int .u8 c.a]] y.w fun e w' => e = .returned (.bool true) ∧ Below y.w.heap.size y.w w' := fun y => right_yes (pre c) y.w (pre_right hc)
  have HS1 := Lib.hid S1
  clear S1
  refine wp_region_grow (by kernel_rfl) (by kernel_rfl) ?_
  repeat (go_big_quiet_step ((go_at_call 11; with_reducible exact Grow.calls (HS1.out _))))
  refine wpQuiet_nil ?_
  rintro _ ⟨x, rfl⟩
  have zN' : w.heap.size < V2.heap.size := World.block_lt_of_cell? _ _ (fourB_at HVN.out).1
  have zP' : w1.heap.size < V2.heap.size := World.block_lt_of_cell? _ _ (fourB_at HVP.out).1
  have HN3 := Lib.hid ((x.below.block _ zN').trans HVN.out)
  have HP3 := Lib.hid ((x.below.block _ zP').trans HVP.out)
  have HE3 := Lib.hid (bstep HVE.out HVE.out.size x.below)
  clear g0 g1 g2 g3 g4 ne HS1 HVN HVP HVE zN zP zN' zP'
  generalize x.w = W3 at *
  clear x V2 u2 W2
  go_wp2_with fail
  rw [rounds_succ]
  obtain ⟨-, -, -, -, -, -, -, -, -, -, -, -, e12, e13, e14, e15⟩ := fourB_at HN3.out
  go_wp2_with fail
  refine (pre_col d _ hd).mono ?_
  rintro e u3 ⟨rfl, hu⟩
  have zN : w.heap.size < W3.heap.size := World.block_lt_of_cell? _ _ (fourB_at HN3.out).1
  have zP : w1.heap.size < W3.heap.size := World.block_lt_of_cell? _ _ (fourB_at HP3.out).1
  have HUN := Lib.hid ((hu.block _ zN).trans HN3.out)
  have HUP := Lib.hid ((hu.block _ zP).trans HP3.out)
  have HUE := Lib.hid (bstep HE3.out HE3.out.size hu)
  clear hu e12 e13 e14 e15
  obtain ⟨-, -, -, -, -, -, -, -, -, -, -, -, q12, q13, q14, q15⟩ := fourB_at HUP.out
  have r12 := fourB_free HUP.out 12
  have r13 := fourB_free HUP.out 13
  have r14 := fourB_free HUP.out 14
  have r15 := fourB_free HUP.out 15
  go_wp2_with fail
  have hV : ∃ V, V = ((((u3.setCell ⟨w1.heap.size, 12, none⟩ (.int .u8 (pre d).r)).setCell ⟨w1.heap.size, 13, none⟩ (.int .u8 (pre d).g)).setCell ⟨w1.heap.size, 14, none⟩ (.int .u8 (pre d).b)).setCell ⟨w1.heap.size, 15, none⟩ (.int .u8 (pre d).a)) := ⟨_, rfl⟩
  obtain ⟨V3, hV⟩ := hV
  rw [← hV]
  have HVN := Lib.hid (show V3.heap[w.heap.size]? = some (fourB a b c d) by rw [hV, heap_setCell_other _ _ _ _ (by simp; omega), heap_setCell_other _ _ _ _ (by simp; omega), heap_setCell_other _ _ _ _ (by simp; omega), heap_setCell_other _ _ _ _ (by simp; omega)]; exact HUN.out)
  have HVP := Lib.hid (show V3.heap[w1.heap.size]? = some (fourB (pre a) (pre b) (pre c) (pre d)) by rw [hV]; exact (fourB_set (pre d) HUP.out).2.2.2)
  have HVE := Lib.hid (show Below w.heap.size w V3 by rw [hV]; exact (((HUE.out.setCell (by simp; omega) _).setCell (by simp; omega) _).setCell (by simp; omega) _).setCell (by simp; omega) _)
  clear hV q12 r12 q13 r13 q14 r14 q15 r15 HUN HUP HUE HN3 HP3 HE3
  have g0 : ∀ x : Grow V3, x.w.cell? ⟨w1.heap.size, 12, none⟩ = some (.int .u8 ((pre d).r)) := fun x => x.cell ((fourB_at HVP.out).2.2.2.2.2.2.2.2.2.2.2.2.1)
  have g1 : ∀ x : Grow V3, x.w.cell? ⟨w1.heap.size, 13, none⟩ = some (.int .u8 ((pre d).g)) := fun x => x.cell ((fourB_at HVP.out).2.2.2.2.2.2.2.2.2.2.2.2.2.1)
  have g2 : ∀ x : Grow V3, x.w.cell? ⟨w1.heap.size, 14, none⟩ = some (.int .u8 ((pre d).b)) := fun x => x.cell ((fourB_at HVP.out).2.2.2.2.2.2.2.2.2.2.2.2.2.2.1)
  have g3 : ∀ x : Grow V3, x.w.cell? ⟨w1.heap.size, 15, none⟩ = some (.int .u8 (d.a)) := fun x => x.cell ((fourB_at HVP.out).2.2.2.2.2.2.2.2.2.2.2.2.2.2.2)
  have g4 : ∀ x : Grow V3, x.w.cell? ⟨w.heap.size, 15, none⟩ = some (.int .u8 d.a) := fun x => x.cell ((fourB_at HVN.out).2.2.2.2.2.2.2.2.2.2.2.2.2.2.2)
  have ne := Grow.ne V3
  have S1 : ∀ y : Grow V3, Calls Try.prog 11 #[.agg #[.int .u8 (pre d).r, .int .u8 (pre d).g, .int .u8 (pre d).b, .int .u8 d.a]] y.w fun e w' => e = .returned (.bool true) ∧ Below y.w.heap.size y.w w' := fun y => right_yes (pre d) y.w (pre_right hd)
  have HS1 := Lib.hid S1
  clear S1
  refine wp_region_grow (by kernel_rfl) (by kernel_rfl) ?_
  repeat (go_big_quiet_step ((go_at_call 11; with_reducible exact Grow.calls (HS1.out _))))
  refine wpQuiet_nil ?_
  rintro _ ⟨x, rfl⟩
  have zN' : w.heap.size < V3.heap.size := World.block_lt_of_cell? _ _ (fourB_at HVN.out).1
  have zP' : w1.heap.size < V3.heap.size := World.block_lt_of_cell? _ _ (fourB_at HVP.out).1
  have HN4 := Lib.hid ((x.below.block _ zN').trans HVN.out)
  have HP4 := Lib.hid ((x.below.block _ zP').trans HVP.out)
  have HE4 := Lib.hid (bstep HVE.out HVE.out.size x.below)
  clear g0 g1 g2 g3 g4 ne HS1 HVN HVP HVE zN zP zN' zP'
  generalize x.w = W4 at *
  clear x V3 u3 W3
  go_wp2_with fail
  have okA := pre_ok ha
  have okB := pre_ok hb
  have okC := pre_ok hc
  have okD := pre_ok hd
  have rA := pre_right ha
  have rB := pre_right hb
  have rC := pre_right hc
  have rD := pre_right hd
  generalize pre a = A at *
  generalize pre b = B at *
  generalize pre c = C at *
  generalize pre d = D at *
  have zP4 : w1.heap.size < W4.heap.size := World.block_lt_of_cell? _ _ (fourB_at HP4.out).1
  obtain ⟨e0, e1, e2, e3, e4, e5, e6, e7, e8, e9, e10, e11, e12, e13, e14, e15⟩ := fourB_at HP4.out
  rw [rounds_succ]
  go_wp2_with fail
  refine (over_col A B _ okA okB).mono ?_
  rintro e w5 ⟨rfl, hb5⟩
  have p5 : w5.heap[w1.heap.size]? = some (fourB A B C D) := (hb5.block _ zP4).trans HP4.out
  have zP5 : w1.heap.size < w5.heap.size := Nat.lt_of_lt_of_le zP4 hb5.size
  have HE5 := Lib.hid (bstep HE4.out HE4.out.size hb5)
  clear e0 e1 e2 e3 e4 e5 e6 e7 e8 e9 e10 e11 e12 e13 e14 e15 hb5 zP4
  obtain ⟨e0, e1, e2, e3, e4, e5, e6, e7, e8, e9, e10, e11, e12, e13, e14, e15⟩ := fourB_at p5
  have HP5 := Lib.hid p5
  clear p5
  go_wp2_with fail
  refine (mean_col A B C D _ okA okB okC okD).mono ?_
  rintro e w6 ⟨rfl, hb6⟩
  have p6 : w6.heap[w1.heap.size]? = some (fourB A B C D) := (hb6.block _ (by simp; omega)).trans ((Below.heap_alloc _ _ _ zP5).trans HP5.out)
  have o6 : w6.heap[w5.heap.size]? = some (colB (over A B)) := (hb6.block _ (by simp)).trans (heap_alloc_new _ _)
  have zO6 : w5.heap.size < w6.heap.size := World.block_lt_of_cell? _ _ (colB_cell o6).1
  have zP6 : w1.heap.size < w6.heap.size := by omega
  have HE6 := Lib.hid (bstep (HE5.out.alloc HE5.out.size _) (by simp; have := HE5.out.size; omega) hb6)
  clear e0 e1 e2 e3 e4 e5 e6 e7 e8 e9 e10 e11 e12 e13 e14 e15 hb6
  obtain ⟨-, -, -, -, -, -, -, -, -, -, -, -, e12, e13, e14, e15⟩ := fourB_at p6
  have HP6 := Lib.hid p6
  have HO6 := Lib.hid o6
  clear p6 o6
  go_wp2_with fail
  have hW : ∃ W, W = w6.alloc (colB (mean A B C D)) := ⟨_, rfl⟩
  obtain ⟨W7, hW⟩ := hW
  change Code.wp _ _ _ _ (w6.alloc (colB (mean A B C D)))
  rw [← hW]
  have HP7 := Lib.hid (show W7.heap[w1.heap.size]? = some (fourB A B C D) by rw [hW]; exact (Below.heap_alloc _ _ _ zP6).trans HP6.out)
  have HO7 := Lib.hid (show W7.heap[w5.heap.size]? = some (colB (over A B)) by rw [hW]; exact (Below.heap_alloc _ _ _ zO6).trans HO6.out)
  have HM7 := Lib.hid (show W7.heap[w6.heap.size]? = some (colB (mean A B C D)) by rw [hW]; exact heap_alloc_new _ _)
  have HE7 := Lib.hid (show Below w.heap.size w W7 by rw [hW]; exact HE6.out.alloc HE6.out.size _)
  clear hW e12 e13 e14 e15 HP6 HO6 HE6 HP5 HE5
  obtain ⟨-, -, -, -, -, -, -, -, -, -, -, -, e12, e13, e14, e15⟩ := fourB_at HP7.out
  have zP7 : w1.heap.size < W7.heap.size := World.block_lt_of_cell? _ _ e12
  have zO7 : w5.heap.size < W7.heap.size := World.block_lt_of_cell? _ _ (colB_cell HO7.out).1
  have zM7 : w6.heap.size < W7.heap.size := World.block_lt_of_cell? _ _ (colB_cell HM7.out).1
  have rO := over_right okA rA rB
  have rM := mean_right rA rB rC rD
  have ok1 := over_ok okA okD
  have ok2 := over_ok okB ok1
  have rF := over_right okC rC (over_right okB rB (over_right okA rA rD))
  have t1 : A.a ≤ (over A B).a := over1_ge okA.2.2.2.2 okB.2.2.2.1 okA.2.2.2.2
  have t2 : A.r ≤ (over A B).r := over1_ge okA.1.2 okB.1.1 okA.2.2.2.2
  have t3 : B.a ≤ (over A B).a := over1_ge' okB.2.2.2.2 okA.2.2.2.1
  go_region_with ((go_at_call 17; ((with_reducible refine (fold_three A B C D _ _ okA okB okC okD ?_).mono ?_); (first | exact HP7.out | exact (Below.heap_alloc _ _ _ zP7).trans HP7.out); rintro e v ⟨rfl, hv⟩; obtain ⟨vc, vf⟩ := bcell hv; have HV := Lib.hid hv; clear hv)))
  · obtain ⟨Wf, hWf⟩ : ∃ W, W = (v.alloc (colB (over C (over B (over A D))))) := ⟨_, rfl⟩
    change Exit.then _ _ _ _ ((v.alloc (colB (over C (over B (over A D))))))
    rw [← hWf]
    have HPf := Lib.hid (show Wf.heap[w1.heap.size]? = some (fourB A B C D) by rw [hWf]; exact (Below.heap_alloc _ _ _ (Nat.lt_of_lt_of_le zP7 HV.out.size)).trans ((HV.out.block _ zP7).trans HP7.out))
    have HOf := Lib.hid (show Wf.heap[w5.heap.size]? = some (colB (over A B)) by rw [hWf]; exact (Below.heap_alloc _ _ _ (Nat.lt_of_lt_of_le zO7 HV.out.size)).trans ((HV.out.block _ zO7).trans HO7.out))
    have HMf := Lib.hid (show Wf.heap[w6.heap.size]? = some (colB (mean A B C D)) by rw [hWf]; exact (Below.heap_alloc _ _ _ (Nat.lt_of_lt_of_le zM7 HV.out.size)).trans ((HV.out.block _ zM7).trans HM7.out))
    have HFf := Lib.hid (show Wf.heap[v.heap.size]? = some (colB (over C (over B (over A D)))) by rw [hWf]; exact heap_alloc_new _ _)
    have HEf := Lib.hid (show Below w.heap.size w Wf by rw [hWf]; exact (bstep HE7.out.drew HE7.out.size HV.out).alloc (Nat.le_trans HE7.out.size HV.out.size) _)
    clear hWf vc vf
    go_wp2_with fail
    have ne := Grow.ne Wf
    have gp0 : ∀ x : Grow Wf, x.w.cell? ⟨w1.heap.size, 0, none⟩ = some (.int .u8 A.r) := fun x => x.cell ((fourB_at HPf.out).1)
    have gp1 : ∀ x : Grow Wf, x.w.cell? ⟨w1.heap.size, 1, none⟩ = some (.int .u8 A.g) := fun x => x.cell ((fourB_at HPf.out).2.1)
    have gp2 : ∀ x : Grow Wf, x.w.cell? ⟨w1.heap.size, 2, none⟩ = some (.int .u8 A.b) := fun x => x.cell ((fourB_at HPf.out).2.2.1)
    have gp3 : ∀ x : Grow Wf, x.w.cell? ⟨w1.heap.size, 3, none⟩ = some (.int .u8 A.a) := fun x => x.cell ((fourB_at HPf.out).2.2.2.1)
    have gp4 : ∀ x : Grow Wf, x.w.cell? ⟨w1.heap.size, 4, none⟩ = some (.int .u8 B.r) := fun x => x.cell ((fourB_at HPf.out).2.2.2.2.1)
    have gp5 : ∀ x : Grow Wf, x.w.cell? ⟨w1.heap.size, 5, none⟩ = some (.int .u8 B.g) := fun x => x.cell ((fourB_at HPf.out).2.2.2.2.2.1)
    have gp6 : ∀ x : Grow Wf, x.w.cell? ⟨w1.heap.size, 6, none⟩ = some (.int .u8 B.b) := fun x => x.cell ((fourB_at HPf.out).2.2.2.2.2.2.1)
    have gp7 : ∀ x : Grow Wf, x.w.cell? ⟨w1.heap.size, 7, none⟩ = some (.int .u8 B.a) := fun x => x.cell ((fourB_at HPf.out).2.2.2.2.2.2.2.1)
    have gp8 : ∀ x : Grow Wf, x.w.cell? ⟨w1.heap.size, 8, none⟩ = some (.int .u8 C.r) := fun x => x.cell ((fourB_at HPf.out).2.2.2.2.2.2.2.2.1)
    have gp9 : ∀ x : Grow Wf, x.w.cell? ⟨w1.heap.size, 9, none⟩ = some (.int .u8 C.g) := fun x => x.cell ((fourB_at HPf.out).2.2.2.2.2.2.2.2.2.1)
    have gp10 : ∀ x : Grow Wf, x.w.cell? ⟨w1.heap.size, 10, none⟩ = some (.int .u8 C.b) := fun x => x.cell ((fourB_at HPf.out).2.2.2.2.2.2.2.2.2.2.1)
    have gp11 : ∀ x : Grow Wf, x.w.cell? ⟨w1.heap.size, 11, none⟩ = some (.int .u8 C.a) := fun x => x.cell ((fourB_at HPf.out).2.2.2.2.2.2.2.2.2.2.2.1)
    have gp12 : ∀ x : Grow Wf, x.w.cell? ⟨w1.heap.size, 12, none⟩ = some (.int .u8 D.r) := fun x => x.cell ((fourB_at HPf.out).2.2.2.2.2.2.2.2.2.2.2.2.1)
    have gp13 : ∀ x : Grow Wf, x.w.cell? ⟨w1.heap.size, 13, none⟩ = some (.int .u8 D.g) := fun x => x.cell ((fourB_at HPf.out).2.2.2.2.2.2.2.2.2.2.2.2.2.1)
    have gp14 : ∀ x : Grow Wf, x.w.cell? ⟨w1.heap.size, 14, none⟩ = some (.int .u8 D.b) := fun x => x.cell ((fourB_at HPf.out).2.2.2.2.2.2.2.2.2.2.2.2.2.2.1)
    have gp15 : ∀ x : Grow Wf, x.w.cell? ⟨w1.heap.size, 15, none⟩ = some (.int .u8 D.a) := fun x => x.cell ((fourB_at HPf.out).2.2.2.2.2.2.2.2.2.2.2.2.2.2.2)
    have go0 : ∀ x : Grow Wf, x.w.cell? ⟨w5.heap.size, 0, none⟩ = some (.int .u8 (over A B).r) := fun x => x.cell ((colB_cell HOf.out).1)
    have go1 : ∀ x : Grow Wf, x.w.cell? ⟨w5.heap.size, 1, none⟩ = some (.int .u8 (over A B).g) := fun x => x.cell ((colB_cell HOf.out).2.1)
    have go2 : ∀ x : Grow Wf, x.w.cell? ⟨w5.heap.size, 2, none⟩ = some (.int .u8 (over A B).b) := fun x => x.cell ((colB_cell HOf.out).2.2.1)
    have go3 : ∀ x : Grow Wf, x.w.cell? ⟨w5.heap.size, 3, none⟩ = some (.int .u8 (over A B).a) := fun x => x.cell ((colB_cell HOf.out).2.2.2)
    have gm0 : ∀ x : Grow Wf, x.w.cell? ⟨w6.heap.size, 0, none⟩ = some (.int .u8 (mean A B C D).r) := fun x => x.cell ((colB_cell HMf.out).1)
    have gm1 : ∀ x : Grow Wf, x.w.cell? ⟨w6.heap.size, 1, none⟩ = some (.int .u8 (mean A B C D).g) := fun x => x.cell ((colB_cell HMf.out).2.1)
    have gm2 : ∀ x : Grow Wf, x.w.cell? ⟨w6.heap.size, 2, none⟩ = some (.int .u8 (mean A B C D).b) := fun x => x.cell ((colB_cell HMf.out).2.2.1)
    have gm3 : ∀ x : Grow Wf, x.w.cell? ⟨w6.heap.size, 3, none⟩ = some (.int .u8 (mean A B C D).a) := fun x => x.cell ((colB_cell HMf.out).2.2.2)
    have gf0 : ∀ x : Grow Wf, x.w.cell? ⟨v.heap.size, 0, none⟩ = some (.int .u8 (over C (over B (over A D))).r) := fun x => x.cell ((colB_cell HFf.out).1)
    have gf1 : ∀ x : Grow Wf, x.w.cell? ⟨v.heap.size, 1, none⟩ = some (.int .u8 (over C (over B (over A D))).g) := fun x => x.cell ((colB_cell HFf.out).2.1)
    have gf2 : ∀ x : Grow Wf, x.w.cell? ⟨v.heap.size, 2, none⟩ = some (.int .u8 (over C (over B (over A D))).b) := fun x => x.cell ((colB_cell HFf.out).2.2.1)
    have gf3 : ∀ x : Grow Wf, x.w.cell? ⟨v.heap.size, 3, none⟩ = some (.int .u8 (over C (over B (over A D))).a) := fun x => x.cell ((colB_cell HFf.out).2.2.2)
    have S1 := Lib.hid (show ∀ y : Grow Wf, Calls Try.prog 11 #[.agg #[.int .u8 (over A B).r, .int .u8 (over A B).g, .int .u8 (over A B).b, .int .u8 (over A B).a]] y.w fun e w' => e = .returned (.bool true) ∧ Below y.w.heap.size y.w w' from fun y => right_yes _ y.w rO)
    have S2 := Lib.hid (show ∀ y : Grow Wf, Calls Try.prog 11 #[.agg #[.int .u8 (mean A B C D).r, .int .u8 (mean A B C D).g, .int .u8 (mean A B C D).b, .int .u8 (mean A B C D).a]] y.w fun e w' => e = .returned (.bool true) ∧ Below y.w.heap.size y.w w' from fun y => right_yes _ y.w rM)
    have S3 := Lib.hid (show ∀ y : Grow Wf, Calls Try.prog 11 #[.agg #[.int .u8 (over C (over B (over A D))).r, .int .u8 (over C (over B (over A D))).g, .int .u8 (over C (over B (over A D))).b, .int .u8 (over C (over B (over A D))).a]] y.w fun e w' => e = .returned (.bool true) ∧ Below y.w.heap.size y.w w' from fun y => right_yes _ y.w rF)
    have S4 := Lib.hid (show ∀ y : Grow Wf, Calls Try.prog 15 #[.agg #[.int .u8 A.r, .int .u8 A.g, .int .u8 A.b, .int .u8 A.a], .agg #[.int .u8 D.r, .int .u8 D.g, .int .u8 D.b, .int .u8 D.a]] y.w fun e w' => e = .returned (.agg #[.int .u8 (over A D).r, .int .u8 (over A D).g, .int .u8 (over A D).b, .int .u8 (over A D).a]) ∧ Below y.w.heap.size y.w w' from fun y => over_col _ _ y.w okA okD)
    have S5 := Lib.hid (show ∀ y : Grow Wf, Calls Try.prog 15 #[.agg #[.int .u8 B.r, .int .u8 B.g, .int .u8 B.b, .int .u8 B.a], .agg #[.int .u8 (over A D).r, .int .u8 (over A D).g, .int .u8 (over A D).b, .int .u8 (over A D).a]] y.w fun e w' => e = .returned (.agg #[.int .u8 (over B (over A D)).r, .int .u8 (over B (over A D)).g, .int .u8 (over B (over A D)).b, .int .u8 (over B (over A D)).a]) ∧ Below y.w.heap.size y.w w' from fun y => over_col _ _ y.w okB ok1)
    have S6 := Lib.hid (show ∀ y : Grow Wf, Calls Try.prog 15 #[.agg #[.int .u8 C.r, .int .u8 C.g, .int .u8 C.b, .int .u8 C.a], .agg #[.int .u8 (over B (over A D)).r, .int .u8 (over B (over A D)).g, .int .u8 (over B (over A D)).b, .int .u8 (over B (over A D)).a]] y.w fun e w' => e = .returned (.agg #[.int .u8 (over C (over B (over A D))).r, .int .u8 (over C (over B (over A D))).g, .int .u8 (over C (over B (over A D))).b, .int .u8 (over C (over B (over A D))).a]) ∧ Below y.w.heap.size y.w w' from fun y => over_col _ _ y.w okC ok2)
    refine wp_region_grow (by kernel_rfl) (by kernel_rfl) ?_
    repeat (go_big_quiet_step ((first
      | (go_at_call 11; first | with_reducible exact Grow.calls (S1.out _) | with_reducible exact Grow.calls (S2.out _) | with_reducible exact Grow.calls (S3.out _))
      | (go_at_call 15; first | with_reducible exact Grow.calls (S4.out _) | with_reducible exact Grow.calls (S5.out _) | with_reducible exact Grow.calls (S6.out _)))))
    refine wpQuiet_nil ?_
    rintro _ ⟨x, rfl⟩
    go_wp2
    go_ret
    exact ⟨rfl, bstep HEf.out HEf.out.size x.below⟩
  · obtain ⟨Wf, hWf⟩ : ∃ W, W = ((((v.setCell ⟨W7.heap.size, 0, none⟩ (.int .u8 (over C (over B (over A D))).r)).setCell ⟨W7.heap.size, 1, none⟩ (.int .u8 (over C (over B (over A D))).g)).setCell ⟨W7.heap.size, 2, none⟩ (.int .u8 (over C (over B (over A D))).b)).setCell ⟨W7.heap.size, 3, none⟩ (.int .u8 (over C (over B (over A D))).a)) := ⟨_, rfl⟩
    change Exit.then _ _ _ _ (((((v.setCell ⟨W7.heap.size, 0, none⟩ (.int .u8 (over C (over B (over A D))).r)).setCell ⟨W7.heap.size, 1, none⟩ (.int .u8 (over C (over B (over A D))).g)).setCell ⟨W7.heap.size, 2, none⟩ (.int .u8 (over C (over B (over A D))).b)).setCell ⟨W7.heap.size, 3, none⟩ (.int .u8 (over C (over B (over A D))).a)))
    rw [← hWf]
    have HPf := Lib.hid (show Wf.heap[w1.heap.size]? = some (fourB A B C D) by rw [hWf]; exact (heap_setCell_other _ _ _ _ (by simp; omega)).trans ((heap_setCell_other _ _ _ _ (by simp; omega)).trans ((heap_setCell_other _ _ _ _ (by simp; omega)).trans ((heap_setCell_other _ _ _ _ (by simp; omega)).trans ((HV.out.block _ (by simp; omega)).trans ((Below.heap_alloc _ _ _ zP7).trans HP7.out))))))
    have HOf := Lib.hid (show Wf.heap[w5.heap.size]? = some (colB (over A B)) by rw [hWf]; exact (heap_setCell_other _ _ _ _ (by simp; omega)).trans ((heap_setCell_other _ _ _ _ (by simp; omega)).trans ((heap_setCell_other _ _ _ _ (by simp; omega)).trans ((heap_setCell_other _ _ _ _ (by simp; omega)).trans ((HV.out.block _ (by simp; omega)).trans ((Below.heap_alloc _ _ _ zO7).trans HO7.out))))))
    have HMf := Lib.hid (show Wf.heap[w6.heap.size]? = some (colB (mean A B C D)) by rw [hWf]; exact (heap_setCell_other _ _ _ _ (by simp; omega)).trans ((heap_setCell_other _ _ _ _ (by simp; omega)).trans ((heap_setCell_other _ _ _ _ (by simp; omega)).trans ((heap_setCell_other _ _ _ _ (by simp; omega)).trans ((HV.out.block _ (by simp; omega)).trans ((Below.heap_alloc _ _ _ zM7).trans HM7.out))))))
    have HFf := Lib.hid (show Wf.heap[W7.heap.size]? = some (colB (over C (over B (over A D)))) by rw [hWf]; exact colB_set (c := zeroC) (over C (over B (over A D))) ((HV.out.block _ (by simp)).trans (heap_alloc_new W7 _)))
    have HEf := Lib.hid (show Below w.heap.size w Wf by rw [hWf]; exact (((((bstep ((HE7.out.alloc HE7.out.size _).drew) (by simp; have := HE7.out.size; omega) HV.out).setCell (by simp; exact HE7.out.size) _).setCell (by simp; exact HE7.out.size) _).setCell (by simp; exact HE7.out.size) _).setCell (by simp; exact HE7.out.size) _))
    clear hWf vc vf
    go_wp2_with fail
    have ne := Grow.ne Wf
    have gp0 : ∀ x : Grow Wf, x.w.cell? ⟨w1.heap.size, 0, none⟩ = some (.int .u8 A.r) := fun x => x.cell ((fourB_at HPf.out).1)
    have gp1 : ∀ x : Grow Wf, x.w.cell? ⟨w1.heap.size, 1, none⟩ = some (.int .u8 A.g) := fun x => x.cell ((fourB_at HPf.out).2.1)
    have gp2 : ∀ x : Grow Wf, x.w.cell? ⟨w1.heap.size, 2, none⟩ = some (.int .u8 A.b) := fun x => x.cell ((fourB_at HPf.out).2.2.1)
    have gp3 : ∀ x : Grow Wf, x.w.cell? ⟨w1.heap.size, 3, none⟩ = some (.int .u8 A.a) := fun x => x.cell ((fourB_at HPf.out).2.2.2.1)
    have gp4 : ∀ x : Grow Wf, x.w.cell? ⟨w1.heap.size, 4, none⟩ = some (.int .u8 B.r) := fun x => x.cell ((fourB_at HPf.out).2.2.2.2.1)
    have gp5 : ∀ x : Grow Wf, x.w.cell? ⟨w1.heap.size, 5, none⟩ = some (.int .u8 B.g) := fun x => x.cell ((fourB_at HPf.out).2.2.2.2.2.1)
    have gp6 : ∀ x : Grow Wf, x.w.cell? ⟨w1.heap.size, 6, none⟩ = some (.int .u8 B.b) := fun x => x.cell ((fourB_at HPf.out).2.2.2.2.2.2.1)
    have gp7 : ∀ x : Grow Wf, x.w.cell? ⟨w1.heap.size, 7, none⟩ = some (.int .u8 B.a) := fun x => x.cell ((fourB_at HPf.out).2.2.2.2.2.2.2.1)
    have gp8 : ∀ x : Grow Wf, x.w.cell? ⟨w1.heap.size, 8, none⟩ = some (.int .u8 C.r) := fun x => x.cell ((fourB_at HPf.out).2.2.2.2.2.2.2.2.1)
    have gp9 : ∀ x : Grow Wf, x.w.cell? ⟨w1.heap.size, 9, none⟩ = some (.int .u8 C.g) := fun x => x.cell ((fourB_at HPf.out).2.2.2.2.2.2.2.2.2.1)
    have gp10 : ∀ x : Grow Wf, x.w.cell? ⟨w1.heap.size, 10, none⟩ = some (.int .u8 C.b) := fun x => x.cell ((fourB_at HPf.out).2.2.2.2.2.2.2.2.2.2.1)
    have gp11 : ∀ x : Grow Wf, x.w.cell? ⟨w1.heap.size, 11, none⟩ = some (.int .u8 C.a) := fun x => x.cell ((fourB_at HPf.out).2.2.2.2.2.2.2.2.2.2.2.1)
    have gp12 : ∀ x : Grow Wf, x.w.cell? ⟨w1.heap.size, 12, none⟩ = some (.int .u8 D.r) := fun x => x.cell ((fourB_at HPf.out).2.2.2.2.2.2.2.2.2.2.2.2.1)
    have gp13 : ∀ x : Grow Wf, x.w.cell? ⟨w1.heap.size, 13, none⟩ = some (.int .u8 D.g) := fun x => x.cell ((fourB_at HPf.out).2.2.2.2.2.2.2.2.2.2.2.2.2.1)
    have gp14 : ∀ x : Grow Wf, x.w.cell? ⟨w1.heap.size, 14, none⟩ = some (.int .u8 D.b) := fun x => x.cell ((fourB_at HPf.out).2.2.2.2.2.2.2.2.2.2.2.2.2.2.1)
    have gp15 : ∀ x : Grow Wf, x.w.cell? ⟨w1.heap.size, 15, none⟩ = some (.int .u8 D.a) := fun x => x.cell ((fourB_at HPf.out).2.2.2.2.2.2.2.2.2.2.2.2.2.2.2)
    have go0 : ∀ x : Grow Wf, x.w.cell? ⟨w5.heap.size, 0, none⟩ = some (.int .u8 (over A B).r) := fun x => x.cell ((colB_cell HOf.out).1)
    have go1 : ∀ x : Grow Wf, x.w.cell? ⟨w5.heap.size, 1, none⟩ = some (.int .u8 (over A B).g) := fun x => x.cell ((colB_cell HOf.out).2.1)
    have go2 : ∀ x : Grow Wf, x.w.cell? ⟨w5.heap.size, 2, none⟩ = some (.int .u8 (over A B).b) := fun x => x.cell ((colB_cell HOf.out).2.2.1)
    have go3 : ∀ x : Grow Wf, x.w.cell? ⟨w5.heap.size, 3, none⟩ = some (.int .u8 (over A B).a) := fun x => x.cell ((colB_cell HOf.out).2.2.2)
    have gm0 : ∀ x : Grow Wf, x.w.cell? ⟨w6.heap.size, 0, none⟩ = some (.int .u8 (mean A B C D).r) := fun x => x.cell ((colB_cell HMf.out).1)
    have gm1 : ∀ x : Grow Wf, x.w.cell? ⟨w6.heap.size, 1, none⟩ = some (.int .u8 (mean A B C D).g) := fun x => x.cell ((colB_cell HMf.out).2.1)
    have gm2 : ∀ x : Grow Wf, x.w.cell? ⟨w6.heap.size, 2, none⟩ = some (.int .u8 (mean A B C D).b) := fun x => x.cell ((colB_cell HMf.out).2.2.1)
    have gm3 : ∀ x : Grow Wf, x.w.cell? ⟨w6.heap.size, 3, none⟩ = some (.int .u8 (mean A B C D).a) := fun x => x.cell ((colB_cell HMf.out).2.2.2)
    have gf0 : ∀ x : Grow Wf, x.w.cell? ⟨W7.heap.size, 0, none⟩ = some (.int .u8 (over C (over B (over A D))).r) := fun x => x.cell ((colB_cell HFf.out).1)
    have gf1 : ∀ x : Grow Wf, x.w.cell? ⟨W7.heap.size, 1, none⟩ = some (.int .u8 (over C (over B (over A D))).g) := fun x => x.cell ((colB_cell HFf.out).2.1)
    have gf2 : ∀ x : Grow Wf, x.w.cell? ⟨W7.heap.size, 2, none⟩ = some (.int .u8 (over C (over B (over A D))).b) := fun x => x.cell ((colB_cell HFf.out).2.2.1)
    have gf3 : ∀ x : Grow Wf, x.w.cell? ⟨W7.heap.size, 3, none⟩ = some (.int .u8 (over C (over B (over A D))).a) := fun x => x.cell ((colB_cell HFf.out).2.2.2)
    have S1 := Lib.hid (show ∀ y : Grow Wf, Calls Try.prog 11 #[.agg #[.int .u8 (over A B).r, .int .u8 (over A B).g, .int .u8 (over A B).b, .int .u8 (over A B).a]] y.w fun e w' => e = .returned (.bool true) ∧ Below y.w.heap.size y.w w' from fun y => right_yes _ y.w rO)
    have S2 := Lib.hid (show ∀ y : Grow Wf, Calls Try.prog 11 #[.agg #[.int .u8 (mean A B C D).r, .int .u8 (mean A B C D).g, .int .u8 (mean A B C D).b, .int .u8 (mean A B C D).a]] y.w fun e w' => e = .returned (.bool true) ∧ Below y.w.heap.size y.w w' from fun y => right_yes _ y.w rM)
    have S3 := Lib.hid (show ∀ y : Grow Wf, Calls Try.prog 11 #[.agg #[.int .u8 (over C (over B (over A D))).r, .int .u8 (over C (over B (over A D))).g, .int .u8 (over C (over B (over A D))).b, .int .u8 (over C (over B (over A D))).a]] y.w fun e w' => e = .returned (.bool true) ∧ Below y.w.heap.size y.w w' from fun y => right_yes _ y.w rF)
    have S4 := Lib.hid (show ∀ y : Grow Wf, Calls Try.prog 15 #[.agg #[.int .u8 A.r, .int .u8 A.g, .int .u8 A.b, .int .u8 A.a], .agg #[.int .u8 D.r, .int .u8 D.g, .int .u8 D.b, .int .u8 D.a]] y.w fun e w' => e = .returned (.agg #[.int .u8 (over A D).r, .int .u8 (over A D).g, .int .u8 (over A D).b, .int .u8 (over A D).a]) ∧ Below y.w.heap.size y.w w' from fun y => over_col _ _ y.w okA okD)
    have S5 := Lib.hid (show ∀ y : Grow Wf, Calls Try.prog 15 #[.agg #[.int .u8 B.r, .int .u8 B.g, .int .u8 B.b, .int .u8 B.a], .agg #[.int .u8 (over A D).r, .int .u8 (over A D).g, .int .u8 (over A D).b, .int .u8 (over A D).a]] y.w fun e w' => e = .returned (.agg #[.int .u8 (over B (over A D)).r, .int .u8 (over B (over A D)).g, .int .u8 (over B (over A D)).b, .int .u8 (over B (over A D)).a]) ∧ Below y.w.heap.size y.w w' from fun y => over_col _ _ y.w okB ok1)
    have S6 := Lib.hid (show ∀ y : Grow Wf, Calls Try.prog 15 #[.agg #[.int .u8 C.r, .int .u8 C.g, .int .u8 C.b, .int .u8 C.a], .agg #[.int .u8 (over B (over A D)).r, .int .u8 (over B (over A D)).g, .int .u8 (over B (over A D)).b, .int .u8 (over B (over A D)).a]] y.w fun e w' => e = .returned (.agg #[.int .u8 (over C (over B (over A D))).r, .int .u8 (over C (over B (over A D))).g, .int .u8 (over C (over B (over A D))).b, .int .u8 (over C (over B (over A D))).a]) ∧ Below y.w.heap.size y.w w' from fun y => over_col _ _ y.w okC ok2)
    refine wp_region_grow (by kernel_rfl) (by kernel_rfl) ?_
    repeat (go_big_quiet_step ((first
      | (go_at_call 11; first | with_reducible exact Grow.calls (S1.out _) | with_reducible exact Grow.calls (S2.out _) | with_reducible exact Grow.calls (S3.out _))
      | (go_at_call 15; first | with_reducible exact Grow.calls (S4.out _) | with_reducible exact Grow.calls (S5.out _) | with_reducible exact Grow.calls (S6.out _)))))
    refine wpQuiet_nil ?_
    rintro _ ⟨x, rfl⟩
    go_wp2
    go_ret
    exact ⟨rfl, bstep HEf.out HEf.out.size x.below⟩
  · obtain ⟨Wf, hWf⟩ : ∃ W, W = ((((v.setCell ⟨W7.heap.size, 0, none⟩ (.int .u8 (over C (over B (over A D))).r)).setCell ⟨W7.heap.size, 1, none⟩ (.int .u8 (over C (over B (over A D))).g)).setCell ⟨W7.heap.size, 2, none⟩ (.int .u8 (over C (over B (over A D))).b)).setCell ⟨W7.heap.size, 3, none⟩ (.int .u8 (over C (over B (over A D))).a)) := ⟨_, rfl⟩
    change Exit.then _ _ _ _ (((((v.setCell ⟨W7.heap.size, 0, none⟩ (.int .u8 (over C (over B (over A D))).r)).setCell ⟨W7.heap.size, 1, none⟩ (.int .u8 (over C (over B (over A D))).g)).setCell ⟨W7.heap.size, 2, none⟩ (.int .u8 (over C (over B (over A D))).b)).setCell ⟨W7.heap.size, 3, none⟩ (.int .u8 (over C (over B (over A D))).a)))
    rw [← hWf]
    have HPf := Lib.hid (show Wf.heap[w1.heap.size]? = some (fourB A B C D) by rw [hWf]; exact (heap_setCell_other _ _ _ _ (by simp; omega)).trans ((heap_setCell_other _ _ _ _ (by simp; omega)).trans ((heap_setCell_other _ _ _ _ (by simp; omega)).trans ((heap_setCell_other _ _ _ _ (by simp; omega)).trans ((HV.out.block _ (by simp; omega)).trans ((Below.heap_alloc _ _ _ zP7).trans HP7.out))))))
    have HOf := Lib.hid (show Wf.heap[w5.heap.size]? = some (colB (over A B)) by rw [hWf]; exact (heap_setCell_other _ _ _ _ (by simp; omega)).trans ((heap_setCell_other _ _ _ _ (by simp; omega)).trans ((heap_setCell_other _ _ _ _ (by simp; omega)).trans ((heap_setCell_other _ _ _ _ (by simp; omega)).trans ((HV.out.block _ (by simp; omega)).trans ((Below.heap_alloc _ _ _ zO7).trans HO7.out))))))
    have HMf := Lib.hid (show Wf.heap[w6.heap.size]? = some (colB (mean A B C D)) by rw [hWf]; exact (heap_setCell_other _ _ _ _ (by simp; omega)).trans ((heap_setCell_other _ _ _ _ (by simp; omega)).trans ((heap_setCell_other _ _ _ _ (by simp; omega)).trans ((heap_setCell_other _ _ _ _ (by simp; omega)).trans ((HV.out.block _ (by simp; omega)).trans ((Below.heap_alloc _ _ _ zM7).trans HM7.out))))))
    have HFf := Lib.hid (show Wf.heap[W7.heap.size]? = some (colB (over C (over B (over A D)))) by rw [hWf]; exact colB_set (c := zeroC) (over C (over B (over A D))) ((HV.out.block _ (by simp)).trans (heap_alloc_new W7 _)))
    have HEf := Lib.hid (show Below w.heap.size w Wf by rw [hWf]; exact (((((bstep ((HE7.out.alloc HE7.out.size _).drew) (by simp; have := HE7.out.size; omega) HV.out).setCell (by simp; exact HE7.out.size) _).setCell (by simp; exact HE7.out.size) _).setCell (by simp; exact HE7.out.size) _).setCell (by simp; exact HE7.out.size) _))
    clear hWf vc vf
    go_wp2_with fail
    have ne := Grow.ne Wf
    have gp0 : ∀ x : Grow Wf, x.w.cell? ⟨w1.heap.size, 0, none⟩ = some (.int .u8 A.r) := fun x => x.cell ((fourB_at HPf.out).1)
    have gp1 : ∀ x : Grow Wf, x.w.cell? ⟨w1.heap.size, 1, none⟩ = some (.int .u8 A.g) := fun x => x.cell ((fourB_at HPf.out).2.1)
    have gp2 : ∀ x : Grow Wf, x.w.cell? ⟨w1.heap.size, 2, none⟩ = some (.int .u8 A.b) := fun x => x.cell ((fourB_at HPf.out).2.2.1)
    have gp3 : ∀ x : Grow Wf, x.w.cell? ⟨w1.heap.size, 3, none⟩ = some (.int .u8 A.a) := fun x => x.cell ((fourB_at HPf.out).2.2.2.1)
    have gp4 : ∀ x : Grow Wf, x.w.cell? ⟨w1.heap.size, 4, none⟩ = some (.int .u8 B.r) := fun x => x.cell ((fourB_at HPf.out).2.2.2.2.1)
    have gp5 : ∀ x : Grow Wf, x.w.cell? ⟨w1.heap.size, 5, none⟩ = some (.int .u8 B.g) := fun x => x.cell ((fourB_at HPf.out).2.2.2.2.2.1)
    have gp6 : ∀ x : Grow Wf, x.w.cell? ⟨w1.heap.size, 6, none⟩ = some (.int .u8 B.b) := fun x => x.cell ((fourB_at HPf.out).2.2.2.2.2.2.1)
    have gp7 : ∀ x : Grow Wf, x.w.cell? ⟨w1.heap.size, 7, none⟩ = some (.int .u8 B.a) := fun x => x.cell ((fourB_at HPf.out).2.2.2.2.2.2.2.1)
    have gp8 : ∀ x : Grow Wf, x.w.cell? ⟨w1.heap.size, 8, none⟩ = some (.int .u8 C.r) := fun x => x.cell ((fourB_at HPf.out).2.2.2.2.2.2.2.2.1)
    have gp9 : ∀ x : Grow Wf, x.w.cell? ⟨w1.heap.size, 9, none⟩ = some (.int .u8 C.g) := fun x => x.cell ((fourB_at HPf.out).2.2.2.2.2.2.2.2.2.1)
    have gp10 : ∀ x : Grow Wf, x.w.cell? ⟨w1.heap.size, 10, none⟩ = some (.int .u8 C.b) := fun x => x.cell ((fourB_at HPf.out).2.2.2.2.2.2.2.2.2.2.1)
    have gp11 : ∀ x : Grow Wf, x.w.cell? ⟨w1.heap.size, 11, none⟩ = some (.int .u8 C.a) := fun x => x.cell ((fourB_at HPf.out).2.2.2.2.2.2.2.2.2.2.2.1)
    have gp12 : ∀ x : Grow Wf, x.w.cell? ⟨w1.heap.size, 12, none⟩ = some (.int .u8 D.r) := fun x => x.cell ((fourB_at HPf.out).2.2.2.2.2.2.2.2.2.2.2.2.1)
    have gp13 : ∀ x : Grow Wf, x.w.cell? ⟨w1.heap.size, 13, none⟩ = some (.int .u8 D.g) := fun x => x.cell ((fourB_at HPf.out).2.2.2.2.2.2.2.2.2.2.2.2.2.1)
    have gp14 : ∀ x : Grow Wf, x.w.cell? ⟨w1.heap.size, 14, none⟩ = some (.int .u8 D.b) := fun x => x.cell ((fourB_at HPf.out).2.2.2.2.2.2.2.2.2.2.2.2.2.2.1)
    have gp15 : ∀ x : Grow Wf, x.w.cell? ⟨w1.heap.size, 15, none⟩ = some (.int .u8 D.a) := fun x => x.cell ((fourB_at HPf.out).2.2.2.2.2.2.2.2.2.2.2.2.2.2.2)
    have go0 : ∀ x : Grow Wf, x.w.cell? ⟨w5.heap.size, 0, none⟩ = some (.int .u8 (over A B).r) := fun x => x.cell ((colB_cell HOf.out).1)
    have go1 : ∀ x : Grow Wf, x.w.cell? ⟨w5.heap.size, 1, none⟩ = some (.int .u8 (over A B).g) := fun x => x.cell ((colB_cell HOf.out).2.1)
    have go2 : ∀ x : Grow Wf, x.w.cell? ⟨w5.heap.size, 2, none⟩ = some (.int .u8 (over A B).b) := fun x => x.cell ((colB_cell HOf.out).2.2.1)
    have go3 : ∀ x : Grow Wf, x.w.cell? ⟨w5.heap.size, 3, none⟩ = some (.int .u8 (over A B).a) := fun x => x.cell ((colB_cell HOf.out).2.2.2)
    have gm0 : ∀ x : Grow Wf, x.w.cell? ⟨w6.heap.size, 0, none⟩ = some (.int .u8 (mean A B C D).r) := fun x => x.cell ((colB_cell HMf.out).1)
    have gm1 : ∀ x : Grow Wf, x.w.cell? ⟨w6.heap.size, 1, none⟩ = some (.int .u8 (mean A B C D).g) := fun x => x.cell ((colB_cell HMf.out).2.1)
    have gm2 : ∀ x : Grow Wf, x.w.cell? ⟨w6.heap.size, 2, none⟩ = some (.int .u8 (mean A B C D).b) := fun x => x.cell ((colB_cell HMf.out).2.2.1)
    have gm3 : ∀ x : Grow Wf, x.w.cell? ⟨w6.heap.size, 3, none⟩ = some (.int .u8 (mean A B C D).a) := fun x => x.cell ((colB_cell HMf.out).2.2.2)
    have gf0 : ∀ x : Grow Wf, x.w.cell? ⟨W7.heap.size, 0, none⟩ = some (.int .u8 (over C (over B (over A D))).r) := fun x => x.cell ((colB_cell HFf.out).1)
    have gf1 : ∀ x : Grow Wf, x.w.cell? ⟨W7.heap.size, 1, none⟩ = some (.int .u8 (over C (over B (over A D))).g) := fun x => x.cell ((colB_cell HFf.out).2.1)
    have gf2 : ∀ x : Grow Wf, x.w.cell? ⟨W7.heap.size, 2, none⟩ = some (.int .u8 (over C (over B (over A D))).b) := fun x => x.cell ((colB_cell HFf.out).2.2.1)
    have gf3 : ∀ x : Grow Wf, x.w.cell? ⟨W7.heap.size, 3, none⟩ = some (.int .u8 (over C (over B (over A D))).a) := fun x => x.cell ((colB_cell HFf.out).2.2.2)
    have S1 := Lib.hid (show ∀ y : Grow Wf, Calls Try.prog 11 #[.agg #[.int .u8 (over A B).r, .int .u8 (over A B).g, .int .u8 (over A B).b, .int .u8 (over A B).a]] y.w fun e w' => e = .returned (.bool true) ∧ Below y.w.heap.size y.w w' from fun y => right_yes _ y.w rO)
    have S2 := Lib.hid (show ∀ y : Grow Wf, Calls Try.prog 11 #[.agg #[.int .u8 (mean A B C D).r, .int .u8 (mean A B C D).g, .int .u8 (mean A B C D).b, .int .u8 (mean A B C D).a]] y.w fun e w' => e = .returned (.bool true) ∧ Below y.w.heap.size y.w w' from fun y => right_yes _ y.w rM)
    have S3 := Lib.hid (show ∀ y : Grow Wf, Calls Try.prog 11 #[.agg #[.int .u8 (over C (over B (over A D))).r, .int .u8 (over C (over B (over A D))).g, .int .u8 (over C (over B (over A D))).b, .int .u8 (over C (over B (over A D))).a]] y.w fun e w' => e = .returned (.bool true) ∧ Below y.w.heap.size y.w w' from fun y => right_yes _ y.w rF)
    have S4 := Lib.hid (show ∀ y : Grow Wf, Calls Try.prog 15 #[.agg #[.int .u8 A.r, .int .u8 A.g, .int .u8 A.b, .int .u8 A.a], .agg #[.int .u8 D.r, .int .u8 D.g, .int .u8 D.b, .int .u8 D.a]] y.w fun e w' => e = .returned (.agg #[.int .u8 (over A D).r, .int .u8 (over A D).g, .int .u8 (over A D).b, .int .u8 (over A D).a]) ∧ Below y.w.heap.size y.w w' from fun y => over_col _ _ y.w okA okD)
    have S5 := Lib.hid (show ∀ y : Grow Wf, Calls Try.prog 15 #[.agg #[.int .u8 B.r, .int .u8 B.g, .int .u8 B.b, .int .u8 B.a], .agg #[.int .u8 (over A D).r, .int .u8 (over A D).g, .int .u8 (over A D).b, .int .u8 (over A D).a]] y.w fun e w' => e = .returned (.agg #[.int .u8 (over B (over A D)).r, .int .u8 (over B (over A D)).g, .int .u8 (over B (over A D)).b, .int .u8 (over B (over A D)).a]) ∧ Below y.w.heap.size y.w w' from fun y => over_col _ _ y.w okB ok1)
    have S6 := Lib.hid (show ∀ y : Grow Wf, Calls Try.prog 15 #[.agg #[.int .u8 C.r, .int .u8 C.g, .int .u8 C.b, .int .u8 C.a], .agg #[.int .u8 (over B (over A D)).r, .int .u8 (over B (over A D)).g, .int .u8 (over B (over A D)).b, .int .u8 (over B (over A D)).a]] y.w fun e w' => e = .returned (.agg #[.int .u8 (over C (over B (over A D))).r, .int .u8 (over C (over B (over A D))).g, .int .u8 (over C (over B (over A D))).b, .int .u8 (over C (over B (over A D))).a]) ∧ Below y.w.heap.size y.w w' from fun y => over_col _ _ y.w okC ok2)
    refine wp_region_grow (by kernel_rfl) (by kernel_rfl) ?_
    repeat (go_big_quiet_step ((first
      | (go_at_call 11; first | with_reducible exact Grow.calls (S1.out _) | with_reducible exact Grow.calls (S2.out _) | with_reducible exact Grow.calls (S3.out _))
      | (go_at_call 15; first | with_reducible exact Grow.calls (S4.out _) | with_reducible exact Grow.calls (S5.out _) | with_reducible exact Grow.calls (S6.out _)))))
    refine wpQuiet_nil ?_
    rintro _ ⟨x, rfl⟩
    go_wp2
    go_ret
    exact ⟨rfl, bstep HEf.out HEf.out.size x.below⟩
end Go.Proofs.Ytpnjhmmodkhmfaa
