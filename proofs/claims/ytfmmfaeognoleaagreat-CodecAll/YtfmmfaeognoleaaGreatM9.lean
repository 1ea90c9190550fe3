/-
  What a reader reads of a scene.
-/
import Derived.Test.YtfmmfaeognoleaaGreatM8
import Derived.Test.YtfmmfaeognoleaaGreatM6
import Derived.Laws.BytesArg
import Derived.Deep.Draws
import Derived.RangeFuncNested
import Derived.RangeFuncBound
import Derived.RangeFuncCalls
import Derived.RangeFuncLeaves
import Derived.Shelf.Abstract
import Derived.Shelf.RegionOpen
import Derived.OwnWalkIn
import Derived.TacticsInMore
import Derived.LoopNIn
import Derived.LoopIn
namespace Go.Proofs.YtfmmfaeognoleaaGreat
open Go.RowKit
attribute [local go_sem ↓] Go.wp_at_zero Go.wp_at_succ

/-- A scene's rows read so, in blocks of which P holds. -/
structure Sc.on (s : Sc) (w : World) (P : Nat → Prop) : Prop where
  v : EsP EV w P s.vA s.vs
  t : EsP ET w P s.tA s.ts
  tx : ∀ l ∈ s.ts, EsP EC w P l.A l.x.px
  p : EsP EP w P s.pA s.ps
  px : ∀ l ∈ s.ps, EsP C.EI w P l.A l.x
  d : EsP ED w P s.dA s.ds
  dx : ∀ l ∈ s.ds, EsP ER w P l.A l.x.tris
theorem Sc.on.at {s : Sc} {w : World} {P : Nat → Prop} (h : s.on w P) : s.at w w.heap.size :=
  ⟨h.v.es fun _ _ hl => hl, h.t.es fun _ _ hl => hl, fun l hl => (h.tx l hl).es fun _ _ hl => hl, h.p.es fun _ _ hl => hl, fun l hl => (h.px l hl).es fun _ _ hl => hl, h.d.es fun _ _ hl => hl, fun l hl => (h.dx l hl).es fun _ _ hl => hl⟩
theorem Sc.on.keep {s : Sc} {w w' : World} {P : Nat → Prop} (h : s.on w P) (hk : ∀ b, P b → b < w.heap.size → w'.heap[b]? = w.heap[b]?) : s.on w' P :=
  ⟨h.v.keep hk, h.t.keep hk, fun l hl => (h.tx l hl).keep hk, h.p.keep hk, fun l hl => (h.px l hl).keep hk, h.d.keep hk, fun l hl => (h.dx l hl).keep hk⟩
theorem Sc.on.imp {s : Sc} {w : World} {P Q : Nat → Prop} (h : s.on w P) (hk : ∀ b, P b → b < w.heap.size → Q b) : s.on w Q :=
  ⟨h.v.imp hk, h.t.imp hk, fun l hl => (h.tx l hl).imp hk, h.p.imp hk, fun l hl => (h.px l hl).imp hk, h.d.imp hk, fun l hl => (h.dx l hl).imp hk⟩
def ReadsS (p : Nat) (q : PS) (t : St) (w : World) (e : Ending) (w' : World) : Prop := ∃ x : Sc, e = .returned (.agg #[.int .i64 x.w, .int .i64 x.h, .int .u8 x.k.r, .int .u8 x.k.g, .int .u8 x.k.b, .int .u8 x.k.a, .slice x.vA x.vs.length x.vc, .slice x.tA x.ts.length x.tc, .slice x.pA x.ps.length x.pc, .slice x.dA x.ds.length x.dc]) ∧ x.p = q ∧ x.on w' (fun b => w.heap.size ≤ b) ∧ x.cap ∧ Rd w' p t ∧ But p w w'
set_option maxRecDepth 100000 in
set_option maxHeartbeats 4000000 in
theorem rscene_any {p : Nat} {s : St} (w : World) (h : Rd w p s) (hs : s.l.length ≤ 100000) :
    Calls Tryz.prog 53 #[.pointer (some ⟨p, 0, none⟩)] w (ReadsS p (rS s).1 (rS s).2 w) := by
  have hp := h.lt
  have hmf := mk_func
  have H0 := Lib.hid (show Rd (w.alloc (.cells #[.int .i64 0, .int .i64 0, .int .u8 0, .int .u8 0, .int .u8 0, .int .u8 0, .slice none 0 0, .slice none 0 0, .slice none 0 0, .slice none 0 0] 29)) p s from h.alloc _)
  have HB0 := Lib.hid (show But p w (w.alloc (.cells #[.int .i64 0, .int .i64 0, .int .u8 0, .int .u8 0, .int .u8 0, .int .u8 0, .slice none 0 0, .slice none 0 0, .slice none 0 0, .slice none 0 0] 29)) from (But.refl p w).alloc hp _)
  have HG0 := Lib.hid (show (w.alloc (.cells #[.int .i64 0, .int .i64 0, .int .u8 0, .int .u8 0, .int .u8 0, .int .u8 0, .slice none 0 0, .slice none 0 0, .slice none 0 0, .slice none 0 0] 29)).heap[w.heap.size]? = some (.cells #[.int .i64 0, .int .i64 0, .int .u8 0, .int .u8 0, .int .u8 0, .int .u8 0, .slice none 0 0, .slice none 0 0, .slice none 0 0, .slice none 0 0] 29 (0, 0)) from heap_alloc_new _ _)
  have HZ0 := Lib.hid (show w.heap.size < (w.alloc (.cells #[.int .i64 0, .int .i64 0, .int .u8 0, .int .u8 0, .int .u8 0, .int .u8 0, .slice none 0 0, .slice none 0 0, .slice none 0 0, .slice none 0 0] 29)).heap.size by simp)
  clear h
  obtain ⟨x1, t1, e1⟩ : ∃ x t, rNum s = (x, t) := ⟨_, _, rfl⟩
  have C1 := Lib.hid (show ∀ w, Rd w p s → Calls Tryz.prog 92 #[.pointer (some ⟨p, 0, none⟩)] w (Reads p (.int .i64 x1) t1 w) from fun w h => by have h2 := number_any w h; rw [e1] at h2; exact h2)
  have l1 : t1.l.length ≤ 100000 := by have h2 := num_le s; rw [e1] at h2; exact Nat.le_trans h2 hs
  obtain ⟨x2, t2, e2⟩ : ∃ x t, rNum t1 = (x, t) := ⟨_, _, rfl⟩
  have C2 := Lib.hid (show ∀ w, Rd w p t1 → Calls Tryz.prog 92 #[.pointer (some ⟨p, 0, none⟩)] w (Reads p (.int .i64 x2) t2 w) from fun w h => by have h2 := number_any w h; rw [e2] at h2; exact h2)
  have l2 : t2.l.length ≤ 100000 := by have h2 := num_le t1; rw [e2] at h2; exact Nat.le_trans h2 l1
  obtain ⟨x3, t3, e3⟩ : ∃ x t, rC t2 = (x, t) := ⟨_, _, rfl⟩
  have C3 := Lib.hid (show ∀ w, Rd w p t2 → Calls Tryz.prog 93 #[.pointer (some ⟨p, 0, none⟩)] w (Reads p (.agg #[.int .u8 x3.r, .int .u8 x3.g, .int .u8 x3.b, .int .u8 x3.a]) t3 w) from fun w h => by have h2 := rcol_any w h; rw [e3] at h2; exact h2)
  have l3 : t3.l.length ≤ 100000 := by have h2 := rC_le t2; rw [e3] at h2; exact Nat.le_trans h2 l2
  obtain ⟨x4, t4, e4⟩ : ∃ x t, rAll rV t3 = (x, t) := ⟨_, _, rfl⟩
  have C4 := Lib.hid (show ∀ w, Rd w p t3 → Calls Tryz.prog 94 #[.pointer (some ⟨p, 0, none⟩), .func (.func 95) #[.pointer (some ⟨p, 0, none⟩)] #[]] w (ReadsE EV p x4 t4 w) from fun w h => by have h2 := readV_any w h l3; rw [e4] at h2; exact h2)
  have l4 : t4.l.length ≤ 100000 := by have h2 := all_le vert_le t3; rw [e4] at h2; exact Nat.le_trans h2 l3
  obtain ⟨x5, t5, e5⟩ : ∃ x t, rAll rT t4 = (x, t) := ⟨_, _, rfl⟩
  have C5 := Lib.hid (show ∀ w, Rd w p t4 → Calls Tryz.prog 96 #[.pointer (some ⟨p, 0, none⟩), .func (.func 97) #[.pointer (some ⟨p, 0, none⟩)] #[]] w (ReadsN ET EC Tx.px p x5 t5 w) from fun w h => by have h2 := readT_any w h l4; rw [e5] at h2; exact h2)
  have l5 : t5.l.length ≤ 100000 := by have h2 := all_le tex_le t4; rw [e5] at h2; exact Nat.le_trans h2 l4
  obtain ⟨x6, t6, e6⟩ : ∃ x t, rAll rP t5 = (x, t) := ⟨_, _, rfl⟩
  have C6 := Lib.hid (show ∀ w, Rd w p t5 → Calls Tryz.prog 98 #[.pointer (some ⟨p, 0, none⟩), .func (.func 99) #[.pointer (some ⟨p, 0, none⟩)] #[]] w (ReadsN EP C.EI id p x6 t6 w) from fun w h => by have h2 := readP_any w h l5; rw [e6] at h2; exact h2)
  have l6 : t6.l.length ≤ 100000 := by have h2 := all_le prog_le t5; rw [e6] at h2; exact Nat.le_trans h2 l5
  obtain ⟨x7, t7, e7⟩ : ∃ x t, rAll rD t6 = (x, t) := ⟨_, _, rfl⟩
  have C7 := Lib.hid (show ∀ w, Rd w p t6 → Calls Tryz.prog 100 #[.pointer (some ⟨p, 0, none⟩), .func (.func 101) #[.pointer (some ⟨p, 0, none⟩)] #[]] w (ReadsN ED ER Dr.tris p x7 t7 w) from fun w h => by have h2 := readD_any w h l6; rw [e7] at h2; exact h2)
  have hC : rS s = (⟨x1, x2, x3, x4, x5, x6, x7⟩, t7) := by unfold rS; simp only [e1, e2, e3, e4, e5, e6, e7]
  rw [hC]
  clear hC e1 e2 e3 e4 e5 e6 e7 l1 l2 l3 l4 l5 l6
  go_enter Tryz.func53, Tryz.ntmps53
  go_wp2_with fail
  with_reducible refine (C1.out _ H0.out).mono ?_
  rintro e w1 ⟨rfl, hr, hb⟩
  have HR1 := Lib.hid hr
  have HB1 := Lib.hid (HB0.out.trans hb)
  have HG1 := Lib.hid ((hb.block HZ0.out (by omega)).trans HG0.out)
  have HZ1 := Lib.hid (Nat.lt_of_lt_of_le HZ0.out hb.size)
  clear hr hb  C1 H0 HB0 HG0 HZ0 
  go_wp2_with fail
  with_reducible refine (C2.out _ HR1.out).mono ?_
  rintro e w2 ⟨rfl, hr, hb⟩
  have HR2 := Lib.hid hr
  have HB2 := Lib.hid (HB1.out.trans hb)
  have HG2 := Lib.hid ((hb.block HZ1.out (by omega)).trans HG1.out)
  have HZ2 := Lib.hid (Nat.lt_of_lt_of_le HZ1.out hb.size)
  clear hr hb  C2 HR1 HB1 HG1 HZ1 
  go_wp2_with fail
  with_reducible refine (C3.out _ HR2.out).mono ?_
  rintro e w3 ⟨rfl, hr, hb⟩
  have HR3 := Lib.hid hr
  have HB3 := Lib.hid (HB2.out.trans hb)
  have HG3 := Lib.hid ((hb.block HZ2.out (by omega)).trans HG2.out)
  have HZ3 := Lib.hid (Nat.lt_of_lt_of_le HZ2.out hb.size)
  clear hr hb  C3 HR2 HB2 HG2 HZ2 
  go_wp2_with fail
  with_reducible refine (C4.out _ HR3.out).mono ?_
  rintro e w4 ⟨A4, c4, rfl, ho, hr, hb⟩
  have HO4_4 := Lib.hid (ho.less HZ3.out)
  have HR4 := Lib.hid hr
  have HB4 := Lib.hid (HB3.out.trans hb)
  have HG4 := Lib.hid ((hb.block HZ3.out (by omega)).trans HG3.out)
  have HZ4 := Lib.hid (Nat.lt_of_lt_of_le HZ3.out hb.size)
  clear hr hb ho C4 HR3 HB3 HG3 HZ3 
  go_wp2_with fail
  with_reducible refine (C5.out _ HR4.out).mono ?_
  rintro e w5 ⟨A5, c5, l5, rfl, hm5, ho, hr, hb⟩
  have HO4_5 := Lib.hid (hb.own HO4_4.out (by omega))
  have HO5_5 := Lib.hid (ho.less HZ4.out)
  have HM5 := Lib.hid hm5
  clear hm5
  have HR5 := Lib.hid hr
  have HB5 := Lib.hid (HB4.out.trans hb)
  have HG5 := Lib.hid ((hb.block HZ4.out (by omega)).trans HG4.out)
  have HZ5 := Lib.hid (Nat.lt_of_lt_of_le HZ4.out hb.size)
  clear hr hb ho C5 HR4 HB4 HG4 HZ4 HO4_4
  go_wp2_with fail
  with_reducible refine (C6.out _ HR5.out).mono ?_
  rintro e w6 ⟨A6, c6, l6, rfl, hm6, ho, hr, hb⟩
  have HO4_6 := Lib.hid (hb.own HO4_5.out (by omega))
  have HO5_6 := Lib.hid (hb.ownN HO5_5.out (by omega))
  have HO6_6 := Lib.hid (ho.less HZ5.out)
  have HM6 := Lib.hid hm6
  clear hm6
  have HR6 := Lib.hid hr
  have HB6 := Lib.hid (HB5.out.trans hb)
  have HG6 := Lib.hid ((hb.block HZ5.out (by omega)).trans HG5.out)
  have HZ6 := Lib.hid (Nat.lt_of_lt_of_le HZ5.out hb.size)
  clear hr hb ho C6 HR5 HB5 HG5 HZ5 HO4_5 HO5_5
  go_wp2_with fail
  with_reducible refine (C7.out _ HR6.out).mono ?_
  rintro e w7 ⟨A7, c7, l7, rfl, hm7, ho, hr, hb⟩
  have HO4_7 := Lib.hid (hb.own HO4_6.out (by omega))
  have HO5_7 := Lib.hid (hb.ownN HO5_6.out (by omega))
  have HO6_7 := Lib.hid (hb.ownN HO6_6.out (by omega))
  have HO7_7 := Lib.hid (ho.less HZ6.out)
  have HM7 := Lib.hid hm7
  clear hm7
  have HR7 := Lib.hid hr
  have HB7 := Lib.hid (HB6.out.trans hb)
  have HG7 := Lib.hid ((hb.block HZ6.out (by omega)).trans HG6.out)
  have HZ7 := Lib.hid (Nat.lt_of_lt_of_le HZ6.out hb.size)
  clear hr hb ho C7 HR6 HB6 HG6 HZ6 HO4_6 HO5_6 HO6_6
  have f0 : w7.frozen? ⟨w.heap.size, 0, none⟩ = false := by simp [World.frozen?, HG7.out]
  have q0 := Joins.cell_of_block HG7.out 0
  have f1 : w7.frozen? ⟨w.heap.size, 1, none⟩ = false := by simp [World.frozen?, HG7.out]
  have q1 := Joins.cell_of_block HG7.out 1
  have f2 : w7.frozen? ⟨w.heap.size, 2, none⟩ = false := by simp [World.frozen?, HG7.out]
  have q2 := Joins.cell_of_block HG7.out 2
  have f3 : w7.frozen? ⟨w.heap.size, 3, none⟩ = false := by simp [World.frozen?, HG7.out]
  have q3 := Joins.cell_of_block HG7.out 3
  have f4 : w7.frozen? ⟨w.heap.size, 4, none⟩ = false := by simp [World.frozen?, HG7.out]
  have q4 := Joins.cell_of_block HG7.out 4
  have f5 : w7.frozen? ⟨w.heap.size, 5, none⟩ = false := by simp [World.frozen?, HG7.out]
  have q5 := Joins.cell_of_block HG7.out 5
  have f6 : w7.frozen? ⟨w.heap.size, 6, none⟩ = false := by simp [World.frozen?, HG7.out]
  have q6 := Joins.cell_of_block HG7.out 6
  have f7 : w7.frozen? ⟨w.heap.size, 7, none⟩ = false := by simp [World.frozen?, HG7.out]
  have q7 := Joins.cell_of_block HG7.out 7
  have f8 : w7.frozen? ⟨w.heap.size, 8, none⟩ = false := by simp [World.frozen?, HG7.out]
  have q8 := Joins.cell_of_block HG7.out 8
  have f9 : w7.frozen? ⟨w.heap.size, 9, none⟩ = false := by simp [World.frozen?, HG7.out]
  have q9 := Joins.cell_of_block HG7.out 9
  have HS := Lib.hid (show (((((((((((w7).setCell ⟨w.heap.size, 0, none⟩ (.int .i64 x1)).setCell ⟨w.heap.size, 1, none⟩ (.int .i64 x2)).setCell ⟨w.heap.size, 2, none⟩ (.int .u8 x3.r)).setCell ⟨w.heap.size, 3, none⟩ (.int .u8 x3.g)).setCell ⟨w.heap.size, 4, none⟩ (.int .u8 x3.b)).setCell ⟨w.heap.size, 5, none⟩ (.int .u8 x3.a)).setCell ⟨w.heap.size, 6, none⟩ (.slice A4 x4.length c4)).setCell ⟨w.heap.size, 7, none⟩ (.slice A5 l5.length c5)).setCell ⟨w.heap.size, 8, none⟩ (.slice A6 l6.length c6)).setCell ⟨w.heap.size, 9, none⟩ (.slice A7 l7.length c7)).heap[w.heap.size]? = some (.cells #[.int .i64 x1, .int .i64 x2, .int .u8 x3.r, .int .u8 x3.g, .int .u8 x3.b, .int .u8 x3.a, .slice A4 x4.length c4, .slice A5 l5.length c5, .slice A6 l6.length c6, .slice A7 l7.length c7] 29 (0, 0)) from (heap_setCell_same _ _ _ _ _ _ (heap_setCell_same _ _ _ _ _ _ (heap_setCell_same _ _ _ _ _ _ (heap_setCell_same _ _ _ _ _ _ (heap_setCell_same _ _ _ _ _ _ (heap_setCell_same _ _ _ _ _ _ (heap_setCell_same _ _ _ _ _ _ (heap_setCell_same _ _ _ _ _ _ (heap_setCell_same _ _ _ _ _ _ (heap_setCell_same _ _ _ _ _ _ HG7.out)))))))))).trans (by simp))
  have HX := Lib.hid (show Rd (((((((((((w7).setCell ⟨w.heap.size, 0, none⟩ (.int .i64 x1)).setCell ⟨w.heap.size, 1, none⟩ (.int .i64 x2)).setCell ⟨w.heap.size, 2, none⟩ (.int .u8 x3.r)).setCell ⟨w.heap.size, 3, none⟩ (.int .u8 x3.g)).setCell ⟨w.heap.size, 4, none⟩ (.int .u8 x3.b)).setCell ⟨w.heap.size, 5, none⟩ (.int .u8 x3.a)).setCell ⟨w.heap.size, 6, none⟩ (.slice A4 x4.length c4)).setCell ⟨w.heap.size, 7, none⟩ (.slice A5 l5.length c5)).setCell ⟨w.heap.size, 8, none⟩ (.slice A6 l6.length c6)).setCell ⟨w.heap.size, 9, none⟩ (.slice A7 l7.length c7)) p t7 from ((((((((((HR7.out.setNew hp).setNew hp).setNew hp).setNew hp).setNew hp).setNew hp).setNew hp).setNew hp).setNew hp).setNew hp))
  have HY := Lib.hid (show But p w (((((((((((w7).setCell ⟨w.heap.size, 0, none⟩ (.int .i64 x1)).setCell ⟨w.heap.size, 1, none⟩ (.int .i64 x2)).setCell ⟨w.heap.size, 2, none⟩ (.int .u8 x3.r)).setCell ⟨w.heap.size, 3, none⟩ (.int .u8 x3.g)).setCell ⟨w.heap.size, 4, none⟩ (.int .u8 x3.b)).setCell ⟨w.heap.size, 5, none⟩ (.int .u8 x3.a)).setCell ⟨w.heap.size, 6, none⟩ (.slice A4 x4.length c4)).setCell ⟨w.heap.size, 7, none⟩ (.slice A5 l5.length c5)).setCell ⟨w.heap.size, 8, none⟩ (.slice A6 l6.length c6)).setCell ⟨w.heap.size, 9, none⟩ (.slice A7 l7.length c7)) from ((((((((((HB7.out.setNew (by omega) (Nat.le_refl _)).setNew (by omega) (Nat.le_refl _)).setNew (by omega) (Nat.le_refl _)).setNew (by omega) (Nat.le_refl _)).setNew (by omega) (Nat.le_refl _)).setNew (by omega) (Nat.le_refl _)).setNew (by omega) (Nat.le_refl _)).setNew (by omega) (Nat.le_refl _)).setNew (by omega) (Nat.le_refl _)).setNew (by omega) (Nat.le_refl _)))
  have HO4 := Lib.hid (show OwnE EV (((((((((((w7).setCell ⟨w.heap.size, 0, none⟩ (.int .i64 x1)).setCell ⟨w.heap.size, 1, none⟩ (.int .i64 x2)).setCell ⟨w.heap.size, 2, none⟩ (.int .u8 x3.r)).setCell ⟨w.heap.size, 3, none⟩ (.int .u8 x3.g)).setCell ⟨w.heap.size, 4, none⟩ (.int .u8 x3.b)).setCell ⟨w.heap.size, 5, none⟩ (.int .u8 x3.a)).setCell ⟨w.heap.size, 6, none⟩ (.slice A4 x4.length c4)).setCell ⟨w.heap.size, 7, none⟩ (.slice A5 l5.length c5)).setCell ⟨w.heap.size, 8, none⟩ (.slice A6 l6.length c6)).setCell ⟨w.heap.size, 9, none⟩ (.slice A7 l7.length c7)) (w.heap.size + 1) (.slice A4 x4.length c4) x4 from ((((((((((HO4_7.out.setCell (Nat.lt_succ_self _)).setCell (Nat.lt_succ_self _)).setCell (Nat.lt_succ_self _)).setCell (Nat.lt_succ_self _)).setCell (Nat.lt_succ_self _)).setCell (Nat.lt_succ_self _)).setCell (Nat.lt_succ_self _)).setCell (Nat.lt_succ_self _)).setCell (Nat.lt_succ_self _)).setCell (Nat.lt_succ_self _)))
  have HO5 := Lib.hid (show OwnN ET EC Tx.px (((((((((((w7).setCell ⟨w.heap.size, 0, none⟩ (.int .i64 x1)).setCell ⟨w.heap.size, 1, none⟩ (.int .i64 x2)).setCell ⟨w.heap.size, 2, none⟩ (.int .u8 x3.r)).setCell ⟨w.heap.size, 3, none⟩ (.int .u8 x3.g)).setCell ⟨w.heap.size, 4, none⟩ (.int .u8 x3.b)).setCell ⟨w.heap.size, 5, none⟩ (.int .u8 x3.a)).setCell ⟨w.heap.size, 6, none⟩ (.slice A4 x4.length c4)).setCell ⟨w.heap.size, 7, none⟩ (.slice A5 l5.length c5)).setCell ⟨w.heap.size, 8, none⟩ (.slice A6 l6.length c6)).setCell ⟨w.heap.size, 9, none⟩ (.slice A7 l7.length c7)) (w.heap.size + 1) (.slice A5 l5.length c5) l5 from ((((((((((HO5_7.out.set (Nat.lt_succ_self _)).set (Nat.lt_succ_self _)).set (Nat.lt_succ_self _)).set (Nat.lt_succ_self _)).set (Nat.lt_succ_self _)).set (Nat.lt_succ_self _)).set (Nat.lt_succ_self _)).set (Nat.lt_succ_self _)).set (Nat.lt_succ_self _)).set (Nat.lt_succ_self _)))
  have HO6 := Lib.hid (show OwnN EP C.EI id (((((((((((w7).setCell ⟨w.heap.size, 0, none⟩ (.int .i64 x1)).setCell ⟨w.heap.size, 1, none⟩ (.int .i64 x2)).setCell ⟨w.heap.size, 2, none⟩ (.int .u8 x3.r)).setCell ⟨w.heap.size, 3, none⟩ (.int .u8 x3.g)).setCell ⟨w.heap.size, 4, none⟩ (.int .u8 x3.b)).setCell ⟨w.heap.size, 5, none⟩ (.int .u8 x3.a)).setCell ⟨w.heap.size, 6, none⟩ (.slice A4 x4.length c4)).setCell ⟨w.heap.size, 7, none⟩ (.slice A5 l5.length c5)).setCell ⟨w.heap.size, 8, none⟩ (.slice A6 l6.length c6)).setCell ⟨w.heap.size, 9, none⟩ (.slice A7 l7.length c7)) (w.heap.size + 1) (.slice A6 l6.length c6) l6 from ((((((((((HO6_7.out.set (Nat.lt_succ_self _)).set (Nat.lt_succ_self _)).set (Nat.lt_succ_self _)).set (Nat.lt_succ_self _)).set (Nat.lt_succ_self _)).set (Nat.lt_succ_self _)).set (Nat.lt_succ_self _)).set (Nat.lt_succ_self _)).set (Nat.lt_succ_self _)).set (Nat.lt_succ_self _)))
  have HO7 := Lib.hid (show OwnN ED ER Dr.tris (((((((((((w7).setCell ⟨w.heap.size, 0, none⟩ (.int .i64 x1)).setCell ⟨w.heap.size, 1, none⟩ (.int .i64 x2)).setCell ⟨w.heap.size, 2, none⟩ (.int .u8 x3.r)).setCell ⟨w.heap.size, 3, none⟩ (.int .u8 x3.g)).setCell ⟨w.heap.size, 4, none⟩ (.int .u8 x3.b)).setCell ⟨w.heap.size, 5, none⟩ (.int .u8 x3.a)).setCell ⟨w.heap.size, 6, none⟩ (.slice A4 x4.length c4)).setCell ⟨w.heap.size, 7, none⟩ (.slice A5 l5.length c5)).setCell ⟨w.heap.size, 8, none⟩ (.slice A6 l6.length c6)).setCell ⟨w.heap.size, 9, none⟩ (.slice A7 l7.length c7)) (w.heap.size + 1) (.slice A7 l7.length c7) l7 from ((((((((((HO7_7.out.set (Nat.lt_succ_self _)).set (Nat.lt_succ_self _)).set (Nat.lt_succ_self _)).set (Nat.lt_succ_self _)).set (Nat.lt_succ_self _)).set (Nat.lt_succ_self _)).set (Nat.lt_succ_self _)).set (Nat.lt_succ_self _)).set (Nat.lt_succ_self _)).set (Nat.lt_succ_self _)))
  go_wp2_with fail
  obtain ⟨W, hW⟩ : ∃ W, ((((((((((w7).setCell ⟨w.heap.size, 0, none⟩ (.int .i64 x1)).setCell ⟨w.heap.size, 1, none⟩ (.int .i64 x2)).setCell ⟨w.heap.size, 2, none⟩ (.int .u8 x3.r)).setCell ⟨w.heap.size, 3, none⟩ (.int .u8 x3.g)).setCell ⟨w.heap.size, 4, none⟩ (.int .u8 x3.b)).setCell ⟨w.heap.size, 5, none⟩ (.int .u8 x3.a)).setCell ⟨w.heap.size, 6, none⟩ (.slice A4 x4.length c4)).setCell ⟨w.heap.size, 7, none⟩ (.slice A5 l5.length c5)).setCell ⟨w.heap.size, 8, none⟩ (.slice A6 l6.length c6)).setCell ⟨w.heap.size, 9, none⟩ (.slice A7 l7.length c7) = W := ⟨_, rfl⟩
  rw [hW] at HS HX HY HO4 HO5 HO6 HO7
  try rw [hW]
  have k0 := Joins.cell_of_block HS.out 0
  have k1 := Joins.cell_of_block HS.out 1
  have k2 := Joins.cell_of_block HS.out 2
  have k3 := Joins.cell_of_block HS.out 3
  have k4 := Joins.cell_of_block HS.out 4
  have k5 := Joins.cell_of_block HS.out 5
  have k6 := Joins.cell_of_block HS.out 6
  have k7 := Joins.cell_of_block HS.out 7
  have k8 := Joins.cell_of_block HS.out 8
  have k9 := Joins.cell_of_block HS.out 9
  refine bodyPost_ret (v := .agg #[.int .i64 x1, .int .i64 x2, .int .u8 x3.r, .int .u8 x3.g, .int .u8 x3.b, .int .u8 x3.a, .slice A4 x4.length c4, .slice A5 l5.length c5, .slice A6 l6.length c6, .slice A7 l7.length c7]) (by simp [results, Tryz.results53, go_sem, k0, k1, k2, k3, k4, k5, k6, k7, k8, k9]) rfl ?_
  obtain ⟨-, m4, -⟩ := ownE_es HO4.out
  obtain ⟨-, m5, -⟩ := ownE_es HO5.out.own
  obtain ⟨-, m6, -⟩ := ownE_es HO6.out.own
  obtain ⟨-, m7, -⟩ := ownE_es HO7.out.own
  refine ⟨⟨x1, x2, x3, x4, A4, c4, l5, A5, c5, l6, A6, c6, l7, A7, c7⟩, rfl, ?_, ⟨(OwnE.toP HO4.out).imp fun b hb _ => Nat.le_of_succ_le hb, (OwnE.toP HO5.out.own).imp fun b hb _ => Nat.le_of_succ_le hb, fun l hl => (HO5.out.els l hl).imp fun b hb _ => Nat.le_of_succ_le hb.1, (OwnE.toP HO6.out.own).imp fun b hb _ => Nat.le_of_succ_le hb, fun l hl => (HO6.out.els l hl).imp fun b hb _ => Nat.le_of_succ_le hb.1, (OwnE.toP HO7.out.own).imp fun b hb _ => Nat.le_of_succ_le hb, fun l hl => (HO7.out.els l hl).imp fun b hb _ => Nat.le_of_succ_le hb.1⟩, ⟨m4, m5, HO5.out.cap, m6, HO6.out.cap, m7, HO7.out.cap⟩, HX.out, HY.out⟩
  show (⟨x1, x2, x3, x4, l5.map Lo.x, l6.map Lo.x, l7.map Lo.x⟩ : PS) = _
  rw [HM5.out, HM6.out, HM7.out]
end Go.Proofs.YtfmmfaeognoleaaGreat
/-
  few, short, bytes.Clone, wire.Take, glazierref03.Same, wire.All, glazierlaw03.shown, at this seat's translation.
-/
namespace Go.Proofs.YtfmmfaeognoleaaGreat.P
open Go.RowKit

section
variable {k : IntKind} {w w' : World} {B B' : Nat} {A : Option Addr} {xs : List Int}
theorem Sl.none_ : Sl k w B A [] := fun h => absurd rfl h
theorem Sl.take (h : Sl k w B A xs) (n : Nat) : Sl k w B A (xs.take n) := fun hne => by
  obtain ⟨b, off, e, hb, hc⟩ := h (by rintro rfl; simp at hne)
  refine ⟨b, off, e, hb, fun j hj => ?_⟩
  simp only [List.length_take] at hj
  rw [hc j (by omega), List.getD_eq_getElem?_getD, List.getD_eq_getElem?_getD, List.getElem?_take_of_lt (by omega)]
theorem Sl.below (h : Sl k w B A xs) (hb : Below B w w') : Sl k w' B A xs := fun hne => by
  obtain ⟨b, off, e, hbB, hc⟩ := h hne
  exact ⟨b, off, e, hbB, fun j hj => (hb.cell (p := ⟨b, off + j, none⟩) hbB).trans (hc j hj)⟩
theorem Sl.more (h : Sl k w B A xs) (hB : B ≤ B') : Sl k w B' A xs := fun hne => by
  obtain ⟨b, off, e, hbB, hc⟩ := h hne
  exact ⟨b, off, e, by omega, hc⟩
theorem Sl.drewN (h : Sl k w B A xs) (n : Nat) : Sl k (w.drewN n) B A xs := h
theorem Sl.cut (h : Sl k w B A xs) {n c : Nat} (hc : xs.length ≤ c) : Sl k w B (if c = n then A else A.map fun x => x.add n) (xs.drop n) := fun hne => by
  have hl : n < xs.length := by
    rcases Nat.lt_or_ge n xs.length with h | h
    · exact h
    · exact absurd (List.drop_eq_nil_of_le h) hne
  obtain ⟨b, off, rfl, hb, hcell⟩ := h (by rintro rfl; simp at hl)
  rw [if_neg (by omega)]
  refine ⟨b, off + n, by simp [Addr.add_lit], hb, fun j hj => ?_⟩
  rw [List.length_drop] at hj
  rw [Nat.add_assoc, hcell (n + j) (by omega), List.getD_eq_getElem?_getD, List.getD_eq_getElem?_getD, List.getElem?_drop]
end

theorem Sl.conv {w : World} {B : Nat} {A : Option Addr} {xs : List Int} (h : Sl .u8 w B A xs) (c : Nat) :
    (convert 30 9 (.slice A xs.length c)).run Tryz.prog w = .ok (.string (strOfNums xs)) w := by
  by_cases hne : xs = []
  · subst hne
    show (convert 30 9 (.slice A 0 c)).run Tryz.prog w = .ok (.string ByteArray.empty) w
    rw [run_convert_bytes_string w 30 9 5 _ 0 c Tryz.underlying30 Tryz.underlying5 Tryz.underlying9]
    cases A <;> simp [Conv.bytesToString, loadCells]
    all_goals rfl
  · obtain ⟨b, off, rfl, _, hc⟩ := h hne
    exact run_convert_bytes_arg w 30 5 Tryz.underlying30 Tryz.underlying5 b off xs.length c xs rfl hc 9 Tryz.underlying9

theorem eqIn23 (w : World) (d : Nat) (a : Addr) (n c : Nat) : (Op.equalIn (d + 1) 30 (.slice (some a) n c) (.slice none 0 0)).run Tryz.prog w = .ok false w := by
  simp [Op.equalIn, run_underlying Tryz.underlying30]
theorem eql23 (w : World) (a : Addr) (n c : Nat) : (binOp .eql 30 (.slice (some a) n c) (.slice none 0 0)).run Tryz.prog w = .ok (.bool false) w := by
  simp only [binOp]
  simp [Op.equal, Op.maxDepth, eqIn23 w 9999]
theorem eqIn40 (w : World) (d : Nat) (f : Fn) (a b : Array Value) : (Op.equalIn (d + 1) 138 (.func f a b) .nilFunc).run Tryz.prog w = .ok false w := by
  simp [Op.equalIn, run_underlying Tryz.underlying138]
theorem neq40 (w : World) (f : Fn) (a b : Array Value) : (binOp .neq 138 (.func f a b) .nilFunc).run Tryz.prog w = .ok (.bool true) w := by
  simp only [binOp]
  simp [Op.equal, Op.maxDepth, eqIn40 w 9999]
theorem eql40 (w : World) (f : Fn) (a b : Array Value) : (binOp .eql 138 (.func f a b) .nilFunc).run Tryz.prog w = .ok (.bool false) w := by
  simp only [binOp]
  simp [Op.equal, Op.maxDepth, eqIn40 w 9999]
theorem mk_func (fn : Fn) (first cap : Array Value) (w : World) : (Instr.makeFunc fn first cap).run Tryz.prog w = .ok (.func fn first cap) w := rfl

theorem all_any (A : Option Addr) (n c : Nat) (w : World) :
    Calls Tryz.prog 91 #[.slice A n c] w fun e w' => e = .returned (.func (.func 121) #[] #[.pointer (some ⟨w.heap.size, 0, none⟩)]) ∧ w' = w.alloc (.cells #[.slice A n c] 30) := by
  have hmf := mk_func
  go_enter Tryz.func91, Tryz.ntmps91
  go_wp2
  go_ret
  exact ⟨rfl, rfl⟩

theorem own_empty (t : TypeId) (w : World) : (w.alloc (.cells #[] t)).ownsRow w.heap.size t 1 (.slice (some ⟨w.heap.size, 0, none⟩) 0 0) 0 [] :=
  ⟨rfl, .inr ⟨w.heap.size, 0, #[], rfl, Nat.le_refl _, World.alloc_heap_new w _, Nat.le_refl _, by unfold maxLen; omega, rfl, rfl⟩⟩

theorem news_of {k : IntKind} {w : World} {b off : Nat} {xs : List Int} (hc : ∀ j, j < xs.length → w.cell? ⟨b, off + j, none⟩ = some (.int k (xs.getD j 0))) :
    ∀ j u, (xs.map (Value.int k))[j]? = some u → w.cell? ((⟨b, off, none⟩ : Addr).add j) = some u := by
  intro j u hu
  have hj : j < xs.length := by simpa using (List.getElem?_eq_some_iff.1 hu).1
  rw [Addr.add_lit, hc j hj, ← hu, List.getElem?_map, List.getElem?_eq_getElem hj, List.getD_eq_getElem?_getD, List.getElem?_eq_getElem hj]
  rfl

def TookS (w : World) (n : Int) (xs : List Int) (e : Ending) (w' : World) : Prop :=
  ∃ v, e = .returned (.tuple #[.int .i64 n, v, .bool true]) ∧ OwnS 5 .u8 w' w.heap.size v xs ∧ Below w.heap.size w w'

theorem below_draws {B : Nat} {a w : World} (h : Below B a w) (n : Nat) : Below B a (w.drewN n) := ⟨h.os, h.tape, h.output, h.size, h.block⟩

def Yes (w : World) (e : Ending) (w' : World) : Prop := e = .returned (.bool true) ∧ Below w.heap.size w w'

theorem str_shown : strOfNums (put [0, -1, 64]) = { data := #[0, 1, 128, 1] } := by
  have e : put [0, -1, 64] = [0, 1, 128, 1] := by
    simp only [put_cons, put_nil]
    rw [show fold 0 = 0 by decide, show fold (-1) = 1 by decide, show fold 64 = 128 by decide, enc_lt (u := 0) (by decide), enc_lt (u := 1) (by decide), enc_ge (u := 128) (by decide), enc_lt (u := 128 / 128) (by decide)]
    rfl
  rw [e]; rfl

end Go.Proofs.YtfmmfaeognoleaaGreat.P
/-
  The iterator of wire.All, at this seat's translation: for every loop body that keeps what lay.
-/
namespace Go.Proofs.YtfmmfaeognoleaaGreat.P
open Go.RowKit Go.Shelf
attribute [local go_sem] Oper.semAt_some

def encs (x : Int × Bool) : Array Value := #[.int .i64 x.1, .bool x.2]
def lenOf : Value → Nat
  | .slice _ n _ => n
  | _ => 0

/-- Where the iterator stands: what has come, and what is left. -/
def ItAt (n₀ : Nat) (xs : List Int) (J : List (Int × Bool) → World → Prop) (p : Value) (wr : World) : Prop :=
  ∃ (pre : List (Int × Bool)) (ys : List Int) (A : Option Addr) (c : Nat), p = .slice A ys.length c ∧ ys.length ≤ c ∧ ys.length ≤ xs.length ∧ Byt ys ∧ Sl .u8 wr n₀ A ys ∧ seq xs = pre ++ seq ys ∧ J pre wr

set_option maxRecDepth 100000 in
set_option maxHeartbeats 2000000 in
theorem all1_in (F : Fence) (hfn : ∀ f, F.fn f) (hC : ∀ {f args W R} m, Calls Tryz.prog f args W R → CallsIn F m Tryz.prog f args W R) (n : Nat) (hro : F.round = none) (hn : 2 ≤ n) (l Bn n₀ : Nat) (A : Option Addr) (c : Nat) (xs : List Int)
    (hc : xs.length ≤ c) (hl : xs.length ≤ 10000000000) (hb : Byt xs) (J Jx : List (Int × Bool) → World → Prop)
    (hY : ∀ pre x W, J pre W → pre.length < (seq xs).length → YieldAt F (n - 1) Tryz.prog l (encs x) W fun e W' =>
      (e = .returned (.bool true) ∧ J (pre ++ [x]) W' ∧ Below n₀ W W') ∨ (e = .returned (.bool false) ∧ Jx (pre ++ [x]) W'))
    (W : World) (hBn : W.cell? ⟨Bn, 0, none⟩ = some (.slice A xs.length c)) (hs : Sl .u8 W n₀ A xs) (h0 : J [] W) :
    CallsIn F n Tryz.prog 121 #[.func (.yield l) #[] #[], .pointer (some ⟨Bn, 0, none⟩)] W fun e W' => (∃ v, e = .returned v) ∧
      ((∃ ys, ys = seq xs ∧ J ys W') ∨ (∃ pre, pre <+: seq xs ∧ Jx pre W')) := by
  have h20 := hfn 122
  have h1 : 1 ≤ n := by omega
  have HY := Lib.hid hY
  have HS := Lib.hid hs
  have HB := Lib.hid hb
  clear hY hs hb
  refine callsIn_of_wp Tryz.func121 rfl (hfn 121) ?_ hro
  simp only [Tryz.ntmps121, List.size_toArray, List.length_cons, List.length_nil, Nat.reduceAdd, Nat.reduceSub, Array.replicate_succ, Array.replicate_zero, List.push_toArray, List.append_toArray, List.nil_append, List.cons_append]
  gi_wp2
  gi_loopw [3] (fun p wr => ItAt n₀ xs J p wr) (fun p _ => lenOf p)
  case atStart =>
    exact ⟨[], xs, A, c, rfl, hc, Nat.le_refl _, HB.out, HS.out, rfl, h0⟩
  case round =>
    obtain ⟨pre, ys, A', c', rfl, hc', hlx, hby, hsl, hseq, hJ⟩ := hrel
    have HQ := Lib.hid hseq
    have HBy := Lib.hid hby
    have HSl := Lib.hid hsl
    clear hseq hby hsl
    by_cases hne : ys = []
    · subst hne
      gi_wp2
      go_end0
      exact ⟨⟨_, rfl⟩, .inl ⟨pre, by rw [HQ.out, seq_nil]; simp, hJ⟩⟩
    · have hpos : 0 < ys.length := List.length_pos_iff.2 hne
      have HN := Lib.hid hne
      clear hne
      obtain ⟨x, s, hf⟩ : ∃ x s, first ys = (x, s) := ⟨_, _, rfl⟩
      have hfa := first_any A' c' ys n₀ wr HSl.out HBy.out hc' (by omega)
      rw [hf] at hfa
      dsimp only at hfa
      have HF := Lib.hid hf
      have HFA := Lib.hid hfa
      clear hf hfa
      by_cases hz : s = 0
      · subst hz
        have hsb := seq_bad HN.out HF.out
        have hpl : pre.length < (seq xs).length := by rw [HQ.out, hsb]; simp
        obtain ⟨fn, tmps, assign, body, hy, hR⟩ := HY.out pre (0, false) wr hJ hpl
        dsimp only [encs] at hy
        have HSB := Lib.hid hsb
        have HR := Lib.hid hR
        clear hsb hR
        gi_wp2_with (gi_at_call 122; (with_reducible refine (hC _ HFA.out).mono ?_); rintro e w' ⟨rfl, rfl⟩)
        refine HR.out.mono ?_
        rintro e W3 (⟨rfl, hJ3, hk3⟩ | ⟨rfl, hJx3⟩)
        · gi_wp2
          refine bodyPost_ret (results_none rfl _ _ _) rfl ?_
          exact ⟨⟨_, rfl⟩, .inl ⟨_, by rw [HQ.out, HSB.out], hJ3⟩⟩
        · gi_wp2
          refine bodyPost_ret (results_none rfl _ _ _) rfl ?_
          exact ⟨⟨_, rfl⟩, .inr ⟨_, by rw [HQ.out, HSB.out]; exact List.prefix_rfl, hJx3⟩⟩
      · have hsg := seq_good HBy.out HF.out hz
        obtain ⟨-, -, -, hsl, hs1, -⟩ := first_inv HBy.out HF.out hz
        have hpl : pre.length < (seq xs).length := by rw [HQ.out, hsg]; simp
        obtain ⟨fn, tmps, assign, body, hy, hR⟩ := HY.out pre (x, true) wr hJ hpl
        dsimp only [encs] at hy
        have HSG := Lib.hid hsg
        have HR := Lib.hid hR
        have HZ := Lib.hid hz
        clear hsg hR hz
        gi_wp2_with (gi_at_call 122; (with_reducible refine (hC _ HFA.out).mono ?_); rintro e w' ⟨rfl, rfl⟩)
        refine HR.out.mono ?_
        rintro e W3 (⟨rfl, hJ3, hk3⟩ | ⟨rfl, hJx3⟩)
        · have hdl : (ys.drop s).length = ys.length - s := List.length_drop
          have hs3 := (HSl.out.below hk3).cut (n := s) (c := c') hc'
          obtain ⟨A3, hA3⟩ : ∃ A3, (if c' = s then A' else A'.map fun x => x.add s) = A3 := ⟨_, rfl⟩
          rw [hA3] at hs3
          have HS3 := Lib.hid hs3
          have HDL := Lib.hid hdl
          clear hs3 hdl
          gi_wp2
          go_roundw
          case rel => exact ⟨pre ++ [(x, true)], ys.drop s, A3, c' - s, by rw [HDL.out], by rw [HDL.out]; omega, by rw [HDL.out]; omega, HBy.out.drop s, HS3.out, by rw [HQ.out, HSG.out]; simp, hJ3⟩
          case measure => simp [lenOf]; omega
        · gi_wp2
          refine bodyPost_ret (results_none rfl _ _ _) rfl ?_
          exact ⟨⟨_, rfl⟩, .inr ⟨pre ++ [(x, true)], ⟨seq (ys.drop s), by rw [HQ.out, HSG.out]; simp⟩, hJx3⟩⟩

theorem all_stops (F : Fence) (hfn : ∀ f, F.fn f) (hC : ∀ {f args W R} m, Calls Tryz.prog f args W R → CallsIn F m Tryz.prog f args W R) (n : Nat) (hro : F.round = none) (hn : 2 ≤ n) (Bn n₀ : Nat) (A : Option Addr) (c : Nat) (xs : List Int)
    (hc : xs.length ≤ c) (hl : xs.length ≤ 10000000000) (hb : Byt xs) (w : World) (hBn : Bn < w.heap.size) (hn₀ : n₀ ≤ w.heap.size) (hcell : w.cell? ⟨Bn, 0, none⟩ = some (.slice A xs.length c)) (hs : Sl .u8 w n₀ A xs) :
    SeqStopsK F n Tryz.prog 121 #[.pointer (some ⟨Bn, 0, none⟩)] encs (Below n₀) (fun ys => ys = seq xs) (fun pre => pre <+: seq xs) (seq xs).length w := fun l J Jx W hW _ _ hY h0 =>
  all1_in F hfn hC n hro hn l Bn n₀ A c xs hc hl hb J Jx hY W ((hW.cell (p := ⟨Bn, 0, none⟩) hBn).trans hcell) (hs.below (hW.mono hn₀)) h0

end Go.Proofs.YtfmmfaeognoleaaGreat.P
/-
  glazierlaw03.gone, at this seat's translation.
-/
namespace Go.Proofs.YtfmmfaeognoleaaGreat.P
open Go.RowKit Go.Shelf
attribute [local go_sem] Oper.semAt_some

def Bad (pre : List (Int × Bool)) : Prop := ∃ p y, pre = p ++ [y] ∧ (flag p = true ∨ (y.2 = false ∧ y.1 ≠ 0))

theorem flag_map (q : List Int) : flag (q.map fun n => (n, true)) = false := by simp [flag]
theorem nums_map (q : List Int) : nums (q.map fun n => (n, true)) = q := by simp [nums, List.filter_map, Function.comp_def]
theorem flag_prefix {p q : List (Int × Bool)} (h : p <+: q) (hq : flag q = false) : flag p = false := by
  obtain ⟨t, rfl⟩ := h
  simp [flag] at hq ⊢
  exact hq.1

theorem not_bad {xs : List Int} (hb : Byt xs) {pre : List (Int × Bool)} (h : pre <+: seq xs) : ¬ Bad pre := by
  obtain ⟨-, -, q, t, hq, ht⟩ := seq_len xs.length xs (Nat.le_refl _) hb
  rintro ⟨p, y, rfl, hy⟩
  have key : ∀ r : List (Int × Bool), (p ++ [y]) ++ r = q.map (fun n => (n, true)) → False := by
    intro r hr
    have h1 := flag_prefix (p := p) (q := (p ++ [y]) ++ r) ⟨[y] ++ r, by simp⟩ (by rw [hr]; exact flag_map q)
    rcases hy with hy | ⟨hy, _⟩
    · rw [h1] at hy; cases hy
    · have hm : y ∈ q.map (fun n => (n, true)) := by rw [← hr]; simp
      obtain ⟨a, _, rfl⟩ := List.mem_map.1 hm
      cases hy
  rw [hq] at h
  obtain ⟨r, hr⟩ := h
  rcases ht with rfl | rfl
  · rw [List.append_nil] at hr
    exact key r hr
  · rcases List.eq_nil_or_concat r with rfl | ⟨r', z, rfl⟩
    · rw [List.append_nil] at hr
      have h1 := List.append_inj_right' hr rfl
      have h2 := List.append_inj_left' hr rfl
      obtain rfl : y = (0, false) := by simpa using h1
      rcases hy with hy | ⟨_, hy⟩
      · rw [h2, flag_map] at hy; cases hy
      · exact hy rfl
    · rw [List.concat_eq_append, ← List.append_assoc] at hr
      exact key r' (List.append_inj_left' hr rfl)

theorem nums_prefix {p q : List (Int × Bool)} (h : p <+: q) : nums p = (nums q).take (nums p).length := by
  obtain ⟨t, rfl⟩ := h
  simp [nums]

theorem boxed_app {W w1 : World} {n₀ B Bo t : Nat} {u v : Value} {k : Nat} {ys : List Value} {T : Obj} (hb : Boxed W B t u) (hte : t ≠ 3) (hrow : W.ownsRow n₀ 3 1 v k ys) (hgrow : (W.alloc T).grownBy w1 v.ownBlock) (hne : B ≠ Bo) (v' : Value) :
    Boxed (w1.setCell ⟨Bo, 0, none⟩ v') B t u := ((hb.alloc T).kept hgrow (hb.not_row hte hrow)).other hne v'
theorem own_form {w : World} {base n : Nat} {t : TypeId} {v : Value} {xs : List Value} (h : w.ownsRow base t 1 v n xs) : ∃ A c, v = .slice A n c := by
  rcases h.2 with ⟨rfl, rfl⟩ | ⟨g, cap, cur, rfl, _⟩
  · exact ⟨_, _, rfl⟩
  · exact ⟨_, _, rfl⟩
theorem boxed_below {W W' : World} {n₀ B t : Nat} {u : Value} (hb : Boxed W B t u) (h : Below n₀ W W') (hlt : B < n₀) : Boxed W' B t u := (h.block B hlt).trans hb

/-- What gone answers. -/
def Gone (w : World) (xs : List Int) (most : Nat) (e : Ending) (w' : World) : Prop :=
  ∃ v f, e = .returned (.tuple #[v, .bool f, .bool true]) ∧ OwnS 3 .i64 w' w.heap.size v ((nums (seq xs)).take most) ∧ ((nums (seq xs)).length < most → f = flag (seq xs)) ∧ Below w.heap.size w w'

end Go.Proofs.YtfmmfaeognoleaaGreat.P
/-
  codec.numbers: all that bytes say.
-/
namespace Go.Proofs.YtfmmfaeognoleaaGreat.P
open Go.RowKit Go.Shelf
attribute [local go_sem] Oper.semAt_some

/-- What codec.numbers answers. -/
def Numb (w : World) (xs : List Int) (e : Ending) (w' : World) : Prop :=
  Below w.heap.size w w' ∧ ((flag (seq xs) = true ∧ e = .returned (.tuple #[.slice none 0 0, .bool false])) ∨ (flag (seq xs) = false ∧ ∃ v, e = .returned (.tuple #[v, .bool true]) ∧ OwnS 3 .i64 w' w.heap.size v (nums (seq xs))))
/-- The boxes of its variables, and what is gathered. -/
def Coll (w : World) (q : List (Int × Bool)) (W : World) : Prop :=
  (∃ v, Boxed W (w.heap.size + 1 + 1) 54 v ∧ W.ownsRow w.heap.size 3 1 v (nums q).length ((nums q).map (Value.int .i64)) ∧ True) ∧
  Boxed W w.heap.size 54 (.slice none 0 0) ∧ Boxed W (w.heap.size + 1) 4 (.bool false) ∧ Below w.heap.size w W
theorem coll_own (w : World) {Bo : Nat} (hB : w.heap.size ≤ Bo) : OwnFrom Bo (fun q W => Coll w q W) :=
  OwnFrom.and (Own.from (holdsRow_own _ _ 54 3 1 (fun q => (nums q).length) (fun q => (nums q).map (Value.int .i64)) (fun _ _ => True)) _)
    (OwnFrom.and (Own.from (boxed_own _ _ _) _) (OwnFrom.and (Own.from (boxed_own _ _ _) _) (ownFrom_below (Nat.le_refl _) hB)))
theorem flag_tail {p q : List (Int × Bool)} (h : p <+: q) (hp : flag p = true) : flag q = true := by
  cases e : flag q
  · rw [flag_prefix h e] at hp; cases hp
  · rfl
/-- The world behind its last stores, and what its boxes hold. -/
theorem nums_ends {w W : World} {D : Nat} {Av : Option Addr} {cv : Nat} {q : List (Int × Bool)} (hD : w.heap.size ≤ D)
    (hrw : W.ownsRow w.heap.size 3 1 (.slice Av (nums q).length cv) (nums q).length ((nums q).map (Value.int .i64))) (bR1 : Boxed W w.heap.size 54 (.slice none 0 0)) (bR2 : Boxed W (w.heap.size + 1) 4 (.bool false))
    (hB : Below w.heap.size w W) (hK : W.heap[D]? = some (.deferred (some []))) (f : Bool) :
    ∃ W', W' = ((W.setCell ⟨w.heap.size, 0, none⟩ (.slice Av (nums q).length cv)).setCell ⟨w.heap.size + 1, 0, none⟩ (.bool f)) ∧ W'.heap[D]? = some (.deferred (some [])) ∧
      (W'.putObj D (.deferred none)).cell? ⟨w.heap.size, 0, none⟩ = some (.slice Av (nums q).length cv) ∧ (W'.putObj D (.deferred none)).cell? ⟨w.heap.size + 1, 0, none⟩ = some (.bool f) ∧
      OwnS 3 .i64 (W'.putObj D (.deferred none)) w.heap.size (.slice Av (nums q).length cv) (nums q) ∧ Below w.heap.size w (W'.putObj D (.deferred none)) := by
  have hK' : ((W.setCell ⟨w.heap.size, 0, none⟩ (.slice Av (nums q).length cv)).setCell ⟨w.heap.size + 1, 0, none⟩ (.bool f)).heap[D]? = some (.deferred (some [])) :=
    ((KeepsOthers.setCell _ _ _).trans (KeepsOthers.setCell _ _ _)).same D _ hK rfl
  have q1 := (bR1.set (.slice Av (nums q).length cv)).other (B' := w.heap.size + 1) (by omega) (.bool f)
  have q2 := (bR2.other (B' := w.heap.size) (by omega) (.slice Av (nums q).length cv)).set (.bool f)
  have r1 := hrw.kept (grownBy_setCell' W w.heap.size (.slice Av (nums q).length cv)) (.inr (bR1.not_row (by decide) hrw).symm)
  have r2 := r1.kept (grownBy_setCell' _ (w.heap.size + 1) (.bool f)) (.inr ((bR2.other (B' := w.heap.size) (by omega) (.slice Av (nums q).length cv)).not_row (by decide) r1).symm)
  refine ⟨_, rfl, hK', ?_, ?_, ?_, ?_⟩
  · exact cell_kept (Boxed.cell q1) (grownBy_putObj' _ D (.deferred none)) (fun r e => by cases e; exact ⟨_, hK', rfl⟩)
  · exact cell_kept (Boxed.cell q2) (grownBy_putObj' _ D (.deferred none)) (fun r e => by cases e; exact ⟨_, hK', rfl⟩)
  · exact OwnS.less (ownsRow_putObj r2 _ hK' rfl) (by omega)
  · exact (((hB.setCell (p := ⟨w.heap.size, 0, none⟩) (Nat.le_refl _) _).setCell (p := ⟨w.heap.size + 1, 0, none⟩) (Nat.le_succ _) _)).trans (belowK_b (w := w) (Nat.le_refl _) _ D _ _ hD hK' rfl rfl)
set_option maxRecDepth 100000 in
set_option maxHeartbeats 4000000 in
theorem numbers_in (F : Fence) (hfn : ∀ f, F.fn f) (hC : ∀ {f args W R} m, Calls Tryz.prog f args W R → CallsIn F m Tryz.prog f args W R) (n : Nat) (hro : F.round = none) (hn : 6 ≤ n) (A : Option Addr) (c : Nat) (xs : List Int)
    (hc : xs.length ≤ c) (hl : xs.length ≤ 1000000) (hb : Byt xs) (w : World) (hs : Sl .u8 w w.heap.size A xs) :
    CallsIn F n Tryz.prog 52 #[.slice A xs.length c] w (Numb w xs) := by
  have h91 := hfn 91
  have h121 := hfn 121
  have h1 : 1 ≤ n := by omega
  have he := eql40
  obtain ⟨i0, hi, hz0, hz1, hz2⟩ := info_parts Tryz.info3
  have HI := Lib.hid hi
  have HZ := Lib.hid (And.intro hz0 (And.intro hz1 hz2))
  clear hi hz0 hz1 hz2
  have hN := (seq_len xs.length xs (Nat.le_refl _) hb).1
  have HS := Lib.hid hs
  have HBy := Lib.hid hb
  clear hs hb
  refine callsIn_of_wp_marks Tryz.func52 rfl (hfn 52) ?_ hro
  simp only [Tryz.ntmps52, List.size_toArray, List.length_cons, List.length_nil, Nat.reduceAdd, Nat.reduceSub, Array.replicate_succ, Array.replicate_zero, List.push_toArray, List.append_toArray, List.nil_append, List.cons_append]
  gi_wp2_with (gi_at_call 91; (with_reducible refine (hC _ (all_any _ _ _ _)).mono ?_); rintro e w' ⟨rfl, rfl⟩)
  clear he
  have b0 := Boxed.new w 54 (.slice none 0 0)
  replace b0 := (((b0.alloc (.cells #[.bool false] 4)).alloc (.cells #[.slice none 0 0] 54)).alloc (.cells #[.slice A xs.length c] 30))
  have b1 := Boxed.new (w.alloc (.cells #[.slice none 0 0] 54)) 4 (.bool false)
  simp only [World.size_alloc] at b1
  replace b1 := ((b1.alloc (.cells #[.slice none 0 0] 54)).alloc (.cells #[.slice A xs.length c] 30))
  have b2 := Boxed.new ((w.alloc (.cells #[.slice none 0 0] 54)).alloc (.cells #[.bool false] 4)) 54 (.slice none 0 0)
  simp only [World.size_alloc] at b2
  replace b2 := (b2.alloc (.cells #[.slice A xs.length c] 30))
  have b3 := Boxed.new (((w.alloc (.cells #[.slice none 0 0] 54)).alloc (.cells #[.bool false] 4)).alloc (.cells #[.slice none 0 0] 54)) 30 (.slice A xs.length c)
  simp only [World.size_alloc] at b3
  have hB0 : Below w.heap.size w ((((w.alloc (.cells #[.slice none 0 0] 54)).alloc (.cells #[.bool false] 4)).alloc (.cells #[.slice none 0 0] 54)).alloc (.cells #[.slice A xs.length c] 30)) := by
    repeat (first | exact Below.refl _ _ | refine Below.alloc ?_ (by simp <;> omega) _)
  have hsz : ((((w.alloc (.cells #[.slice none 0 0] 54)).alloc (.cells #[.bool false] 4)).alloc (.cells #[.slice none 0 0] 54)).alloc (.cells #[.slice A xs.length c] 30)).heap.size = w.heap.size + 4 := by simp
  obtain ⟨W0, hW0⟩ : ∃ W0, ((((w.alloc (.cells #[.slice none 0 0] 54)).alloc (.cells #[.bool false] 4)).alloc (.cells #[.slice none 0 0] 54)).alloc (.cells #[.slice A xs.length c] 30)) = W0 := ⟨_, rfl⟩
  rw [hW0] at b0 b1 b2 b3 hB0 hsz ⊢
  clear hW0
  refine wpIn_rangeFunc_ownG hro h1 (gf := 121) (lb := #[.pointer (some ⟨w.heap.size + 1 + 1 + 1, 0, none⟩)]) rfl h121 (enters_of Tryz.func121 (by kernel_rfl) rfl)
    (all_stops F hfn hC (n - 1) hro (by omega) (w.heap.size + 1 + 1 + 1) w.heap.size A c xs hc (by omega) HBy.out W0 (by omega) (by omega) b3.cell (HS.out.below hB0)) belowK_t (belowK_b (by omega)) (Below.refl _ _) (fun _ => rfl)
    (fun q W => flag q = false ∧ Coll w q W)
    (fun k q W => k = .ret ∧ flag q = true ∧ Boxed W w.heap.size 54 (.slice none 0 0) ∧ Boxed W (w.heap.size + 1) 4 (.bool false) ∧ Below w.heap.size w W)
    (OwnFrom.and (ownFrom_pure _ _) (coll_own w (by omega)))
    (fun k s X Y row hh hg hr => by
      obtain ⟨e1, e2, e3, e4, e5⟩ := hh
      exact ⟨e1, e2, Own.from (boxed_own w.heap.size 54 (fun _ : List (Int × Bool) => Value.slice none 0 0)) W0.heap.size s X Y row e3 hg hr, Own.from (boxed_own (w.heap.size + 1) 4 (fun _ : List (Int × Bool) => Value.bool false)) W0.heap.size s X Y row e4 hg hr, ownFrom_below (Nat.le_refl _) (by omega) s X Y row e5 hg hr⟩)
    ⟨rfl, ⟨_, b2, World.ownsRow_nil _ _ _ _, trivial⟩, b0, b1, hB0⟩
    (fun x => { tmps := #[.slice A xs.length c, undef, .pointer (some ⟨w.heap.size, 0, none⟩), .pointer (some ⟨w.heap.size + 1, 0, none⟩), .pointer (some ⟨w.heap.size + 1 + 1, 0, none⟩), .int .i64 x.1, .bool x.2, .slice A xs.length c, .func (.func 121) #[] #[.pointer (some ⟨w.heap.size + 1 + 1 + 1, 0, none⟩)], .int .i64 x.1, .bool x.2, undef, undef, undef, undef, undef, undef, undef], defers := [] }) ?assign ?body ?done ?stop
  case assign =>
    intro l x W K hK
    unfold encs
    gi_wp2
    exact hK
  case body =>
    rintro l pre ⟨m, ok⟩ W ⟨hf, ⟨v, bO, hrw, -⟩, bR1, bR2, hB⟩ hpl
    obtain ⟨Av, cv, rfl⟩ := own_form hrw
    have hnl := nums_le pre
    have cO := bO.cell
    have c1 := bR1.cell
    have f1 := bR1.frozen
    have c2 := bR2.cell
    have f2 := bR2.frozen
    have hBs := hB.size
    have hfew : (nums pre).length ≤ xs.length := by omega
    cases ok with
    | false =>
      have hKB := Lib.hid (And.intro bR1 (And.intro bR2 hB))
      clear hf hrw bR1 bR2 hB bO cO
      gi_wp2
      obtain ⟨bR1, bR2, hB⟩ := hKB.out
      refine ⟨((KeepsOthers.setCell _ _ _).trans (KeepsOthers.setCell _ _ _)).from _, rfl, flag_snoc_f _ _, (bR1.set _).other (by omega) _, (bR2.other (by omega) _).set _, (hB.setCell (p := ⟨w.heap.size, 0, none⟩) (Nat.le_refl _) _).setCell (p := ⟨w.heap.size + 1, 0, none⟩) (Nat.le_succ _) _⟩
    | true =>
      have hKB := Lib.hid (And.intro hf (And.intro hrw (And.intro bR1 (And.intro bR2 (And.intro hB bO)))))
      have hz : w.heap.size ≤ W.heap.size := hB.size
      gi_wp2_with (gi_at_builtin; refine wpListIn_append_own _ rfl _ _ 54 rfl w.heap.size 3 i0 (.int .i64 0) 1 8 Tryz.underlying54 HI.out HZ.out.1 HZ.out.2.1 HZ.out.2.2 rfl (by decide) _ _ _ rfl (hrw.alloc _) ⟨W.heap.size, 0, none⟩ 1 1 [.int .i64 m] rfl rfl (cell_one_new _ _ _) (by simp [Value.oneCell']) (by unfold maxLen; omega) (by omega) (by simp; omega) ?_; intro v' w1 hown' hgrow _; obtain ⟨g', cap', rfl⟩ := ownsRow_succ hown'; obtain ⟨hv1, hv2, hr2, hk2, hb2⟩ := bO.appended (by decide) hrw hz (by omega) hown' hgrow; have hc1 := hv1.cell; have hf1 := hv1.frozen; have hc2 := hv2.cell)
      exact ⟨hk2.from _, hb2.mono (by omega), by rw [flag_snoc_t]; exact hKB.out.1, ⟨_, hv2, by rw [nums_snoc_t]; simpa using hr2, trivial⟩, boxed_app bR1 (by decide) hrw hgrow (by omega) _, boxed_app bR2 (by decide) hrw hgrow (by omega) _, hB.trans hb2⟩
  case done =>
    rintro D q W hD hq ⟨hf, ⟨v, bO, hrw, -⟩, bR1, bR2, hB⟩ hK
    obtain ⟨Av, cv, rfl⟩ := own_form hrw
    have cO := bO.cell
    have c1 := bR1.cell
    have f1 := bR1.frozen
    have c2 := bR2.cell
    have f2 := bR2.frozen
    have HQ := Lib.hid hq
    clear hq
    gi_wp2
    obtain ⟨W', hW', hK', k1, k2, hO, hBB⟩ := nums_ends (w := w) (by omega) hrw bR1 bR2 hB hK true
    rw [← hW']
    refine ⟨by simp, .inl ⟨_, _, rfl, run_takeDeferred hK', ?_⟩⟩
    exact ⟨.tuple #[.slice Av (nums q).length cv, .bool true], by simp [results, Tryz.f52, go_sem, k1, k2], hBB, .inr ⟨by rw [← HQ.out]; exact hf, _, rfl, by rw [← HQ.out]; exact hO⟩⟩
  case stop =>
    rintro D k q W hD hpre ⟨rfl, hf, bR1, bR2, hB⟩ hK
    have c1 := bR1.cell
    have c2 := bR2.cell
    gi_wp2
    have k1 : (W.putObj D (.deferred none)).cell? ⟨w.heap.size, 0, none⟩ = some (.slice none 0 0) := cell_kept c1 (grownBy_putObj' _ D (.deferred none)) (fun r e => by cases e; exact ⟨_, hK, rfl⟩)
    have k2 : (W.putObj D (.deferred none)).cell? ⟨w.heap.size + 1, 0, none⟩ = some (.bool false) := cell_kept c2 (grownBy_putObj' _ D (.deferred none)) (fun r e => by cases e; exact ⟨_, hK, rfl⟩)
    refine ⟨by simp, .inl ⟨_, _, rfl, run_takeDeferred hK, ?_⟩⟩
    exact ⟨.tuple #[.slice none 0 0, .bool false], by simp [results, Tryz.f52, go_sem, k1, k2], hB.trans (belowK_b (w := w) (Nat.le_refl _) _ D _ _ (by omega) hK rfl rfl), .inl ⟨flag_tail hpre hf, rfl⟩⟩
/-- codec.numbers, whatever the bytes. -/
theorem numbers_any (A : Option Addr) (c : Nat) (xs : List Int) (hc : xs.length ≤ c) (hl : xs.length ≤ 1000000) (hb : Byt xs) (w : World) (hs : Sl .u8 w w.heap.size A xs) :
    Calls Tryz.prog 52 #[.slice A xs.length c] w (Numb w xs) :=
  (callsIn_wide (n := 6)).1 (numbers_in Fence.wide (fun _ => trivial) (fun _ h => callsIn_wide.2 h) 6 rfl (Nat.le_refl _) A c xs hc hl hb w hs)
end Go.Proofs.YtfmmfaeognoleaaGreat.P
/-
  codec.read, Take and Put.
-/
namespace Go.Proofs.YtfmmfaeognoleaaGreat
open Go.RowKit
attribute [local go_sem ↓] Go.wp_at_zero Go.wp_at_succ

section
variable {w a : World} {g B : Nat}
theorem sets_blk (x : Sc) {y : Sc} (h : w.heap[g]? = some (scB y)) : (((((((((((w.setCell ⟨g, 0, none⟩ (.int .i64 x.w))).setCell ⟨g, 1, none⟩ (.int .i64 x.h)).setCell ⟨g, 2, none⟩ (.int .u8 x.k.r)).setCell ⟨g, 3, none⟩ (.int .u8 x.k.g)).setCell ⟨g, 4, none⟩ (.int .u8 x.k.b)).setCell ⟨g, 5, none⟩ (.int .u8 x.k.a)).setCell ⟨g, 6, none⟩ (.slice x.vA x.vs.length x.vc)).setCell ⟨g, 7, none⟩ (.slice x.tA x.ts.length x.tc)).setCell ⟨g, 8, none⟩ (.slice x.pA x.ps.length x.pc)).setCell ⟨g, 9, none⟩ (.slice x.dA x.ds.length x.dc)).heap[g]? = some (scB x) := by
  unfold scB at h
  rw [heap_setCell_same _ _ _ _ _ _ (heap_setCell_same _ _ _ _ _ _ (heap_setCell_same _ _ _ _ _ _ (heap_setCell_same _ _ _ _ _ _ (heap_setCell_same _ _ _ _ _ _ (heap_setCell_same _ _ _ _ _ _ (heap_setCell_same _ _ _ _ _ _ (heap_setCell_same _ _ _ _ _ _ (heap_setCell_same _ _ _ _ _ _ (heap_setCell_same _ _ _ _ _ _ h)))))))))]
  simp [scB]
theorem sets_other (x : Sc) {k : Nat} (hk : k ≠ g) : (((((((((((w.setCell ⟨g, 0, none⟩ (.int .i64 x.w))).setCell ⟨g, 1, none⟩ (.int .i64 x.h)).setCell ⟨g, 2, none⟩ (.int .u8 x.k.r)).setCell ⟨g, 3, none⟩ (.int .u8 x.k.g)).setCell ⟨g, 4, none⟩ (.int .u8 x.k.b)).setCell ⟨g, 5, none⟩ (.int .u8 x.k.a)).setCell ⟨g, 6, none⟩ (.slice x.vA x.vs.length x.vc)).setCell ⟨g, 7, none⟩ (.slice x.tA x.ts.length x.tc)).setCell ⟨g, 8, none⟩ (.slice x.pA x.ps.length x.pc)).setCell ⟨g, 9, none⟩ (.slice x.dA x.ds.length x.dc)).heap[k]? = w.heap[k]? := by
  rw [heap_setCell_other _ _ _ _ hk, heap_setCell_other _ _ _ _ hk, heap_setCell_other _ _ _ _ hk, heap_setCell_other _ _ _ _ hk, heap_setCell_other _ _ _ _ hk, heap_setCell_other _ _ _ _ hk, heap_setCell_other _ _ _ _ hk, heap_setCell_other _ _ _ _ hk, heap_setCell_other _ _ _ _ hk, heap_setCell_other _ _ _ _ hk]
theorem sets_below (x : Sc) (h : Below B a w) (hg : B ≤ g) : Below B a (((((((((((w.setCell ⟨g, 0, none⟩ (.int .i64 x.w))).setCell ⟨g, 1, none⟩ (.int .i64 x.h)).setCell ⟨g, 2, none⟩ (.int .u8 x.k.r)).setCell ⟨g, 3, none⟩ (.int .u8 x.k.g)).setCell ⟨g, 4, none⟩ (.int .u8 x.k.b)).setCell ⟨g, 5, none⟩ (.int .u8 x.k.a)).setCell ⟨g, 6, none⟩ (.slice x.vA x.vs.length x.vc)).setCell ⟨g, 7, none⟩ (.slice x.tA x.ts.length x.tc)).setCell ⟨g, 8, none⟩ (.slice x.pA x.ps.length x.pc)).setCell ⟨g, 9, none⟩ (.slice x.dA x.ds.length x.dc)) :=
  (((((((((h.setCell hg _).setCell hg _).setCell hg _).setCell hg _).setCell hg _).setCell hg _).setCell hg _).setCell hg _).setCell hg _).setCell hg _
end
/-- What codec.read answers. -/
def ReadA (xs : List Int) (w : World) (e : Ending) (w' : World) : Prop :=
  ∃ (x : Sc) (ok : Bool), e = .returned (.tuple #[.agg #[.int .i64 x.w, .int .i64 x.h, .int .u8 x.k.r, .int .u8 x.k.g, .int .u8 x.k.b, .int .u8 x.k.a, .slice x.vA x.vs.length x.vc, .slice x.tA x.ts.length x.tc, .slice x.pA x.ps.length x.pc, .slice x.dA x.ds.length x.dc], .bool ok]) ∧ Below w.heap.size w w' ∧ ((readP xs = none ∧ ok = false) ∨ ∃ q, readP xs = some q ∧ ok = true ∧ x.p = q ∧ x.on w' (fun b => w.heap.size < b) ∧ x.cap)
def noS : Sc := flat0 0 0
theorem rd_new {w : World} {A : Option Addr} {c : Nat} {l : List Int} (hc : l.length ≤ c) (h : Es EN w w.heap.size A l) : Rd (w.alloc (.cells #[.slice A l.length c, .bool false] 101)) w.heap.size ⟨l, false⟩ :=
  ⟨A, c, heap_alloc_new _ _, hc, h.below (new_below w _)⟩
set_option maxRecDepth 100000 in
set_option maxHeartbeats 4000000 in
theorem read_any (A : Option Addr) (c : Nat) (xs : List Int) (hc : xs.length ≤ c) (hl : xs.length ≤ 65536) (hb : P.Byt xs) (w : World) (hs : P.Sl .u8 w w.heap.size A xs) :
    Calls Tryz.prog 18 #[.slice A xs.length c] w (ReadA xs w) := by
  have hB0 := new_below w (.cells #[.int .i64 0, .int .i64 0, .int .u8 0, .int .u8 0, .int .u8 0, .int .u8 0, .slice none 0 0, .slice none 0 0, .slice none 0 0, .slice none 0 0] 29)
  have HN := Lib.hid (P.numbers_any A c xs hc (by omega) hb (w.alloc (.cells #[.int .i64 0, .int .i64 0, .int .u8 0, .int .u8 0, .int .u8 0, .int .u8 0, .slice none 0 0, .slice none 0 0, .slice none 0 0, .slice none 0 0] 29)) ((hs.below hB0).more (by simp)))
  have HB0 := Lib.hid hB0
  have HG0 := Lib.hid (show (w.alloc (.cells #[.int .i64 0, .int .i64 0, .int .u8 0, .int .u8 0, .int .u8 0, .int .u8 0, .slice none 0 0, .slice none 0 0, .slice none 0 0, .slice none 0 0] 29)).heap[w.heap.size]? = some (scB noS) from heap_alloc_new _ _)
  have hlen := (P.seq_len _ xs (Nat.le_refl _) hb).1
  have hnl := P.nums_le (P.seq xs)
  have HQ := Lib.hid (show readP xs = if P.flag (P.seq xs) = true then none else scanP (P.nums (P.seq xs)) from rfl)
  have HL := Lib.hid (show (P.nums (P.seq xs)).length ≤ 65536 by omega)
  unfold P.Numb at HN
  generalize P.nums (P.seq xs) = l at *
  clear hs hB0 hlen hnl hb hc hl
  go_enter Tryz.func18, Tryz.ntmps18
  go_wp2_with fail
  with_reducible refine (HN.out).mono ?_
  rintro e w1 ⟨hb1, h1⟩
  have HB1 := Lib.hid (bstep HB0.out (by simp) hb1)
  have hs1 := hb1.size
  have hsz : w.heap.size < w1.heap.size := by simp at hs1; omega
  have hg1 := scB_keep HG0.out hb1 (scB_lt HG0.out)
  have HG1 := Lib.hid hg1
  clear hb1 HG0 HN hs1
  rcases h1 with ⟨hf, rfl⟩ | ⟨hf, v, rfl, ho⟩
  · have HN := Lib.hid (show readP xs = none by rw [HQ.out, if_pos hf])
    have f0 := scB_free hg1
    obtain ⟨c0, c1, c2, c3, c4, c5, c6, c7, c8, c9⟩ := scB_cell hg1
    have HS := Lib.hid (show (((((((((((w1.setCell ⟨w.heap.size, 0, none⟩ (.int .i64 noS.w))).setCell ⟨w.heap.size, 1, none⟩ (.int .i64 noS.h)).setCell ⟨w.heap.size, 2, none⟩ (.int .u8 noS.k.r)).setCell ⟨w.heap.size, 3, none⟩ (.int .u8 noS.k.g)).setCell ⟨w.heap.size, 4, none⟩ (.int .u8 noS.k.b)).setCell ⟨w.heap.size, 5, none⟩ (.int .u8 noS.k.a)).setCell ⟨w.heap.size, 6, none⟩ (.slice noS.vA noS.vs.length noS.vc)).setCell ⟨w.heap.size, 7, none⟩ (.slice noS.tA noS.ts.length noS.tc)).setCell ⟨w.heap.size, 8, none⟩ (.slice noS.pA noS.ps.length noS.pc)).setCell ⟨w.heap.size, 9, none⟩ (.slice noS.dA noS.ds.length noS.dc)).heap[w.heap.size]? = some (scB noS) from sets_blk noS HG1.out)
    have HB := Lib.hid (show Below w.heap.size w (((((((((((w1.setCell ⟨w.heap.size, 0, none⟩ (.int .i64 noS.w))).setCell ⟨w.heap.size, 1, none⟩ (.int .i64 noS.h)).setCell ⟨w.heap.size, 2, none⟩ (.int .u8 noS.k.r)).setCell ⟨w.heap.size, 3, none⟩ (.int .u8 noS.k.g)).setCell ⟨w.heap.size, 4, none⟩ (.int .u8 noS.k.b)).setCell ⟨w.heap.size, 5, none⟩ (.int .u8 noS.k.a)).setCell ⟨w.heap.size, 6, none⟩ (.slice noS.vA noS.vs.length noS.vc)).setCell ⟨w.heap.size, 7, none⟩ (.slice noS.tA noS.ts.length noS.tc)).setCell ⟨w.heap.size, 8, none⟩ (.slice noS.pA noS.ps.length noS.pc)).setCell ⟨w.heap.size, 9, none⟩ (.slice noS.dA noS.ds.length noS.dc)) from sets_below noS HB1.out (Nat.le_refl _))
    simp only [noS, flat0, zC, List.length_nil] at HS HB
    clear hf hg1 HQ HL
    go_wp2_with fail
    obtain ⟨W, hW⟩ : ∃ W, (((((((((w1.setCell ⟨w.heap.size, 0, none⟩ (.int .i64 0)).setCell ⟨w.heap.size, 1, none⟩ (.int .i64 0)).setCell ⟨w.heap.size, 2, none⟩ (.int .u8 0)).setCell ⟨w.heap.size, 3, none⟩ (.int .u8 0)).setCell ⟨w.heap.size, 4, none⟩ (.int .u8 0)).setCell ⟨w.heap.size, 5, none⟩ (.int .u8 0)).setCell ⟨w.heap.size, 6, none⟩ (.slice none 0 0)).setCell ⟨w.heap.size, 7, none⟩ (.slice none 0 0)).setCell ⟨w.heap.size, 8, none⟩ (.slice none 0 0)).setCell ⟨w.heap.size, 9, none⟩ (.slice none 0 0) = W := ⟨_, rfl⟩
    rw [hW] at HS HB
    rw [hW]
    have k := scB_cell HS.out
    refine bodyPost_ret (v := .tuple #[.agg #[.int .i64 0, .int .i64 0, .int .u8 0, .int .u8 0, .int .u8 0, .int .u8 0, .slice none 0 0, .slice none 0 0, .slice none 0 0, .slice none 0 0], .bool false]) (by simp [results, Tryz.results18, go_sem, k]) rfl ⟨noS, false, rfl, HB.out, .inl ⟨HN.out, rfl⟩⟩
  · obtain ⟨A1, c1, rfl, hc1, -, hsl⟩ := ho.sl
    have HQ2 := Lib.hid (show readP xs = scanP l by rw [HQ.out, if_neg (by rw [hf]; decide)])
    obtain ⟨q, t, hqt⟩ : ∃ q t, rS ⟨l, false⟩ = (q, t) := ⟨_, _, rfl⟩
    have HQ3 := Lib.hid (show scanP l = if t.bad = false ∧ t.l = [] then some q else none by unfold scanP; rw [hqt])
    have HR := Lib.hid (show Calls Tryz.prog 53 #[.pointer (some ⟨w1.heap.size, 0, none⟩)] (w1.alloc (.cells #[.slice A1 l.length c1, .bool false] 101)) (ReadsS w1.heap.size q t (w1.alloc (.cells #[.slice A1 l.length c1, .bool false] 101))) from by
      have h2 := rscene_any _ (rd_new hc1 (es_of_sl hsl)) (by show l.length ≤ 100000; have := HL.out; omega)
      rw [hqt] at h2
      exact h2)
    have HB2 := Lib.hid (bstep HB1.out (by omega) (new_below w1 (.cells #[.slice A1 l.length c1, .bool false] 101)))
    have HG2 := Lib.hid (scB_alloc (.cells #[.slice A1 l.length c1, .bool false] 101) HG1.out)
    unfold ReadsS at HR
    clear ho hsl hf hqt HQ HB1 hg1 HG1 HL hc1
    go_wp2_with fail
    with_reducible refine (HR.out).mono ?_
    rintro e w2 ⟨x, rfl, hx, hon, hcap, hr, hb⟩
    have hs2 := hb.size
    simp only [World.size_alloc] at hs2
    have HB3 := Lib.hid (HB2.out.trans (hb.b.mono (by omega)))
    have hg := (hb.b.block _ hsz).trans HG2.out
    have HO := Lib.hid (show x.on (w2.alloc (.cells #[.int .i64 x.w, .int .i64 x.h, .int .u8 x.k.r, .int .u8 x.k.g, .int .u8 x.k.b, .int .u8 x.k.a, .slice x.vA x.vs.length x.vc, .slice x.tA x.ts.length x.tc, .slice x.pA x.ps.length x.pc, .slice x.dA x.ds.length x.dc] 29)) (fun b => w.heap.size < b ∧ b < w2.heap.size) from (hon.imp fun b h1 h2 => ⟨by simp only [World.size_alloc] at h1; omega, h2⟩).keep fun b h1 h2 => (new_below w2 _).block b h2)
    have HX := Lib.hid (And.intro hx hcap)
    obtain ⟨Ar, cr, hrb, -, -⟩ := hr
    have HGR := Lib.hid (show (w2.alloc (.cells #[.int .i64 x.w, .int .i64 x.h, .int .u8 x.k.r, .int .u8 x.k.g, .int .u8 x.k.b, .int .u8 x.k.a, .slice x.vA x.vs.length x.vc, .slice x.tA x.ts.length x.tc, .slice x.pA x.ps.length x.pc, .slice x.dA x.ds.length x.dc] 29)).heap[w1.heap.size]? = some (rdB Ar t.l.length cr t.bad) from ((new_below w2 _).block _ (rdB_lt hrb)).trans hrb)
    have HGX := Lib.hid (show (w2.alloc (.cells #[.int .i64 x.w, .int .i64 x.h, .int .u8 x.k.r, .int .u8 x.k.g, .int .u8 x.k.b, .int .u8 x.k.a, .slice x.vA x.vs.length x.vc, .slice x.tA x.ts.length x.tc, .slice x.pA x.ps.length x.pc, .slice x.dA x.ds.length x.dc] 29)).heap[w2.heap.size]? = some (scB x) from heap_alloc_new _ _)
    have HG3 := Lib.hid (scB_alloc (.cells #[.int .i64 x.w, .int .i64 x.h, .int .u8 x.k.r, .int .u8 x.k.g, .int .u8 x.k.b, .int .u8 x.k.a, .slice x.vA x.vs.length x.vc, .slice x.tA x.ts.length x.tc, .slice x.pA x.ps.length x.pc, .slice x.dA x.ds.length x.dc] 29) hg)
    have HB4 := Lib.hid (bstep HB3.out (by omega) (new_below w2 (.cells #[.int .i64 x.w, .int .i64 x.h, .int .u8 x.k.r, .int .u8 x.k.g, .int .u8 x.k.b, .int .u8 x.k.a, .slice x.vA x.vs.length x.vc, .slice x.tA x.ts.length x.tc, .slice x.pA x.ps.length x.pc, .slice x.dA x.ds.length x.dc] 29)))
    clear hx hon hcap hb hg hrb HR HB2 HB3 HG2
    go_wp2_with fail
    obtain ⟨W, hW⟩ : ∃ W, w2.alloc (.cells #[.int .i64 x.w, .int .i64 x.h, .int .u8 x.k.r, .int .u8 x.k.g, .int .u8 x.k.b, .int .u8 x.k.a, .slice x.vA x.vs.length x.vc, .slice x.tA x.ts.length x.tc, .slice x.pA x.ps.length x.pc, .slice x.dA x.ds.length x.dc] 29) = W := ⟨_, rfl⟩
    rw [hW] at HO HGR HGX HG3 HB4
    rw [hW]
    have HGRd := Lib.hid (show W.drew.heap[w1.heap.size]? = some (rdB Ar t.l.length cr t.bad) from HGR.out)
    have HGXd := Lib.hid (show W.drew.heap[w2.heap.size]? = some (scB x) from HGX.out)
    have HG3d := Lib.hid (show W.drew.heap[w.heap.size]? = some (scB noS) from HG3.out)
    have HB4d := Lib.hid (HB4.out.drew)
    have HOd := Lib.hid (show x.on W.drew (fun b => w.heap.size < b ∧ b < w2.heap.size) from HO.out.keep fun b _ _ => rfl)
    clear HGR HGX HG3 HB4 HO hW
    obtain ⟨t0, ht0⟩ : ∃ t0, W.drew = t0 := ⟨_, rfl⟩
    rw [ht0] at HGRd HGXd HG3d HB4d HOd
    have HS := Lib.hid (sets_blk x HG3d.out)
    have HB := Lib.hid (sets_below x HB4d.out (Nat.le_refl _))
    have HO2 := Lib.hid (show x.on (((((((((((t0.setCell ⟨w.heap.size, 0, none⟩ (.int .i64 x.w))).setCell ⟨w.heap.size, 1, none⟩ (.int .i64 x.h)).setCell ⟨w.heap.size, 2, none⟩ (.int .u8 x.k.r)).setCell ⟨w.heap.size, 3, none⟩ (.int .u8 x.k.g)).setCell ⟨w.heap.size, 4, none⟩ (.int .u8 x.k.b)).setCell ⟨w.heap.size, 5, none⟩ (.int .u8 x.k.a)).setCell ⟨w.heap.size, 6, none⟩ (.slice x.vA x.vs.length x.vc)).setCell ⟨w.heap.size, 7, none⟩ (.slice x.tA x.ts.length x.tc)).setCell ⟨w.heap.size, 8, none⟩ (.slice x.pA x.ps.length x.pc)).setCell ⟨w.heap.size, 9, none⟩ (.slice x.dA x.ds.length x.dc)) (fun b => w.heap.size < b) from (HOd.out.imp fun b h1 _ => h1.1).keep fun b h1 _ => sets_other x (by omega))
    have HR2 := Lib.hid ((sets_other (g := w.heap.size) x (show w1.heap.size ≠ w.heap.size by omega)).trans HGRd.out)
    have HX2 := Lib.hid ((sets_other (g := w.heap.size) x (show w2.heap.size ≠ w.heap.size by omega)).trans HGXd.out)
    obtain ⟨bd, hbd⟩ : ∃ b, t.bad = b := ⟨_, rfl⟩
    obtain ⟨m, hm⟩ : ∃ m, t.l.length = m := ⟨_, rfl⟩
    rw [hbd, hm] at HGRd HR2
    have HT := Lib.hid (show readP xs = if bd = false ∧ m = 0 then some q else none by
      rw [HQ2.out, HQ3.out, hbd]
      have : t.l = [] ↔ m = 0 := by rw [← hm]; exact List.length_eq_zero_iff.symm
      simp only [this])
    have key : ∀ ok : Bool, ok = (!bd && decide (m = 0)) → ReadA xs w (Ending.returned (.tuple #[.agg #[.int .i64 x.w, .int .i64 x.h, .int .u8 x.k.r, .int .u8 x.k.g, .int .u8 x.k.b, .int .u8 x.k.a, .slice x.vA x.vs.length x.vc, .slice x.tA x.ts.length x.tc, .slice x.pA x.ps.length x.pc, .slice x.dA x.ds.length x.dc], .bool ok])) (((((((((((t0.setCell ⟨w.heap.size, 0, none⟩ (.int .i64 x.w))).setCell ⟨w.heap.size, 1, none⟩ (.int .i64 x.h)).setCell ⟨w.heap.size, 2, none⟩ (.int .u8 x.k.r)).setCell ⟨w.heap.size, 3, none⟩ (.int .u8 x.k.g)).setCell ⟨w.heap.size, 4, none⟩ (.int .u8 x.k.b)).setCell ⟨w.heap.size, 5, none⟩ (.int .u8 x.k.a)).setCell ⟨w.heap.size, 6, none⟩ (.slice x.vA x.vs.length x.vc)).setCell ⟨w.heap.size, 7, none⟩ (.slice x.tA x.ts.length x.tc)).setCell ⟨w.heap.size, 8, none⟩ (.slice x.pA x.ps.length x.pc)).setCell ⟨w.heap.size, 9, none⟩ (.slice x.dA x.ds.length x.dc)) := fun ok hk => by
      refine ⟨x, ok, rfl, HB.out, ?_⟩
      subst hk
      cases bd
      · by_cases h0 : m = 0
        · exact .inr ⟨q, by rw [HT.out, if_pos ⟨rfl, h0⟩], by simp [h0], HX.out.1, HO2.out, HX.out.2⟩
        · exact .inl ⟨by rw [HT.out, if_neg (fun h => h0 h.2)], by simp [h0]⟩
      · exact .inl ⟨by rw [HT.out, if_neg (fun h => by cases h.1)], rfl⟩
    have HK := Lib.hid key
    clear key hbd hm HX HB HO2 HT HQ2 HQ3 HB4d HOd
    cases bd
    · by_cases h0 : m = 0
      · subst h0
        refine wp_region_held_drew (S := fun w' => w'.heap[w1.heap.size]? = some (rdB Ar 0 cr false) ∧ w'.heap[w2.heap.size]? = some (scB x)) (by kernel_rfl) (by rw [ht0]; exact ⟨HGRd.out, HGXd.out⟩) (fun hS => ?_)
        rw [ht0] at hS ⊢
        clear ht0
        refine wpAnyH_take (i := 0) (v := .agg #[.int .i64 x.w, .int .i64 x.h, .int .u8 x.k.r, .int .u8 x.k.g, .int .u8 x.k.b, .int .u8 x.k.a, .slice x.vA x.vs.length x.vc, .slice x.tA x.ts.length x.tc, .slice x.pA x.ps.length x.pc, .slice x.dA x.ds.length x.dc]) rfl (by kernel_rfl) (by kernel_rfl) (by kernel_rfl) (fun _ _ _ h => h) (Or.inl ⟨by rfl, fun w' hw' => by obtain ⟨z0, z1, z2, z3, z4, z5, z6, z7, z8, z9⟩ := scB_cell hw'.2; have zz := scB_lt hw'.2; go_simp⟩) hS ?_
        try simp only [Act.put, List.setIfInBounds_toArray, List.set_cons_zero, List.set_cons_succ, List.getElem_toArray, List.getElem_cons_zero]
        refine wpAnyH_take (i := 1) (v := .pointer (some ⟨w1.heap.size, 0, none⟩)) rfl (by kernel_rfl) (by kernel_rfl) (by kernel_rfl) (fun _ _ _ h => h) (Or.inl ⟨by rfl, fun w' hw' => by go_simp⟩) hS ?_
        try simp only [Act.put, List.setIfInBounds_toArray, List.set_cons_zero, List.set_cons_succ, List.getElem_toArray, List.getElem_cons_zero, List.getElem_cons_succ]
        refine wpAnyH_take (i := 2) (v := .pointer (some ⟨w1.heap.size, 0, none⟩)) rfl (by kernel_rfl) (by kernel_rfl) (by kernel_rfl) (fun _ _ _ h => h) (Or.inl ⟨by rfl, fun w' hw' => by go_simp⟩) hS ?_
        try simp only [Act.put, List.setIfInBounds_toArray, List.set_cons_zero, List.set_cons_succ, List.getElem_toArray, List.getElem_cons_zero, List.getElem_cons_succ]
        refine wpAnyH_take (i := 3) (v := .pointer (some ⟨w1.heap.size, 1, none⟩)) rfl (by kernel_rfl) (by kernel_rfl) (by kernel_rfl) (fun _ _ _ h => h) (Or.inl ⟨by rfl, fun w' hw' => by go_simp⟩) hS ?_
        try simp only [Act.put, List.setIfInBounds_toArray, List.set_cons_zero, List.set_cons_succ, List.getElem_toArray, List.getElem_cons_zero, List.getElem_cons_succ]
        refine wpAnyH_take (i := 4) (v := .bool false) rfl (by kernel_rfl) (by kernel_rfl) (by kernel_rfl) (fun _ _ _ h => h) (Or.inl ⟨by rfl, fun w' hw' => by obtain ⟨z0, z1⟩ := rdB_cell hw'.1; have zz := rdB_lt hw'.1; go_simp⟩) hS ?_
        try simp only [Act.put, List.setIfInBounds_toArray, List.set_cons_zero, List.set_cons_succ, List.getElem_toArray, List.getElem_cons_zero, List.getElem_cons_succ]
        refine wpAnyH_take (i := 5) (v := .bool true) rfl (by kernel_rfl) (by kernel_rfl) (by kernel_rfl) (fun _ _ _ h => h) (Or.inl ⟨by rfl, fun w' hw' => by go_simp⟩) hS ?_
        try simp only [Act.put, List.setIfInBounds_toArray, List.set_cons_zero, List.set_cons_succ, List.getElem_toArray, List.getElem_cons_zero, List.getElem_cons_succ]
        refine wpAnyH_take (i := 6) (v := .bool true) rfl (by kernel_rfl) (by kernel_rfl) (by kernel_rfl) (fun _ _ _ h => h) (Or.inl ⟨by rfl, fun w' hw' => by go_simp⟩) hS ?_
        try simp only [Act.put, List.setIfInBounds_toArray, List.set_cons_zero, List.set_cons_succ, List.getElem_toArray, List.getElem_cons_zero, List.getElem_cons_succ]
        refine wpAnyH_take (i := 7) (v := .pointer (some ⟨w1.heap.size, 0, none⟩)) rfl (by kernel_rfl) (by kernel_rfl) (by kernel_rfl) (fun _ _ _ h => h) (Or.inl ⟨by rfl, fun w' hw' => by go_simp⟩) hS ?_
        try simp only [Act.put, List.setIfInBounds_toArray, List.set_cons_zero, List.set_cons_succ, List.getElem_toArray, List.getElem_cons_zero, List.getElem_cons_succ]
        refine wpAnyH_take (i := 8) (v := .pointer (some ⟨w1.heap.size, 0, none⟩)) rfl (by kernel_rfl) (by kernel_rfl) (by kernel_rfl) (fun _ _ _ h => h) (Or.inl ⟨by rfl, fun w' hw' => by go_simp⟩) hS ?_
        try simp only [Act.put, List.setIfInBounds_toArray, List.set_cons_zero, List.set_cons_succ, List.getElem_toArray, List.getElem_cons_zero, List.getElem_cons_succ]
        refine wpAnyH_take (i := 9) (v := .pointer (some ⟨w1.heap.size, 0, none⟩)) rfl (by kernel_rfl) (by kernel_rfl) (by kernel_rfl) (fun _ _ _ h => h) (Or.inl ⟨by rfl, fun w' hw' => by go_simp⟩) hS ?_
        try simp only [Act.put, List.setIfInBounds_toArray, List.set_cons_zero, List.set_cons_succ, List.getElem_toArray, List.getElem_cons_zero, List.getElem_cons_succ]
        refine wpAnyH_take (i := 10) (v := .slice Ar 0 cr) rfl (by kernel_rfl) (by kernel_rfl) (by kernel_rfl) (fun _ _ _ h => h) (Or.inl ⟨by rfl, fun w' hw' => by obtain ⟨z0, z1⟩ := rdB_cell hw'.1; have zz := rdB_lt hw'.1; go_simp⟩) hS ?_
        try simp only [Act.put, List.setIfInBounds_toArray, List.set_cons_zero, List.set_cons_succ, List.getElem_toArray, List.getElem_cons_zero, List.getElem_cons_succ]
        refine wpAnyH_take (i := 11) (v := .int .i64 0) rfl (by kernel_rfl) (by kernel_rfl) (by kernel_rfl) (fun _ _ _ h => h) (Or.inl ⟨by rfl, fun w' hw' => by go_simp⟩) hS ?_
        try simp only [Act.put, List.setIfInBounds_toArray, List.set_cons_zero, List.set_cons_succ, List.getElem_toArray, List.getElem_cons_zero, List.getElem_cons_succ]
        refine wpAnyH_take (i := 12) (v := .bool true) rfl (by kernel_rfl) (by kernel_rfl) (by kernel_rfl) (fun _ _ _ h => h) (Or.inl ⟨by rfl, fun w' hw' => by go_simp⟩) hS ?_
        try simp only [Act.put, List.setIfInBounds_toArray, List.set_cons_zero, List.set_cons_succ, List.getElem_toArray, List.getElem_cons_zero, List.getElem_cons_succ]
        refine wpAnyH_take (i := 13) (v := .bool true) rfl (by kernel_rfl) (by kernel_rfl) (by kernel_rfl) (fun _ _ _ h => h) (Or.inl ⟨by rfl, fun w' hw' => by go_simp⟩) hS ?_
        try simp only [Act.put, List.setIfInBounds_toArray, List.set_cons_zero, List.set_cons_succ, List.getElem_toArray, List.getElem_cons_zero, List.getElem_cons_succ]
        refine wpAnyH_ready (rs := [14]) (by kernel_rfl) (by simp) ?_
        refine AllReadyH.cons rfl (fun K hK => ?_) AllReadyH.nil
        have f0 := scB_free HG3d.out
        obtain ⟨g0, g1, g2, g3, g4, g5, g6, g7, g8, g9⟩ := scB_cell HG3d.out
        have gl := scB_lt HG3d.out
        go_simp
        refine hK.out _ _ ⟨HR2.out, HX2.out⟩ (fun hS => ?_)
        clear hK K f0 g0 g1 g2 g3 g4 g5 g6 g7 g8 g9
        try simp only [Act.put, List.setIfInBounds_toArray, List.set_cons_zero, List.set_cons_succ, List.getElem_toArray, List.getElem_cons_zero, List.getElem_cons_succ]
        refine wpAnyH_take (i := 15) (v := .bool true) rfl (by kernel_rfl) (by kernel_rfl) (by kernel_rfl) (fun _ _ _ h => h) (Or.inl ⟨by rfl, fun w' hw' => by go_simp⟩) hS ?_
        try simp only [Act.put, List.setIfInBounds_toArray, List.set_cons_zero, List.set_cons_succ, List.getElem_toArray, List.getElem_cons_zero, List.getElem_cons_succ]
        refine wpAnyH_done (by kernel_rfl) ?_ _
        have k := scB_cell HS.out
        obtain ⟨T, hT⟩ : ∃ T, ((((((((((t0.setCell ⟨w.heap.size, 0, none⟩ (.int .i64 x.w))).setCell ⟨w.heap.size, 1, none⟩ (.int .i64 x.h)).setCell ⟨w.heap.size, 2, none⟩ (.int .u8 x.k.r)).setCell ⟨w.heap.size, 3, none⟩ (.int .u8 x.k.g)).setCell ⟨w.heap.size, 4, none⟩ (.int .u8 x.k.b)).setCell ⟨w.heap.size, 5, none⟩ (.int .u8 x.k.a)).setCell ⟨w.heap.size, 6, none⟩ (.slice x.vA x.vs.length x.vc)).setCell ⟨w.heap.size, 7, none⟩ (.slice x.tA x.ts.length x.tc)).setCell ⟨w.heap.size, 8, none⟩ (.slice x.pA x.ps.length x.pc)).setCell ⟨w.heap.size, 9, none⟩ (.slice x.dA x.ds.length x.dc) = T := ⟨_, rfl⟩
        rw [hT] at k HK
        rw [hT]
        clear hT HS hS HR2 HX2
        go_wp2_with fail
        refine bodyPost_ret (v := .tuple #[.agg #[.int .i64 x.w, .int .i64 x.h, .int .u8 x.k.r, .int .u8 x.k.g, .int .u8 x.k.b, .int .u8 x.k.a, .slice x.vA x.vs.length x.vc, .slice x.tA x.ts.length x.tc, .slice x.pA x.ps.length x.pc, .slice x.dA x.ds.length x.dc], .bool true]) (by simp [results, Tryz.results18, go_sem, k]) rfl (HK.out true (by simp))
      · have h1 : (m == 0) = false := by simpa using h0
        have h2 : decide (m = 0) = false := by simp [h0]
        refine wp_region_held_drew (S := fun w' => w'.heap[w1.heap.size]? = some (rdB Ar m cr false) ∧ w'.heap[w2.heap.size]? = some (scB x)) (by kernel_rfl) (by rw [ht0]; exact ⟨HGRd.out, HGXd.out⟩) (fun hS => ?_)
        rw [ht0] at hS ⊢
        clear ht0
        refine wpAnyH_take (i := 0) (v := .agg #[.int .i64 x.w, .int .i64 x.h, .int .u8 x.k.r, .int .u8 x.k.g, .int .u8 x.k.b, .int .u8 x.k.a, .slice x.vA x.vs.length x.vc, .slice x.tA x.ts.length x.tc, .slice x.pA x.ps.length x.pc, .slice x.dA x.ds.length x.dc]) rfl (by kernel_rfl) (by kernel_rfl) (by kernel_rfl) (fun _ _ _ h => h) (Or.inl ⟨by rfl, fun w' hw' => by obtain ⟨z0, z1, z2, z3, z4, z5, z6, z7, z8, z9⟩ := scB_cell hw'.2; have zz := scB_lt hw'.2; go_simp⟩) hS ?_
        try simp only [Act.put, List.setIfInBounds_toArray, List.set_cons_zero, List.set_cons_succ, List.getElem_toArray, List.getElem_cons_zero]
        refine wpAnyH_take (i := 1) (v := .pointer (some ⟨w1.heap.size, 0, none⟩)) rfl (by kernel_rfl) (by kernel_rfl) (by kernel_rfl) (fun _ _ _ h => h) (Or.inl ⟨by rfl, fun w' hw' => by go_simp⟩) hS ?_
        try simp only [Act.put, List.setIfInBounds_toArray, List.set_cons_zero, List.set_cons_succ, List.getElem_toArray, List.getElem_cons_zero, List.getElem_cons_succ]
        refine wpAnyH_take (i := 2) (v := .pointer (some ⟨w1.heap.size, 0, none⟩)) rfl (by kernel_rfl) (by kernel_rfl) (by kernel_rfl) (fun _ _ _ h => h) (Or.inl ⟨by rfl, fun w' hw' => by go_simp⟩) hS ?_
        try simp only [Act.put, List.setIfInBounds_toArray, List.set_cons_zero, List.set_cons_succ, List.getElem_toArray, List.getElem_cons_zero, List.getElem_cons_succ]
        refine wpAnyH_take (i := 3) (v := .pointer (some ⟨w1.heap.size, 1, none⟩)) rfl (by kernel_rfl) (by kernel_rfl) (by kernel_rfl) (fun _ _ _ h => h) (Or.inl ⟨by rfl, fun w' hw' => by go_simp⟩) hS ?_
        try simp only [Act.put, List.setIfInBounds_toArray, List.set_cons_zero, List.set_cons_succ, List.getElem_toArray, List.getElem_cons_zero, List.getElem_cons_succ]
        refine wpAnyH_take (i := 4) (v := .bool false) rfl (by kernel_rfl) (by kernel_rfl) (by kernel_rfl) (fun _ _ _ h => h) (Or.inl ⟨by rfl, fun w' hw' => by obtain ⟨z0, z1⟩ := rdB_cell hw'.1; have zz := rdB_lt hw'.1; go_simp⟩) hS ?_
        try simp only [Act.put, List.setIfInBounds_toArray, List.set_cons_zero, List.set_cons_succ, List.getElem_toArray, List.getElem_cons_zero, List.getElem_cons_succ]
        refine wpAnyH_take (i := 5) (v := .bool true) rfl (by kernel_rfl) (by kernel_rfl) (by kernel_rfl) (fun _ _ _ h => h) (Or.inl ⟨by rfl, fun w' hw' => by go_simp⟩) hS ?_
        try simp only [Act.put, List.setIfInBounds_toArray, List.set_cons_zero, List.set_cons_succ, List.getElem_toArray, List.getElem_cons_zero, List.getElem_cons_succ]
        refine wpAnyH_take (i := 6) (v := .bool true) rfl (by kernel_rfl) (by kernel_rfl) (by kernel_rfl) (fun _ _ _ h => h) (Or.inl ⟨by rfl, fun w' hw' => by go_simp⟩) hS ?_
        try simp only [Act.put, List.setIfInBounds_toArray, List.set_cons_zero, List.set_cons_succ, List.getElem_toArray, List.getElem_cons_zero, List.getElem_cons_succ]
        refine wpAnyH_take (i := 7) (v := .pointer (some ⟨w1.heap.size, 0, none⟩)) rfl (by kernel_rfl) (by kernel_rfl) (by kernel_rfl) (fun _ _ _ h => h) (Or.inl ⟨by rfl, fun w' hw' => by go_simp⟩) hS ?_
        try simp only [Act.put, List.setIfInBounds_toArray, List.set_cons_zero, List.set_cons_succ, List.getElem_toArray, List.getElem_cons_zero, List.getElem_cons_succ]
        refine wpAnyH_take (i := 8) (v := .pointer (some ⟨w1.heap.size, 0, none⟩)) rfl (by kernel_rfl) (by kernel_rfl) (by kernel_rfl) (fun _ _ _ h => h) (Or.inl ⟨by rfl, fun w' hw' => by go_simp⟩) hS ?_
        try simp only [Act.put, List.setIfInBounds_toArray, List.set_cons_zero, List.set_cons_succ, List.getElem_toArray, List.getElem_cons_zero, List.getElem_cons_succ]
        refine wpAnyH_take (i := 9) (v := .pointer (some ⟨w1.heap.size, 0, none⟩)) rfl (by kernel_rfl) (by kernel_rfl) (by kernel_rfl) (fun _ _ _ h => h) (Or.inl ⟨by rfl, fun w' hw' => by go_simp⟩) hS ?_
        try simp only [Act.put, List.setIfInBounds_toArray, List.set_cons_zero, List.set_cons_succ, List.getElem_toArray, List.getElem_cons_zero, List.getElem_cons_succ]
        refine wpAnyH_take (i := 10) (v := .slice Ar m cr) rfl (by kernel_rfl) (by kernel_rfl) (by kernel_rfl) (fun _ _ _ h => h) (Or.inl ⟨by rfl, fun w' hw' => by obtain ⟨z0, z1⟩ := rdB_cell hw'.1; have zz := rdB_lt hw'.1; go_simp⟩) hS ?_
        try simp only [Act.put, List.setIfInBounds_toArray, List.set_cons_zero, List.set_cons_succ, List.getElem_toArray, List.getElem_cons_zero, List.getElem_cons_succ]
        refine wpAnyH_take (i := 11) (v := .int .i64 m) rfl (by kernel_rfl) (by kernel_rfl) (by kernel_rfl) (fun _ _ _ h => h) (Or.inl ⟨by rfl, fun w' hw' => by go_simp⟩) hS ?_
        try simp only [Act.put, List.setIfInBounds_toArray, List.set_cons_zero, List.set_cons_succ, List.getElem_toArray, List.getElem_cons_zero, List.getElem_cons_succ]
        refine wpAnyH_take (i := 12) (v := .bool false) rfl (by kernel_rfl) (by kernel_rfl) (by kernel_rfl) (fun _ _ _ h => h) (Or.inl ⟨by rfl, fun w' hw' => by go_simp⟩) hS ?_
        try simp only [Act.put, List.setIfInBounds_toArray, List.set_cons_zero, List.set_cons_succ, List.getElem_toArray, List.getElem_cons_zero, List.getElem_cons_succ]
        refine wpAnyH_take (i := 13) (v := .bool false) rfl (by kernel_rfl) (by kernel_rfl) (by kernel_rfl) (fun _ _ _ h => h) (Or.inl ⟨by rfl, fun w' hw' => by go_simp⟩) hS ?_
        try simp only [Act.put, List.setIfInBounds_toArray, List.set_cons_zero, List.set_cons_succ, List.getElem_toArray, List.getElem_cons_zero, List.getElem_cons_succ]
        refine wpAnyH_ready (rs := [14]) (by kernel_rfl) (by simp) ?_
        refine AllReadyH.cons rfl (fun K hK => ?_) AllReadyH.nil
        have f0 := scB_free HG3d.out
        obtain ⟨g0, g1, g2, g3, g4, g5, g6, g7, g8, g9⟩ := scB_cell HG3d.out
        have gl := scB_lt HG3d.out
        go_simp
        refine hK.out _ _ ⟨HR2.out, HX2.out⟩ (fun hS => ?_)
        clear hK K f0 g0 g1 g2 g3 g4 g5 g6 g7 g8 g9
        try simp only [Act.put, List.setIfInBounds_toArray, List.set_cons_zero, List.set_cons_succ, List.getElem_toArray, List.getElem_cons_zero, List.getElem_cons_succ]
        refine wpAnyH_take (i := 15) (v := .bool false) rfl (by kernel_rfl) (by kernel_rfl) (by kernel_rfl) (fun _ _ _ h => h) (Or.inl ⟨by rfl, fun w' hw' => by go_simp⟩) hS ?_
        try simp only [Act.put, List.setIfInBounds_toArray, List.set_cons_zero, List.set_cons_succ, List.getElem_toArray, List.getElem_cons_zero, List.getElem_cons_succ]
        refine wpAnyH_done (by kernel_rfl) ?_ _
        have k := scB_cell HS.out
        obtain ⟨T, hT⟩ : ∃ T, ((((((((((t0.setCell ⟨w.heap.size, 0, none⟩ (.int .i64 x.w))).setCell ⟨w.heap.size, 1, none⟩ (.int .i64 x.h)).setCell ⟨w.heap.size, 2, none⟩ (.int .u8 x.k.r)).setCell ⟨w.heap.size, 3, none⟩ (.int .u8 x.k.g)).setCell ⟨w.heap.size, 4, none⟩ (.int .u8 x.k.b)).setCell ⟨w.heap.size, 5, none⟩ (.int .u8 x.k.a)).setCell ⟨w.heap.size, 6, none⟩ (.slice x.vA x.vs.length x.vc)).setCell ⟨w.heap.size, 7, none⟩ (.slice x.tA x.ts.length x.tc)).setCell ⟨w.heap.size, 8, none⟩ (.slice x.pA x.ps.length x.pc)).setCell ⟨w.heap.size, 9, none⟩ (.slice x.dA x.ds.length x.dc) = T := ⟨_, rfl⟩
        rw [hT] at k HK
        rw [hT]
        clear hT HS hS HR2 HX2
        go_wp2_with fail
        refine bodyPost_ret (v := .tuple #[.agg #[.int .i64 x.w, .int .i64 x.h, .int .u8 x.k.r, .int .u8 x.k.g, .int .u8 x.k.b, .int .u8 x.k.a, .slice x.vA x.vs.length x.vc, .slice x.tA x.ts.length x.tc, .slice x.pA x.ps.length x.pc, .slice x.dA x.ds.length x.dc], .bool false]) (by simp [results, Tryz.results18, go_sem, k]) rfl (HK.out false (by simp [h2]))
    · skip
      refine wp_region_held_drew (S := fun w' => w'.heap[w1.heap.size]? = some (rdB Ar m cr true) ∧ w'.heap[w2.heap.size]? = some (scB x)) (by kernel_rfl) (by rw [ht0]; exact ⟨HGRd.out, HGXd.out⟩) (fun hS => ?_)
      rw [ht0] at hS ⊢
      clear ht0
      refine wpAnyH_take (i := 0) (v := .agg #[.int .i64 x.w, .int .i64 x.h, .int .u8 x.k.r, .int .u8 x.k.g, .int .u8 x.k.b, .int .u8 x.k.a, .slice x.vA x.vs.length x.vc, .slice x.tA x.ts.length x.tc, .slice x.pA x.ps.length x.pc, .slice x.dA x.ds.length x.dc]) rfl (by kernel_rfl) (by kernel_rfl) (by kernel_rfl) (fun _ _ _ h => h) (Or.inl ⟨by rfl, fun w' hw' => by obtain ⟨z0, z1, z2, z3, z4, z5, z6, z7, z8, z9⟩ := scB_cell hw'.2; have zz := scB_lt hw'.2; go_simp⟩) hS ?_
      try simp only [Act.put, List.setIfInBounds_toArray, List.set_cons_zero, List.set_cons_succ, List.getElem_toArray, List.getElem_cons_zero]
      refine wpAnyH_take (i := 1) (v := .pointer (some ⟨w1.heap.size, 0, none⟩)) rfl (by kernel_rfl) (by kernel_rfl) (by kernel_rfl) (fun _ _ _ h => h) (Or.inl ⟨by rfl, fun w' hw' => by go_simp⟩) hS ?_
      try simp only [Act.put, List.setIfInBounds_toArray, List.set_cons_zero, List.set_cons_succ, List.getElem_toArray, List.getElem_cons_zero, List.getElem_cons_succ]
      refine wpAnyH_take (i := 2) (v := .pointer (some ⟨w1.heap.size, 0, none⟩)) rfl (by kernel_rfl) (by kernel_rfl) (by kernel_rfl) (fun _ _ _ h => h) (Or.inl ⟨by rfl, fun w' hw' => by go_simp⟩) hS ?_
      try simp only [Act.put, List.setIfInBounds_toArray, List.set_cons_zero, List.set_cons_succ, List.getElem_toArray, List.getElem_cons_zero, List.getElem_cons_succ]
      refine wpAnyH_take (i := 3) (v := .pointer (some ⟨w1.heap.size, 1, none⟩)) rfl (by kernel_rfl) (by kernel_rfl) (by kernel_rfl) (fun _ _ _ h => h) (Or.inl ⟨by rfl, fun w' hw' => by go_simp⟩) hS ?_
      try simp only [Act.put, List.setIfInBounds_toArray, List.set_cons_zero, List.set_cons_succ, List.getElem_toArray, List.getElem_cons_zero, List.getElem_cons_succ]
      refine wpAnyH_take (i := 4) (v := .bool true) rfl (by kernel_rfl) (by kernel_rfl) (by kernel_rfl) (fun _ _ _ h => h) (Or.inl ⟨by rfl, fun w' hw' => by obtain ⟨z0, z1⟩ := rdB_cell hw'.1; have zz := rdB_lt hw'.1; go_simp⟩) hS ?_
      try simp only [Act.put, List.setIfInBounds_toArray, List.set_cons_zero, List.set_cons_succ, List.getElem_toArray, List.getElem_cons_zero, List.getElem_cons_succ]
      refine wpAnyH_take (i := 5) (v := .bool false) rfl (by kernel_rfl) (by kernel_rfl) (by kernel_rfl) (fun _ _ _ h => h) (Or.inl ⟨by rfl, fun w' hw' => by go_simp⟩) hS ?_
      try simp only [Act.put, List.setIfInBounds_toArray, List.set_cons_zero, List.set_cons_succ, List.getElem_toArray, List.getElem_cons_zero, List.getElem_cons_succ]
      refine wpAnyH_take (i := 6) (v := .bool false) rfl (by kernel_rfl) (by kernel_rfl) (by kernel_rfl) (fun _ _ _ h => h) (Or.inl ⟨by rfl, fun w' hw' => by go_simp⟩) hS ?_
      try simp only [Act.put, List.setIfInBounds_toArray, List.set_cons_zero, List.set_cons_succ, List.getElem_toArray, List.getElem_cons_zero, List.getElem_cons_succ]
      refine wpAnyH_take (i := 7) (v := undef) rfl (by kernel_rfl) (by kernel_rfl) (by kernel_rfl) (fun _ _ _ h => h) (Or.inr ⟨by rfl, rfl⟩) hS ?_
      try simp only [Act.put, List.setIfInBounds_toArray, List.set_cons_zero, List.set_cons_succ, List.getElem_toArray, List.getElem_cons_zero, List.getElem_cons_succ]
      refine wpAnyH_take (i := 8) (v := undef) rfl (by kernel_rfl) (by kernel_rfl) (by kernel_rfl) (fun _ _ _ h => h) (Or.inr ⟨by rfl, rfl⟩) hS ?_
      try simp only [Act.put, List.setIfInBounds_toArray, List.set_cons_zero, List.set_cons_succ, List.getElem_toArray, List.getElem_cons_zero, List.getElem_cons_succ]
      refine wpAnyH_take (i := 9) (v := undef) rfl (by kernel_rfl) (by kernel_rfl) (by kernel_rfl) (fun _ _ _ h => h) (Or.inr ⟨by rfl, rfl⟩) hS ?_
      try simp only [Act.put, List.setIfInBounds_toArray, List.set_cons_zero, List.set_cons_succ, List.getElem_toArray, List.getElem_cons_zero, List.getElem_cons_succ]
      refine wpAnyH_take (i := 10) (v := undef) rfl (by kernel_rfl) (by kernel_rfl) (by kernel_rfl) (fun _ _ _ h => h) (Or.inr ⟨by rfl, rfl⟩) hS ?_
      try simp only [Act.put, List.setIfInBounds_toArray, List.set_cons_zero, List.set_cons_succ, List.getElem_toArray, List.getElem_cons_zero, List.getElem_cons_succ]
      refine wpAnyH_take (i := 11) (v := undef) rfl (by kernel_rfl) (by kernel_rfl) (by kernel_rfl) (fun _ _ _ h => h) (Or.inr ⟨by rfl, rfl⟩) hS ?_
      try simp only [Act.put, List.setIfInBounds_toArray, List.set_cons_zero, List.set_cons_succ, List.getElem_toArray, List.getElem_cons_zero, List.getElem_cons_succ]
      refine wpAnyH_take (i := 12) (v := undef) rfl (by kernel_rfl) (by kernel_rfl) (by kernel_rfl) (fun _ _ _ h => h) (Or.inr ⟨by rfl, rfl⟩) hS ?_
      try simp only [Act.put, List.setIfInBounds_toArray, List.set_cons_zero, List.set_cons_succ, List.getElem_toArray, List.getElem_cons_zero, List.getElem_cons_succ]
      refine wpAnyH_take (i := 13) (v := .bool false) rfl (by kernel_rfl) (by kernel_rfl) (by kernel_rfl) (fun _ _ _ h => h) (Or.inl ⟨by rfl, fun w' hw' => by go_simp⟩) hS ?_
      try simp only [Act.put, List.setIfInBounds_toArray, List.set_cons_zero, List.set_cons_succ, List.getElem_toArray, List.getElem_cons_zero, List.getElem_cons_succ]
      refine wpAnyH_ready (rs := [14]) (by kernel_rfl) (by simp) ?_
      refine AllReadyH.cons rfl (fun K hK => ?_) AllReadyH.nil
      have f0 := scB_free HG3d.out
      obtain ⟨g0, g1, g2, g3, g4, g5, g6, g7, g8, g9⟩ := scB_cell HG3d.out
      have gl := scB_lt HG3d.out
      go_simp
      refine hK.out _ _ ⟨HR2.out, HX2.out⟩ (fun hS => ?_)
      clear hK K f0 g0 g1 g2 g3 g4 g5 g6 g7 g8 g9
      try simp only [Act.put, List.setIfInBounds_toArray, List.set_cons_zero, List.set_cons_succ, List.getElem_toArray, List.getElem_cons_zero, List.getElem_cons_succ]
      refine wpAnyH_take (i := 15) (v := .bool false) rfl (by kernel_rfl) (by kernel_rfl) (by kernel_rfl) (fun _ _ _ h => h) (Or.inl ⟨by rfl, fun w' hw' => by go_simp⟩) hS ?_
      try simp only [Act.put, List.setIfInBounds_toArray, List.set_cons_zero, List.set_cons_succ, List.getElem_toArray, List.getElem_cons_zero, List.getElem_cons_succ]
      refine wpAnyH_done (by kernel_rfl) ?_ _
      have k := scB_cell HS.out
      obtain ⟨T, hT⟩ : ∃ T, ((((((((((t0.setCell ⟨w.heap.size, 0, none⟩ (.int .i64 x.w))).setCell ⟨w.heap.size, 1, none⟩ (.int .i64 x.h)).setCell ⟨w.heap.size, 2, none⟩ (.int .u8 x.k.r)).setCell ⟨w.heap.size, 3, none⟩ (.int .u8 x.k.g)).setCell ⟨w.heap.size, 4, none⟩ (.int .u8 x.k.b)).setCell ⟨w.heap.size, 5, none⟩ (.int .u8 x.k.a)).setCell ⟨w.heap.size, 6, none⟩ (.slice x.vA x.vs.length x.vc)).setCell ⟨w.heap.size, 7, none⟩ (.slice x.tA x.ts.length x.tc)).setCell ⟨w.heap.size, 8, none⟩ (.slice x.pA x.ps.length x.pc)).setCell ⟨w.heap.size, 9, none⟩ (.slice x.dA x.ds.length x.dc) = T := ⟨_, rfl⟩
      rw [hT] at k HK
      rw [hT]
      clear hT HS hS HR2 HX2
      go_wp2_with fail
      refine bodyPost_ret (v := .tuple #[.agg #[.int .i64 x.w, .int .i64 x.h, .int .u8 x.k.r, .int .u8 x.k.g, .int .u8 x.k.b, .int .u8 x.k.a, .slice x.vA x.vs.length x.vc, .slice x.tA x.ts.length x.tc, .slice x.pA x.ps.length x.pc, .slice x.dA x.ds.length x.dc], .bool false]) (by simp [results, Tryz.results18, go_sem, k]) rfl (HK.out false (by simp))
end Go.Proofs.YtfmmfaeognoleaaGreat
