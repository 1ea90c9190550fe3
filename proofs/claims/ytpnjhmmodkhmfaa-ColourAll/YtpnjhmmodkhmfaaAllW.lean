/-
  The walk of glazierlaw02.ColourAll.
-/
import Derived.Test.YtpnjhmmodkhmfaaRef2
namespace Go.Proofs.Ytpnjhmmodkhmfaa
open Go.RowKit
attribute [local go_sem ↓] Go.wp_at_zero Go.wp_at_succ

/-- A block that holds two colours. -/
def twoB (a b : Col) : Obj := .cells #[.int .u8 a.r, .int .u8 a.g, .int .u8 a.b, .int .u8 a.a, .int .u8 b.r, .int .u8 b.g, .int .u8 b.b, .int .u8 b.a] 24 (0, 0)
def TwoAt (w : World) (g : Nat) (a b : Col) : Prop := w.cell? ⟨g, 0, none⟩ = some (.int .u8 a.r) ∧ w.cell? ⟨g, 1, none⟩ = some (.int .u8 a.g) ∧ w.cell? ⟨g, 2, none⟩ = some (.int .u8 a.b) ∧ w.cell? ⟨g, 3, none⟩ = some (.int .u8 a.a) ∧ w.cell? ⟨g, 4, none⟩ = some (.int .u8 b.r) ∧ w.cell? ⟨g, 5, none⟩ = some (.int .u8 b.g) ∧ w.cell? ⟨g, 6, none⟩ = some (.int .u8 b.b) ∧ w.cell? ⟨g, 7, none⟩ = some (.int .u8 b.a)
theorem twoB_at {w : World} {g : Nat} {a b : Col} (h : w.heap[g]? = some (twoB a b)) : TwoAt w g a b := by
  unfold twoB at h
  unfold TwoAt
  exact ⟨Joins.cell_of_block h 0, Joins.cell_of_block h 1, Joins.cell_of_block h 2, Joins.cell_of_block h 3, Joins.cell_of_block h 4, Joins.cell_of_block h 5, Joins.cell_of_block h 6, Joins.cell_of_block h 7⟩

theorem four_store {w : World} {g : Nat} {x0 x1 x2 x3 : Col} (c : Col) (k : Nat) (hk : k < 4) (h : w.heap[g]? = some (fourB x0 x1 x2 x3)) (o0 : x0.ok) (o1 : x1.ok) (o2 : x2.ok) (o3 : x3.ok) (oc : c.ok) :
    ∃ y0 y1 y2 y3 : Col, y0.ok ∧ y1.ok ∧ y2.ok ∧ y3.ok ∧
      ((((w.setCell ⟨g, k * 4, none⟩ (.int .u8 c.r)).setCell ⟨g, k * 4 + 1, none⟩ (.int .u8 c.g)).setCell ⟨g, k * 4 + 2, none⟩ (.int .u8 c.b)).setCell ⟨g, k * 4 + 3, none⟩ (.int .u8 c.a)).heap[g]? = some (fourB y0 y1 y2 y3) := by
  have s := fourB_set c h
  match k, hk with
  | 0, _ => exact ⟨c, x1, x2, x3, oc, o1, o2, o3, s.1⟩
  | 1, _ => exact ⟨x0, c, x2, x3, o0, oc, o2, o3, s.2.1⟩
  | 2, _ => exact ⟨x0, x1, c, x3, o0, o1, oc, o3, s.2.2.1⟩
  | 3, _ => exact ⟨x0, x1, x2, c, o0, o1, o2, oc, s.2.2.2⟩
theorem four_has {w : World} {g : Nat} {x0 x1 x2 x3 : Col} (k : Nat) (hk : k < 4) (h : w.heap[g]? = some (fourB x0 x1 x2 x3)) :
    (∃ v, w.cell? ⟨g, k * 4, none⟩ = some v) ∧ (∃ v, w.cell? ⟨g, k * 4 + 1, none⟩ = some v) ∧ (∃ v, w.cell? ⟨g, k * 4 + 2, none⟩ = some v) ∧ ∃ v, w.cell? ⟨g, k * 4 + 3, none⟩ = some v := by
  have s := fourB_at h
  unfold FourAt at s
  obtain ⟨e0, e1, e2, e3, e4, e5, e6, e7, e8, e9, e10, e11, e12, e13, e14, e15⟩ := s
  match k, hk with
  | 0, _ => exact ⟨⟨_, e0⟩, ⟨_, e1⟩, ⟨_, e2⟩, ⟨_, e3⟩⟩
  | 1, _ => exact ⟨⟨_, e4⟩, ⟨_, e5⟩, ⟨_, e6⟩, ⟨_, e7⟩⟩
  | 2, _ => exact ⟨⟨_, e8⟩, ⟨_, e9⟩, ⟨_, e10⟩, ⟨_, e11⟩⟩
  | 3, _ => exact ⟨⟨_, e12⟩, ⟨_, e13⟩, ⟨_, e14⟩, ⟨_, e15⟩⟩

set_option maxRecDepth 100000 in
set_option maxHeartbeats 8000000 in
theorem colourAll_short (a b : Col) (L : List Col) (ad : Option Addr) (n cap : Nat) (t : Int) (w : World) (ha : a.ok) (hb : b.ok) (hl : ∀ x ∈ L, x.ok) (h40 : L.length ≤ 4) (hr : Row w ad L)
    (F : ∀ W, Calls Try.prog 10 #[.slice ad n cap] W fun e w' => e = .returned (.slice ad L.length cap) ∧ W = w') :
    Calls Try.prog 3 #[.agg #[.int .u8 a.r, .int .u8 a.g, .int .u8 a.b, .int .u8 a.a, .int .u8 b.r, .int .u8 b.g, .int .u8 b.b, .int .u8 b.a], .slice ad n cap, .int .i64 t] w fun e w' => e = .returned (.bool true) ∧ Below w.heap.size w w' := by
  have HF := Lib.hid F
  have HR := Lib.hid hr
  have HL := Lib.hid hl
  clear F hr hl
  go_enter Try.func3, Try.ntmps3
  go_wp2_with fail
  refine (shown_any _).mono ?_
  rintro e w1 ⟨rfl, hb1⟩
  have n1 : w1.heap[w.heap.size]? = some (twoB a b) := by rw [hb1.block _ (by simp)]; exact heap_alloc_new _ _
  have z1 : w.heap.size < w1.heap.size := World.block_lt_of_cell? _ _ (twoB_at n1).1
  have HB1 := Lib.hid (((Below.refl w.heap.size w).alloc (Nat.le_refl _) _).trans (hb1.mono (by simp)))
  obtain ⟨e0, e1, e2, e3, e4, e5, e6, e7⟩ := twoB_at n1
  have HN1 := Lib.hid n1
  clear hb1 n1
  go_wp2_with (go_at_call 10; refine (HF.out _).mono ?_; rintro e w' ⟨rfl, rfl⟩)
  go_loopw [9] (fun i wr => ∃ (k : Nat) (x0 x1 x2 x3 : Col), k ≤ L.length ∧ k ≤ 4 ∧ i = .int .i64 k ∧ x0.ok ∧ x1.ok ∧ x2.ok ∧ x3.ok ∧ Below w.heap.size w wr ∧ wr.heap[w.heap.size]? = some (twoB a b) ∧ wr.heap[w1.heap.size]? = some (fourB x0 x1 x2 x3))
    (fun i _ => L.length - (intOf i).toNat)
  case atStart => exact ⟨0, a, b, b, a, Nat.zero_le _, Nat.zero_le _, rfl, ha, hb, hb, ha, HB1.out.alloc HB1.out.size _, (Below.heap_alloc _ _ _ z1).trans HN1.out, heap_alloc_new _ _⟩
  case round =>
    clear e0 e1 e2 e3 e4 e5 e6 e7
    obtain ⟨k, x0, x1, x2, x3, hk, hk4, rfl, o0, o1, o2, o3, hbel, hnn, hfour⟩ := hrel
    by_cases hlt : k < L.length
    · by_cases h4 : k < 4
      · obtain ⟨bb, off, rfl, hcol⟩ : ∃ bb off, ad = some ⟨bb, off, none⟩ ∧ ColsAt w bb off L := by
          rcases HR.out with h | h
          · rw [h] at hlt; simp at hlt
          · exact h
        obtain ⟨e0, e1, e2, e3⟩ := (hcol.grow hbel) k hlt
        obtain ⟨⟨u0, f0⟩, ⟨u1, f1⟩, ⟨u2, f2⟩, ⟨u3, f3⟩⟩ := four_has k h4 hfour
        have r0 := fourB_free hfour (k * 4)
        have r1 := fourB_free hfour (k * 4 + 1)
        have r2 := fourB_free hfour (k * 4 + 2)
        have r3 := fourB_free hfour (k * 4 + 3)
        have q1 : (0 : Int) ≤ (k : Int) := by omega
        have q2 : (k : Int) < (L.length : Int) := by omega
        have q3 : (k : Int) < 4 := by omega
        have HX := Lib.hid (HL.out _ (List.getElem_mem hlt))
        have HBE := Lib.hid hbel
        have HN := Lib.hid hnn
        have HP := Lib.hid hfour
        have HC := Lib.hid hcol
        clear hbel hnn hfour hcol
        go_wp2
        go_roundw
        case rel =>
          obtain ⟨y0, y1, y2, y3, p0, p1, p2, p3, hy⟩ := four_store L[k] k h4 HP.out o0 o1 o2 o3 HX.out
          refine ⟨k + 1, y0, y1, y2, y3, by omega, by omega, by go_num, p0, p1, p2, p3, (((HBE.out.setCell (by simp; omega) _).setCell (by simp; omega) _).setCell (by simp; omega) _).setCell (by simp; omega) _, ?_, hy⟩
          rw [heap_setCell_other _ _ _ _ (by simp; omega), heap_setCell_other _ _ _ _ (by simp; omega), heap_setCell_other _ _ _ _ (by simp; omega), heap_setCell_other _ _ _ _ (by simp; omega)]
          exact HN.out
        case measure => simp [intOf]; omega
      · omega
    · have q2 : ¬ (k : Int) < (L.length : Int) := by omega
      have HBE := Lib.hid hbel
      have HN := Lib.hid hnn
      have HP := Lib.hid hfour
      clear hbel hnn hfour
      go_wp2_with fail
      have ne := Grow.ne wr
      have ga0 : ∀ x : Grow wr, x.w.cell? ⟨w.heap.size, 0, none⟩ = some (.int .u8 a.r) := fun x => x.cell ((twoB_at HN.out).1)
      have ga1 : ∀ x : Grow wr, x.w.cell? ⟨w.heap.size, 1, none⟩ = some (.int .u8 a.g) := fun x => x.cell ((twoB_at HN.out).2.1)
      have ga2 : ∀ x : Grow wr, x.w.cell? ⟨w.heap.size, 2, none⟩ = some (.int .u8 a.b) := fun x => x.cell ((twoB_at HN.out).2.2.1)
      have ga3 : ∀ x : Grow wr, x.w.cell? ⟨w.heap.size, 3, none⟩ = some (.int .u8 a.a) := fun x => x.cell ((twoB_at HN.out).2.2.2.1)
      have ga4 : ∀ x : Grow wr, x.w.cell? ⟨w.heap.size, 4, none⟩ = some (.int .u8 b.r) := fun x => x.cell ((twoB_at HN.out).2.2.2.2.1)
      have ga5 : ∀ x : Grow wr, x.w.cell? ⟨w.heap.size, 5, none⟩ = some (.int .u8 b.g) := fun x => x.cell ((twoB_at HN.out).2.2.2.2.2.1)
      have ga6 : ∀ x : Grow wr, x.w.cell? ⟨w.heap.size, 6, none⟩ = some (.int .u8 b.b) := fun x => x.cell ((twoB_at HN.out).2.2.2.2.2.2.1)
      have ga7 : ∀ x : Grow wr, x.w.cell? ⟨w.heap.size, 7, none⟩ = some (.int .u8 b.a) := fun x => x.cell ((twoB_at HN.out).2.2.2.2.2.2.2)
      have S1 := Lib.hid (show ∀ y : Grow wr, Calls Try.prog 11 #[.agg #[.int .u8 a.r, .int .u8 a.g, .int .u8 a.b, .int .u8 a.a]] y.w fun e w' => e = .returned (.bool (rightB a)) ∧ Below y.w.heap.size y.w w' from fun y => right_any a y.w)
      have S2 := Lib.hid (show ∀ y : Grow wr, Calls Try.prog 12 #[.agg #[.int .u8 a.r, .int .u8 a.g, .int .u8 a.b, .int .u8 a.a]] y.w fun e w' => e = .returned (.bool (rightB a)) ∧ Below y.w.heap.size y.w w' from fun y => rright_any a y.w)
      have S3 := Lib.hid (show ∀ y : Grow wr, Calls Try.prog 13 #[.agg #[.int .u8 a.r, .int .u8 a.g, .int .u8 a.b, .int .u8 a.a]] y.w fun e w' => e = .returned (.agg #[.int .u8 (pre a).r, .int .u8 (pre a).g, .int .u8 (pre a).b, .int .u8 (pre a).a]) ∧ Below y.w.heap.size y.w w' from fun y => pre_col a y.w ha)
      have S4 := Lib.hid (show ∀ y : Grow wr, Calls Try.prog 14 #[.agg #[.int .u8 a.r, .int .u8 a.g, .int .u8 a.b, .int .u8 a.a]] y.w fun e w' => e = .returned (.agg #[.int .u8 (pre a).r, .int .u8 (pre a).g, .int .u8 (pre a).b, .int .u8 (pre a).a]) ∧ Below y.w.heap.size y.w w' from fun y => rpre_col a y.w ha)
      have S5 := Lib.hid (show ∀ y : Grow wr, Calls Try.prog 15 #[.agg #[.int .u8 a.r, .int .u8 a.g, .int .u8 a.b, .int .u8 a.a], .agg #[.int .u8 b.r, .int .u8 b.g, .int .u8 b.b, .int .u8 b.a]] y.w fun e w' => e = .returned (.agg #[.int .u8 (over a b).r, .int .u8 (over a b).g, .int .u8 (over a b).b, .int .u8 (over a b).a]) ∧ Below y.w.heap.size y.w w' from fun y => over_col a b y.w ha hb)
      have S6 := Lib.hid (show ∀ y : Grow wr, Calls Try.prog 16 #[.agg #[.int .u8 a.r, .int .u8 a.g, .int .u8 a.b, .int .u8 a.a], .agg #[.int .u8 b.r, .int .u8 b.g, .int .u8 b.b, .int .u8 b.a]] y.w fun e w' => e = .returned (.agg #[.int .u8 (over a b).r, .int .u8 (over a b).g, .int .u8 (over a b).b, .int .u8 (over a b).a]) ∧ Below y.w.heap.size y.w w' from fun y => rover_col a b y.w ha hb)
      refine wp_region_grow (by kernel_rfl) (by kernel_rfl) ?_
      repeat (go_big_quiet_step ((first
        | (go_at_call 11; with_reducible exact Grow.calls (S1.out _))
        | (go_at_call 12; with_reducible exact Grow.calls (S2.out _))
        | (go_at_call 13; with_reducible exact Grow.calls (S3.out _))
        | (go_at_call 14; with_reducible exact Grow.calls (S4.out _))
        | (go_at_call 15; with_reducible exact Grow.calls (S5.out _))
        | (go_at_call 16; with_reducible exact Grow.calls (S6.out _)))))
      refine wpQuiet_nil ?_
      rintro _ ⟨x, rfl⟩
      have zN : w.heap.size < wr.heap.size := World.block_lt_of_cell? _ _ (twoB_at HN.out).1
      have zP : w1.heap.size < wr.heap.size := World.block_lt_of_cell? _ _ (fourB_at HP.out).1
      have HN2 := Lib.hid ((x.below.block _ zN).trans HN.out)
      have HP2 := Lib.hid ((x.below.block _ zP).trans HP.out)
      have HE2 := Lib.hid (bstep HBE.out HBE.out.size x.below)
      clear ga0 ga1 ga2 ga3 ga4 ga5 ga6 ga7 S1 S2 S3 S4 S5 S6 ne zN zP HN HP HBE
      generalize x.w = w5 at *
      clear x
      go_wp2_with fail
      have ne := Grow.ne w5
      have ga0 : ∀ x : Grow w5, x.w.cell? ⟨w.heap.size, 0, none⟩ = some (.int .u8 a.r) := fun x => x.cell ((twoB_at HN2.out).1)
      have ga1 : ∀ x : Grow w5, x.w.cell? ⟨w.heap.size, 1, none⟩ = some (.int .u8 a.g) := fun x => x.cell ((twoB_at HN2.out).2.1)
      have ga2 : ∀ x : Grow w5, x.w.cell? ⟨w.heap.size, 2, none⟩ = some (.int .u8 a.b) := fun x => x.cell ((twoB_at HN2.out).2.2.1)
      have ga3 : ∀ x : Grow w5, x.w.cell? ⟨w.heap.size, 3, none⟩ = some (.int .u8 a.a) := fun x => x.cell ((twoB_at HN2.out).2.2.2.1)
      have ga4 : ∀ x : Grow w5, x.w.cell? ⟨w.heap.size, 4, none⟩ = some (.int .u8 b.r) := fun x => x.cell ((twoB_at HN2.out).2.2.2.2.1)
      have ga5 : ∀ x : Grow w5, x.w.cell? ⟨w.heap.size, 5, none⟩ = some (.int .u8 b.g) := fun x => x.cell ((twoB_at HN2.out).2.2.2.2.2.1)
      have ga6 : ∀ x : Grow w5, x.w.cell? ⟨w.heap.size, 6, none⟩ = some (.int .u8 b.b) := fun x => x.cell ((twoB_at HN2.out).2.2.2.2.2.2.1)
      have ga7 : ∀ x : Grow w5, x.w.cell? ⟨w.heap.size, 7, none⟩ = some (.int .u8 b.a) := fun x => x.cell ((twoB_at HN2.out).2.2.2.2.2.2.2)
      have gf0 : ∀ x : Grow w5, x.w.cell? ⟨w1.heap.size, 0, none⟩ = some (.int .u8 x0.r) := fun x => x.cell ((fourB_at HP2.out).1)
      have gf1 : ∀ x : Grow w5, x.w.cell? ⟨w1.heap.size, 1, none⟩ = some (.int .u8 x0.g) := fun x => x.cell ((fourB_at HP2.out).2.1)
      have gf2 : ∀ x : Grow w5, x.w.cell? ⟨w1.heap.size, 2, none⟩ = some (.int .u8 x0.b) := fun x => x.cell ((fourB_at HP2.out).2.2.1)
      have gf3 : ∀ x : Grow w5, x.w.cell? ⟨w1.heap.size, 3, none⟩ = some (.int .u8 x0.a) := fun x => x.cell ((fourB_at HP2.out).2.2.2.1)
      have gf4 : ∀ x : Grow w5, x.w.cell? ⟨w1.heap.size, 4, none⟩ = some (.int .u8 x1.r) := fun x => x.cell ((fourB_at HP2.out).2.2.2.2.1)
      have gf5 : ∀ x : Grow w5, x.w.cell? ⟨w1.heap.size, 5, none⟩ = some (.int .u8 x1.g) := fun x => x.cell ((fourB_at HP2.out).2.2.2.2.2.1)
      have gf6 : ∀ x : Grow w5, x.w.cell? ⟨w1.heap.size, 6, none⟩ = some (.int .u8 x1.b) := fun x => x.cell ((fourB_at HP2.out).2.2.2.2.2.2.1)
      have gf7 : ∀ x : Grow w5, x.w.cell? ⟨w1.heap.size, 7, none⟩ = some (.int .u8 x1.a) := fun x => x.cell ((fourB_at HP2.out).2.2.2.2.2.2.2.1)
      have gf8 : ∀ x : Grow w5, x.w.cell? ⟨w1.heap.size, 8, none⟩ = some (.int .u8 x2.r) := fun x => x.cell ((fourB_at HP2.out).2.2.2.2.2.2.2.2.1)
      have gf9 : ∀ x : Grow w5, x.w.cell? ⟨w1.heap.size, 9, none⟩ = some (.int .u8 x2.g) := fun x => x.cell ((fourB_at HP2.out).2.2.2.2.2.2.2.2.2.1)
      have gf10 : ∀ x : Grow w5, x.w.cell? ⟨w1.heap.size, 10, none⟩ = some (.int .u8 x2.b) := fun x => x.cell ((fourB_at HP2.out).2.2.2.2.2.2.2.2.2.2.1)
      have gf11 : ∀ x : Grow w5, x.w.cell? ⟨w1.heap.size, 11, none⟩ = some (.int .u8 x2.a) := fun x => x.cell ((fourB_at HP2.out).2.2.2.2.2.2.2.2.2.2.2.1)
      have gf12 : ∀ x : Grow w5, x.w.cell? ⟨w1.heap.size, 12, none⟩ = some (.int .u8 x3.r) := fun x => x.cell ((fourB_at HP2.out).2.2.2.2.2.2.2.2.2.2.2.2.1)
      have gf13 : ∀ x : Grow w5, x.w.cell? ⟨w1.heap.size, 13, none⟩ = some (.int .u8 x3.g) := fun x => x.cell ((fourB_at HP2.out).2.2.2.2.2.2.2.2.2.2.2.2.2.1)
      have gf14 : ∀ x : Grow w5, x.w.cell? ⟨w1.heap.size, 14, none⟩ = some (.int .u8 x3.b) := fun x => x.cell ((fourB_at HP2.out).2.2.2.2.2.2.2.2.2.2.2.2.2.2.1)
      have gf15 : ∀ x : Grow w5, x.w.cell? ⟨w1.heap.size, 15, none⟩ = some (.int .u8 x3.a) := fun x => x.cell ((fourB_at HP2.out).2.2.2.2.2.2.2.2.2.2.2.2.2.2.2)
      have S1 := Lib.hid (show ∀ y : Grow w5, Calls Try.prog 17 #[.agg #[.int .u8 b.r, .int .u8 b.g, .int .u8 b.b, .int .u8 b.a], .slice ad L.length cap] y.w fun e w' => e = .returned (.agg #[.int .u8 (foldC b L).r, .int .u8 (foldC b L).g, .int .u8 (foldC b L).b, .int .u8 (foldC b L).a]) ∧ Below y.w.heap.size y.w w' from fun y => fold_any b L ad cap y.w hb HL.out (by omega) ((HR.out.grow HE2.out).grow y.below))
      have S2 := Lib.hid (show ∀ y : Grow w5, Calls Try.prog 18 #[.agg #[.int .u8 b.r, .int .u8 b.g, .int .u8 b.b, .int .u8 b.a], .slice ad L.length cap] y.w fun e w' => e = .returned (.agg #[.int .u8 (foldC b L).r, .int .u8 (foldC b L).g, .int .u8 (foldC b L).b, .int .u8 (foldC b L).a]) ∧ Below y.w.heap.size y.w w' from fun y => rfold_any b L ad cap y.w hb HL.out (by omega) ((HR.out.grow HE2.out).grow y.below))
      have S3 := Lib.hid (show ∀ y : Grow w5, Calls Try.prog 19 #[.agg #[.int .u8 x0.r, .int .u8 x0.g, .int .u8 x0.b, .int .u8 x0.a, .int .u8 x1.r, .int .u8 x1.g, .int .u8 x1.b, .int .u8 x1.a, .int .u8 x2.r, .int .u8 x2.g, .int .u8 x2.b, .int .u8 x2.a, .int .u8 x3.r, .int .u8 x3.g, .int .u8 x3.b, .int .u8 x3.a]] y.w fun e w' => e = .returned (.agg #[.int .u8 (mean x0 x1 x2 x3).r, .int .u8 (mean x0 x1 x2 x3).g, .int .u8 (mean x0 x1 x2 x3).b, .int .u8 (mean x0 x1 x2 x3).a]) ∧ Below y.w.heap.size y.w w' from fun y => mean_col x0 x1 x2 x3 y.w o0 o1 o2 o3)
      have S4 := Lib.hid (show ∀ y : Grow w5, Calls Try.prog 20 #[.agg #[.int .u8 x0.r, .int .u8 x0.g, .int .u8 x0.b, .int .u8 x0.a, .int .u8 x1.r, .int .u8 x1.g, .int .u8 x1.b, .int .u8 x1.a, .int .u8 x2.r, .int .u8 x2.g, .int .u8 x2.b, .int .u8 x2.a, .int .u8 x3.r, .int .u8 x3.g, .int .u8 x3.b, .int .u8 x3.a]] y.w fun e w' => e = .returned (.agg #[.int .u8 (mean x0 x1 x2 x3).r, .int .u8 (mean x0 x1 x2 x3).g, .int .u8 (mean x0 x1 x2 x3).b, .int .u8 (mean x0 x1 x2 x3).a]) ∧ Below y.w.heap.size y.w w' from fun y => rmean_col x0 x1 x2 x3 y.w o0 o1 o2 o3)
      have S5 := Lib.hid (show ∀ y : Grow w5, Calls Try.prog 21 #[.agg #[.int .u8 a.r, .int .u8 a.g, .int .u8 a.b, .int .u8 a.a], .agg #[.int .u8 b.r, .int .u8 b.g, .int .u8 b.b, .int .u8 b.a], .int .i64 t] y.w fun e w' => e = .returned (.agg #[.int .u8 (mix a b t).r, .int .u8 (mix a b t).g, .int .u8 (mix a b t).b, .int .u8 (mix a b t).a]) ∧ Below y.w.heap.size y.w w' from fun y => mix_col a b t y.w ha hb)
      have S6 := Lib.hid (show ∀ y : Grow w5, Calls Try.prog 22 #[.agg #[.int .u8 a.r, .int .u8 a.g, .int .u8 a.b, .int .u8 a.a], .agg #[.int .u8 b.r, .int .u8 b.g, .int .u8 b.b, .int .u8 b.a], .int .i64 t] y.w fun e w' => e = .returned (.agg #[.int .u8 (mix a b t).r, .int .u8 (mix a b t).g, .int .u8 (mix a b t).b, .int .u8 (mix a b t).a]) ∧ Below y.w.heap.size y.w w' from fun y => rmix_col a b t y.w ha hb)
      refine wp_region_grow (by kernel_rfl) (by kernel_rfl) ?_
      repeat (go_big_quiet_step ((first
        | (go_at_call 17; with_reducible exact Grow.calls (S1.out _))
        | (go_at_call 18; with_reducible exact Grow.calls (S2.out _))
        | (go_at_call 19; with_reducible exact Grow.calls (S3.out _))
        | (go_at_call 20; with_reducible exact Grow.calls (S4.out _))
        | (go_at_call 21; with_reducible exact Grow.calls (S5.out _))
        | (go_at_call 22; with_reducible exact Grow.calls (S6.out _)))))
      refine wpQuiet_nil ?_
      rintro _ ⟨x, rfl⟩
      go_wp2
      go_ret
      exact ⟨rfl, bstep HE2.out HE2.out.size x.below⟩

end Go.Proofs.Ytpnjhmmodkhmfaa
