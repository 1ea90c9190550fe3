/-
  Colours, and blocks that hold one; what is made by closures.
-/
import Derived.Test.YtehkcnmjkgelkaaBase
import Derived.Lib.SmallJoins
namespace Go.Proofs.Ytehkcnmjkgelkaa
open Go.RowKit
attribute [local go_sem ↓] Go.wp_at_zero Go.wp_at_succ

structure Col where
  r : Int
  g : Int
  b : Int
  a : Int
  deriving DecidableEq
def Col.ok (c : Col) : Prop := (0 ≤ c.r ∧ c.r ≤ 255) ∧ (0 ≤ c.g ∧ c.g ≤ 255) ∧ (0 ≤ c.b ∧ c.b ≤ 255) ∧ (0 ≤ c.a ∧ c.a ≤ 255)
/-- A block that holds a colour. -/
def colB (c : Col) : Obj := .cells #[.int .u8 c.r, .int .u8 c.g, .int .u8 c.b, .int .u8 c.a] 38 (0, 0)
theorem colB_cell {w : World} {g : Nat} {c : Col} (h : w.heap[g]? = some (colB c)) :
    w.cell? ⟨g, 0, none⟩ = some (.int .u8 c.r) ∧ w.cell? ⟨g, 1, none⟩ = some (.int .u8 c.g) ∧ w.cell? ⟨g, 2, none⟩ = some (.int .u8 c.b) ∧ w.cell? ⟨g, 3, none⟩ = some (.int .u8 c.a) := by
  unfold colB at h
  exact ⟨Joins.cell_of_block h 0, Joins.cell_of_block h 1, Joins.cell_of_block h 2, Joins.cell_of_block h 3⟩
theorem colB_free {w : World} {g : Nat} {c : Col} (h : w.heap[g]? = some (colB c)) :
    w.frozen? ⟨g, 0, none⟩ = false ∧ w.frozen? ⟨g, 1, none⟩ = false ∧ w.frozen? ⟨g, 2, none⟩ = false ∧ w.frozen? ⟨g, 3, none⟩ = false := by
  unfold colB at h
  refine ⟨?_, ?_, ?_, ?_⟩ <;> simp [World.frozen?, h]
theorem colB_set {w : World} {g : Nat} {c : Col} (d : Col) (h : w.heap[g]? = some (colB c)) :
    ((((w.setCell ⟨g, 0, none⟩ (.int .u8 d.r)).setCell ⟨g, 1, none⟩ (.int .u8 d.g)).setCell ⟨g, 2, none⟩ (.int .u8 d.b)).setCell ⟨g, 3, none⟩ (.int .u8 d.a)).heap[g]? = some (colB d) := by
  unfold colB at h
  rw [heap_setCell_same _ _ _ _ _ _ (heap_setCell_same _ _ _ _ _ _ (heap_setCell_same _ _ _ _ _ _ (heap_setCell_same _ _ _ _ _ _ h)))]
  simp [colB]
theorem parts_any (r g b a : Int) (w : World) (r0 : 0 ≤ r) (r1 : r ≤ 255) (g0 : 0 ≤ g) (g1 : g ≤ 255) (b0 : 0 ≤ b) (b1 : b ≤ 255) (a0 : 0 ≤ a) (a1 : a ≤ 255) :
    Calls Try.prog 73 #[.agg #[.int .u8 r, .int .u8 g, .int .u8 b, .int .u8 a]] w fun e w' => e = .returned (.agg #[.int .i64 r, .int .i64 g, .int .i64 b, .int .i64 a]) ∧ ∃ c1 c2 : Array Value, w' = (w.alloc (.cells c1 38)).alloc (.cells c2 36) := by
  go_enter Try.func73, Try.ntmps73
  go_wp2
  exact bodyPost_ret (v := .agg #[.int .i64 r, .int .i64 g, .int .i64 b, .int .i64 a]) (by simp [results, Try.results73, go_sem]) rfl ⟨rfl, _, _, rfl⟩
theorem made1_any (k : FuncId) (caps : Array Value) (eg : ∀ (args : Array Value) (w : World), (callFunc k args).run Try.prog w = .ok (.enter k args) w) (i v : Int) (b : Nat) (w : World) (v0 : 0 ≤ v) (v1 : v ≤ 100000) (hc : w.cell? ⟨b, 0, none⟩ = some (.func (.func k) #[] caps))
    (H : Calls Try.prog k (#[.int .i64 i] ++ caps) w fun e w' => e = .returned (.int .i64 v) ∧ Below w.heap.size w w') :
    Calls Try.prog 80 #[.int .i64 i, .pointer (some ⟨b, 0, none⟩)] w fun e w' => e = .returned (.int .u8 (sat v)) ∧ Below w.heap.size w w' := by
  have HH := Lib.hid H
  clear H
  go_enter Try.func80, Try.ntmps80
  go_wp2_with fail
  refine HH.out.mono ?_
  rintro e w' ⟨rfl, hb⟩
  have HB := Lib.hid hb
  clear hb HH
  go_wp2_with (go_at_call 62; refine (sat_any _ _ (by omega) (by omega)).mono ?_; rintro e w' ⟨rfl, rfl⟩)
  go_ret
  exact ⟨rfl, HB.out⟩
theorem bcell {W w1 : World} (hb : Below W.heap.size W w1) : (∀ b o, b < W.heap.size → w1.cell? ⟨b, o, none⟩ = W.cell? ⟨b, o, none⟩) ∧ (∀ b o, b < W.heap.size → w1.frozen? ⟨b, o, none⟩ = W.frozen? ⟨b, o, none⟩) :=
  ⟨fun b o h => hb.cell (p := ⟨b, o, none⟩) h, fun b o h => hb.frozen (p := ⟨b, o, none⟩) h⟩
theorem below2 {w w1 : World} {A B : Obj} (hb : Below ((w.alloc A).alloc B).heap.size ((w.alloc A).alloc B) w1) : Below w.heap.size w w1 :=
  (((Below.refl _ _).alloc (Nat.le_refl _) _).alloc (by simp) _).trans (hb.mono (by simp; omega))
set_option maxHeartbeats 1000000 in
theorem made_any (k : FuncId) (caps : Array Value) (eg : ∀ (args : Array Value) (w : World), (callFunc k args).run Try.prog w = .ok (.enter k args) w) (p0 p1 p2 p3 : Int) (w : World)
    (h00 : 0 ≤ p0) (h01 : p0 ≤ 100000) (h10 : 0 ≤ p1) (h11 : p1 ≤ 100000) (h20 : 0 ≤ p2) (h21 : p2 ≤ 100000) (h30 : 0 ≤ p3) (h31 : p3 ≤ 100000)
    (H0 : ∀ W, Below w.heap.size w W → Calls Try.prog k (#[.int .i64 0] ++ caps) W fun e w' => e = .returned (.int .i64 p0) ∧ Below W.heap.size W w')
    (H1 : ∀ W, Below w.heap.size w W → Calls Try.prog k (#[.int .i64 1] ++ caps) W fun e w' => e = .returned (.int .i64 p1) ∧ Below W.heap.size W w')
    (H2 : ∀ W, Below w.heap.size w W → Calls Try.prog k (#[.int .i64 2] ++ caps) W fun e w' => e = .returned (.int .i64 p2) ∧ Below W.heap.size W w')
    (H3 : ∀ W, Below w.heap.size w W → Calls Try.prog k (#[.int .i64 3] ++ caps) W fun e w' => e = .returned (.int .i64 p3) ∧ Below W.heap.size W w') :
    Calls Try.prog 74 #[.func (.func k) #[] caps] w fun e w' => e = .returned (.agg #[.int .u8 (sat p0), .int .u8 (sat p1), .int .u8 (sat p2), .int .u8 (sat p3)]) ∧ Below w.heap.size w w' := by
  have hmf := mk_func
  have HH0 := Lib.hid H0
  have HH1 := Lib.hid H1
  have HH2 := Lib.hid H2
  have HH3 := Lib.hid H3
  have EG := Lib.hid eg
  clear H0 H1 H2 H3 eg
  go_enter Try.func74, Try.ntmps74
  go_wp2_with fail
  refine (made1_any k caps EG.out 0 p0 _ _ h00 h01 (by simp [go_sem]) (HH0.out _ (((Below.refl _ _).alloc (Nat.le_refl _) _).alloc (by simp) _))).mono ?_
  rintro e w1 ⟨rfl, hb1⟩
  have HB1 := Lib.hid hb1
  have hc1 : w1.cell? ⟨w.heap.size, 0, none⟩ = some (.func (.func k) #[] caps) := by rw [hb1.cell (by simp <;> omega)]; simp [go_sem]
  clear hb1 HH0
  go_wp2_with fail
  refine (made1_any k caps EG.out 1 p1 _ _ h10 h11 hc1 (HH1.out _ (below2 HB1.out))).mono ?_
  rintro e w2 ⟨rfl, hb2⟩
  have HB2 := Lib.hid (Below.trans HB1.out (hb2.mono HB1.out.size))
  have hc2 : w2.cell? ⟨w.heap.size, 0, none⟩ = some (.func (.func k) #[] caps) := by rw [HB2.out.cell (by simp <;> omega)]; simp [go_sem]
  clear hb2 HH1 hc1 HB1
  go_wp2_with fail
  refine (made1_any k caps EG.out 2 p2 _ _ h20 h21 hc2 (HH2.out _ (below2 HB2.out))).mono ?_
  rintro e w3 ⟨rfl, hb3⟩
  have HB3 := Lib.hid (Below.trans HB2.out (hb3.mono HB2.out.size))
  have hc3 : w3.cell? ⟨w.heap.size, 0, none⟩ = some (.func (.func k) #[] caps) := by rw [HB3.out.cell (by simp <;> omega)]; simp [go_sem]
  clear hb3 HH2 hc2 HB2
  go_wp2_with fail
  refine (made1_any k caps EG.out 3 p3 _ _ h30 h31 hc3 (HH3.out _ (below2 HB3.out))).mono ?_
  rintro e w4 ⟨rfl, hb4⟩
  have HB4 := Lib.hid (Below.trans HB3.out (hb4.mono HB3.out.size))
  have hc40 : w4.cell? ⟨w.heap.size + 1, 0, none⟩ = some (.int .u8 0) := by rw [HB4.out.cell (by simp <;> omega)]; simp [go_sem]
  have hc41 : w4.cell? ⟨w.heap.size + 1, 1, none⟩ = some (.int .u8 0) := by rw [HB4.out.cell (by simp <;> omega)]; simp [go_sem]
  have hc42 : w4.cell? ⟨w.heap.size + 1, 2, none⟩ = some (.int .u8 0) := by rw [HB4.out.cell (by simp <;> omega)]; simp [go_sem]
  have hc43 : w4.cell? ⟨w.heap.size + 1, 3, none⟩ = some (.int .u8 0) := by rw [HB4.out.cell (by simp <;> omega)]; simp [go_sem]
  have hf40 : w4.frozen? ⟨w.heap.size + 1, 0, none⟩ = false := by rw [HB4.out.frozen (by simp <;> omega)]; simp [go_sem]
  have hf41 : w4.frozen? ⟨w.heap.size + 1, 1, none⟩ = false := by rw [HB4.out.frozen (by simp <;> omega)]; simp [go_sem]
  have hf42 : w4.frozen? ⟨w.heap.size + 1, 2, none⟩ = false := by rw [HB4.out.frozen (by simp <;> omega)]; simp [go_sem]
  have hf43 : w4.frozen? ⟨w.heap.size + 1, 3, none⟩ = false := by rw [HB4.out.frozen (by simp <;> omega)]; simp [go_sem]
  clear hb4 HH3 hc3 HB3
  go_wp2
  refine bodyPost_ret (v := .agg #[.int .u8 (sat p0), .int .u8 (sat p1), .int .u8 (sat p2), .int .u8 (sat p3)]) (by simp [results, Try.results74, go_sem, *]) rfl ⟨rfl, ?_⟩
  have hB := (below2 HB4.out)
  exact (((hB.setCell (by simp) _).setCell (by simp) _).setCell (by simp) _).setCell (by simp) _
end Go.Proofs.Ytehkcnmjkgelkaa
