/-
  Colours, and blocks that hold one; what is made by closures.
-/
import Derived.Test.YtnpcmoeleigpoaaBase
import Derived.Lib.SmallJoins
namespace Go.Proofs.Ytnpcmoeleigpoaa
open Go.RowKit
attribute [local go_sem ↓] Go.wp_at_zero Go.wp_at_succ

structure Col where
  r : Int
  g : Int
  b : Int
  a : Int
  deriving DecidableEq
def Col.ok (c : Col) : Prop := (0 ≤ c.r ∧ c.r ≤ 255) ∧ (0 ≤ c.g ∧ c.g ≤ 255) ∧ (0 ≤ c.b ∧ c.b ≤ 255) ∧ (0 ≤ c.a ∧ c.a ≤ 255)
/-- A block that holds a colour. -/
def colB (c : Col) : Obj := .cells #[.int .u8 c.r, .int .u8 c.g, .int .u8 c.b, .int .u8 c.a] 23 (0, 0)
theorem colB_cell {w : World} {g : Nat} {c : Col} (h : w.heap[g]? = some (colB c)) :
    w.cell? ⟨g, 0, none⟩ = some (.int .u8 c.r) ∧ w.cell? ⟨g, 1, none⟩ = some (.int .u8 c.g) ∧ w.cell? ⟨g, 2, none⟩ = some (.int .u8 c.b) ∧ w.cell? ⟨g, 3, none⟩ = some (.int .u8 c.a) := by
  unfold colB at h
  exact ⟨Joins.cell_of_block h 0, Joins.cell_of_block h 1, Joins.cell_of_block h 2, Joins.cell_of_block h 3⟩
theorem colB_free {w : World} {g : Nat} {c : Col} (h : w.heap[g]? = some (colB c)) :
    w.frozen? ⟨g, 0, none⟩ = false ∧ w.frozen? ⟨g, 1, none⟩ = false ∧ w.frozen? ⟨g, 2, none⟩ = false ∧ w.frozen? ⟨g, 3, none⟩ = false := by
  unfold colB at h
  refine ⟨?_, ?_, ?_, ?_⟩ <;> simp [World.frozen?, h]
theorem colB_set {w : World} {g : Nat} {c : Col} (d : Col) (h : w.heap[g]? = some (colB c)) :
    ((((w.setCell ⟨g, 0, none⟩ (.int .u8 d.r)).setCell ⟨g, 1, none⟩ (.int .u8 d.g)).setCell ⟨g, 2, none⟩ (.int .u8 d.b)).setCell ⟨g, 3, none⟩ (.int .u8 d.a)).heap[g]? = some (colB d) := by
  unfold colB at h
  rw [heap_setCell_same _ _ _ _ _ _ (heap_setCell_same _ _ _ _ _ _ (heap_setCell_same _ _ _ _ _ _ (heap_setCell_same _ _ _ _ _ _ h)))]
  simp [colB]
theorem below2 {w w1 : World} {A B : Obj} (hb : Below ((w.alloc A).alloc B).heap.size ((w.alloc A).alloc B) w1) : Below w.heap.size w w1 :=
  (((Below.refl _ _).alloc (Nat.le_refl _) _).alloc (by simp) _).trans (hb.mono (by simp; omega))
end Go.Proofs.Ytnpcmoeleigpoaa
