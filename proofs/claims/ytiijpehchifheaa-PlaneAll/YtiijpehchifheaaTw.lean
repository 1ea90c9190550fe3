/-
  Blocks of two numbers, and of six.
-/
import Derived.Test.YtiijpehchifheaaNum
namespace Go.Proofs.Ytiijpehchifheaa
open Go.RowKit

section
variable {w w' : World} {g : Nat} {e f a b c d : Int}
def twB (e f : Int) : Obj := .cells #[.int .i64 e, .int .i64 f] 27 (0, 0)
theorem twB_cell (h : w.heap[g]? = some (twB e f)) : w.cell? ⟨g, 0, none⟩ = some (.int .i64 e) ∧ w.cell? ⟨g, 1, none⟩ = some (.int .i64 f) := by
  unfold twB at h
  simp [World.cell?, h]
theorem twB_lt (h : w.heap[g]? = some (twB e f)) : g < w.heap.size := World.block_lt_of_cell? _ _ (twB_cell h).1
theorem twB_grow (h : w.heap[g]? = some (twB e f)) (k : Below w.heap.size w w') : w'.heap[g]? = some (twB e f) := (k.block _ (twB_lt h)).trans h
theorem twB_alloc (o : Obj) (h : w.heap[g]? = some (twB e f)) : (w.alloc o).heap[g]? = some (twB e f) := (Below.heap_alloc _ _ _ (twB_lt h)).trans h
def sxB (a b c d e f : Int) : Obj := .cells #[.int .i64 a, .int .i64 b, .int .i64 c, .int .i64 d, .int .i64 e, .int .i64 f] 40 (0, 0)
theorem sxB_cell (h : w.heap[g]? = some (sxB a b c d e f)) : w.cell? ⟨g, 0, none⟩ = some (.int .i64 a) ∧ w.cell? ⟨g, 1, none⟩ = some (.int .i64 b) ∧ w.cell? ⟨g, 2, none⟩ = some (.int .i64 c) ∧ w.cell? ⟨g, 3, none⟩ = some (.int .i64 d) ∧ w.cell? ⟨g, 4, none⟩ = some (.int .i64 e) ∧ w.cell? ⟨g, 5, none⟩ = some (.int .i64 f) := by
  unfold sxB at h
  simp [World.cell?, h]
theorem sxB_lt (h : w.heap[g]? = some (sxB a b c d e f)) : g < w.heap.size := World.block_lt_of_cell? _ _ (sxB_cell h).1
theorem sxB_grow (h : w.heap[g]? = some (sxB a b c d e f)) (k : Below w.heap.size w w') : w'.heap[g]? = some (sxB a b c d e f) := (k.block _ (sxB_lt h)).trans h
theorem sxB_alloc (o : Obj) (h : w.heap[g]? = some (sxB a b c d e f)) : (w.alloc o).heap[g]? = some (sxB a b c d e f) := (Below.heap_alloc _ _ _ (sxB_lt h)).trans h
end
end Go.Proofs.Ytiijpehchifheaa
