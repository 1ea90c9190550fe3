/-
  Blocks that were made one behind the other.
-/
import Derived.Test.YtbhailpnfohomaaShown
import Derived.Test.YtbhailpnfohomaaPureT
namespace Go.Proofs.Ytbhailpnfohomaa
open Go.RowKit

theorem new_at32 (w : World) (a b c : Obj) : (((w.alloc a).alloc b).alloc c).heap[w.heap.size + 1 + 1]? = some c := by
  have h := heap_alloc_new ((w.alloc a).alloc b) c
  rwa [show ((w.alloc a).alloc b).heap.size = w.heap.size + 1 + 1 by simp] at h
theorem new_at31 (w : World) (a b c : Obj) : (((w.alloc a).alloc b).alloc c).heap[w.heap.size + 1]? = some b := new_keep _ (new_at2 w a b)
theorem new_at30 (w : World) (a b c : Obj) : (((w.alloc a).alloc b).alloc c).heap[w.heap.size]? = some a := new_keep _ (new_at20 w a b)
/-- A block of two ints. -/
def iB (x y : Int) : Obj := .cells #[.int .i64 x, .int .i64 y] 33 (0, 0)
theorem iB_cell {w : World} {g : Nat} {x y : Int} (h : w.heap[g]? = some (iB x y)) : w.cell? ⟨g, 0, none⟩ = some (.int .i64 x) ∧ w.cell? ⟨g, 1, none⟩ = some (.int .i64 y) := by
  unfold iB at h
  exact ⟨Joins.cell_of_block h 0, Joins.cell_of_block h 1⟩
theorem blk_keep {w w' : World} {g : Nat} {o : Obj} (h : w.heap[g]? = some o) (k : Below w.heap.size w w') : w'.heap[g]? = some o := (k.block _ (Array.getElem?_eq_some_iff.1 h).1).trans h
theorem blk_lt {w : World} {g : Nat} {o : Obj} (h : w.heap[g]? = some o) : g < w.heap.size := (Array.getElem?_eq_some_iff.1 h).1
theorem Es.own {w : World} {base : Nat} {A : Option Addr} {n c : Nat} {xs : List Col} (h : OwnE EC w base (.slice A n c) xs) : n = xs.length ∧ Es EC w w.heap.size A xs := by
  obtain ⟨A', c', e, -, -, hs⟩ := h.es
  cases e
  exact ⟨rfl, hs⟩
end Go.Proofs.Ytbhailpnfohomaa
