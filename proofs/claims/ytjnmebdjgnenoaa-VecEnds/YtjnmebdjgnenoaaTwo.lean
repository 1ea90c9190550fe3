/-
  A block of two vertices, one behind the other; how far a vertex is inside of a plane, of numbers told one by one.
-/
import Derived.Test.YtjnmebdjgnenoaaFit
namespace Go.Proofs.Ytjnmebdjgnenoaa
open Go.RowKit

def v2B (a b : V) : Obj := .cells #[.int .i64 a.x, .int .i64 a.y, .int .i64 a.z, .int .i64 a.w, .int .i64 a.a, .int .i64 a.b, .int .i64 a.c, .int .i64 a.d, .int .i64 b.x, .int .i64 b.y, .int .i64 b.z, .int .i64 b.w, .int .i64 b.a, .int .i64 b.b, .int .i64 b.c, .int .i64 b.d] 25 (0, 0)
theorem v2B_cell {w : World} {g : Nat} {a b : V} (h : w.heap[g]? = some (v2B a b)) : w.cell? ⟨g, 0, none⟩ = some (.int .i64 a.x) ∧ w.cell? ⟨g, 1, none⟩ = some (.int .i64 a.y) ∧ w.cell? ⟨g, 2, none⟩ = some (.int .i64 a.z) ∧ w.cell? ⟨g, 3, none⟩ = some (.int .i64 a.w) ∧ w.cell? ⟨g, 4, none⟩ = some (.int .i64 a.a) ∧ w.cell? ⟨g, 5, none⟩ = some (.int .i64 a.b) ∧ w.cell? ⟨g, 6, none⟩ = some (.int .i64 a.c) ∧ w.cell? ⟨g, 7, none⟩ = some (.int .i64 a.d) ∧ w.cell? ⟨g, 8, none⟩ = some (.int .i64 b.x) ∧ w.cell? ⟨g, 9, none⟩ = some (.int .i64 b.y) ∧ w.cell? ⟨g, 10, none⟩ = some (.int .i64 b.z) ∧ w.cell? ⟨g, 11, none⟩ = some (.int .i64 b.w) ∧ w.cell? ⟨g, 12, none⟩ = some (.int .i64 b.a) ∧ w.cell? ⟨g, 13, none⟩ = some (.int .i64 b.b) ∧ w.cell? ⟨g, 14, none⟩ = some (.int .i64 b.c) ∧ w.cell? ⟨g, 15, none⟩ = some (.int .i64 b.d) := by
  unfold v2B at h
  simp [World.cell?, h]
theorem v2B_lt {w : World} {g : Nat} {a b : V} (h : w.heap[g]? = some (v2B a b)) : g < w.heap.size := World.block_lt_of_cell? _ _ (v2B_cell h).1
theorem v2B_grow {w w' : World} {g : Nat} {a b : V} (h : w.heap[g]? = some (v2B a b)) (k : Below w.heap.size w w') : w'.heap[g]? = some (v2B a b) := (k.block _ (v2B_lt h)).trans h
theorem v2B_alloc {w : World} {g : Nat} {a b : V} (o : Obj) (h : w.heap[g]? = some (v2B a b)) : (w.alloc o).heap[g]? = some (v2B a b) := (Below.heap_alloc _ _ _ (v2B_lt h)).trans h

theorem dist8 (p x y z t a b c d D : Int) (hv : (⟨x, y, z, t, a, b, c, d⟩ : V).sm) (hD : dist p ⟨x, y, z, t, a, b, c, d⟩ = D) (w : World) :
    Calls Try.prog 15 #[.int .i64 p, .agg #[.int .i64 x, .int .i64 y, .int .i64 z, .int .i64 t, .int .i64 a, .int .i64 b, .int .i64 c, .int .i64 d]] w fun e w' => e = .returned (.int .i64 D) ∧ Below w.heap.size w w' := by
  have k := dist_any p ⟨x, y, z, t, a, b, c, d⟩ hv w
  rw [hD] at k
  exact k
end Go.Proofs.Ytjnmebdjgnenoaa
