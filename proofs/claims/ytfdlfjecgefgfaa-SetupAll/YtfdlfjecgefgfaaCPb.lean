/-
  What a block that holds a point's numbers reads.
-/
import Derived.Test.YtfdlfjecgefgfaaCEqP
namespace Go.Proofs.Ytfdlfjecgefgfaa.C
open Go.RowKit

/-- A block of seven numbers, of a type t. -/
def pB (t : TypeId) (v : P) : Obj := .cells #[.int .i64 v.x, .int .i64 v.y, .int .i64 v.z, .int .i64 v.a, .int .i64 v.b, .int .i64 v.c, .int .i64 v.d] t (0, 0)
theorem pB_cell {w : World} {g : Nat} {t : TypeId} {v : P} (h : w.heap[g]? = some (pB t v)) : (w.cell? ⟨g, 0, none⟩ = some (.int .i64 v.x) ∧ w.cell? ⟨g, 1, none⟩ = some (.int .i64 v.y) ∧ w.cell? ⟨g, 2, none⟩ = some (.int .i64 v.z) ∧ w.cell? ⟨g, 3, none⟩ = some (.int .i64 v.a) ∧ w.cell? ⟨g, 4, none⟩ = some (.int .i64 v.b) ∧ w.cell? ⟨g, 5, none⟩ = some (.int .i64 v.c) ∧ w.cell? ⟨g, 6, none⟩ = some (.int .i64 v.d)) := by
  unfold pB at h
  simp [World.cell?, h]
theorem pB_lt {w : World} {g : Nat} {t : TypeId} {v : P} (h : w.heap[g]? = some (pB t v)) : g < w.heap.size := World.block_lt_of_cell? _ _ (pB_cell h).1
theorem pB_grow {w w' : World} {g : Nat} {t : TypeId} {v : P} (h : w.heap[g]? = some (pB t v)) (k : Below w.heap.size w w') : w'.heap[g]? = some (pB t v) := (k.block _ (pB_lt h)).trans h
theorem pB_alloc {w : World} {g : Nat} {t : TypeId} {v : P} (o : Obj) (h : w.heap[g]? = some (pB t v)) : (w.alloc o).heap[g]? = some (pB t v) := (Below.heap_alloc _ _ _ (pB_lt h)).trans h
/-- A block of two bytes. -/
def bB (x y : Int) : Obj := .cells #[.int .u8 x, .int .u8 y] 40 (0, 0)
theorem bB_cell {w : World} {g : Nat} {x y : Int} (h : w.heap[g]? = some (bB x y)) : w.cell? ⟨g, 0, none⟩ = some (.int .u8 x) ∧ w.cell? ⟨g, 1, none⟩ = some (.int .u8 y) := by
  unfold bB at h
  simp [World.cell?, h]
theorem bB_lt {w : World} {g : Nat} {x y : Int} (h : w.heap[g]? = some (bB x y)) : g < w.heap.size := World.block_lt_of_cell? _ _ (bB_cell h).1
theorem bB_grow {w w' : World} {g : Nat} {x y : Int} (h : w.heap[g]? = some (bB x y)) (k : Below w.heap.size w w') : w'.heap[g]? = some (bB x y) := (k.block _ (bB_lt h)).trans h
theorem new_two {w : World} (A B : Obj) : ((w.alloc A).alloc B).heap[w.heap.size]? = some A ∧ ((w.alloc A).alloc B).heap[w.heap.size + 1]? = some B := by
  refine ⟨(Below.heap_alloc _ _ _ (by simp)).trans (heap_alloc_new _ _), ?_⟩
  exact new_at (by simp)
theorem neqP (w : World) (x0 x1 x2 x3 x4 x5 x6 y0 y1 y2 y3 y4 y5 y6 : Int) : (binOp .neq 37 (.agg #[.int .i64 x0, .int .i64 x1, .int .i64 x2, .int .i64 x3, .int .i64 x4, .int .i64 x5, .int .i64 x6]) (.agg #[.int .i64 y0, .int .i64 y1, .int .i64 y2, .int .i64 y3, .int .i64 y4, .int .i64 y5, .int .i64 y6])).run Try.prog w = .ok (.bool (!sameP ((⟨x0, x1, x2, x3, x4, x5, x6⟩ : P)) ⟨y0, y1, y2, y3, y4, y5, y6⟩)) w := by
  have h := eqlP w x0 x1 x2 x3 x4 x5 x6 y0 y1 y2 y3 y4 y5 y6
  rw [run_eql_struct] at h
  rw [run_neq_struct]
  generalize (Op.equalIn 10000 37 _ _).run Try.prog w = r at h ⊢
  cases r with
  | ok b w' =>
    simp only [Result.andThen_ok, Result.ok.injEq, Value.bool.injEq] at h
    obtain ⟨rfl, rfl⟩ := h
    rfl
  | _ => cases h
theorem neqAA (w : World) (a b c d a' b' c' d' : Int) : (binOp .neq 23 (.agg #[.int .i64 a, .int .i64 b, .int .i64 c, .int .i64 d]) (.agg #[.int .i64 a', .int .i64 b', .int .i64 c', .int .i64 d'])).run Try.prog w = .ok (.bool (!sameA a b c d a' b' c' d')) w := by
  have h := run_equalIn_ints (P := Try.prog) w 9998 23 3 4 Try.underlying23 Try.underlying3 Try.sizeOf3 [a, b, c, d] [a', b', c', d'] rfl rfl
  rw [run_neq_struct]
  simp only [List.map_cons, List.map_nil] at h
  rw [show (10000 : Nat) = 9998 + 2 from rfl, h, Result.andThen_ok]
  rfl
end Go.Proofs.Ytfdlfjecgefgfaa.C
