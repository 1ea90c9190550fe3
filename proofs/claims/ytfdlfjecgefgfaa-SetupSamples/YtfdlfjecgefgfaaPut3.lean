/-
  Blocks of three vertices: written cell by cell, and made anew.
-/
import Derived.Test.YtfdlfjecgefgfaaPartsW
namespace Go.Proofs.Ytfdlfjecgefgfaa
open Go.RowKit

theorem below_drewN {B n : Nat} {a b : World} (h : Below B a b) : Below B a (b.drewN n) := h.trans ⟨rfl, rfl, rfl, Nat.le_refl _, fun _ _ => rfl⟩
theorem v3B_free {w : World} {g : Nat} {a b c : C.V} (h : w.heap[g]? = some (v3B a b c)) : ∀ o, w.frozen? ⟨g, o, none⟩ = false := fun o => by simp [World.frozen?, show w.heap[g]? = some (.cells _ 26 (0, 0)) from h]
theorem v3B_set {w : World} {g : Nat} {cs : Array Value} {ob : Obj} (h : w.heap[g]? = some (.cells cs 26 (0, 0))) (o : Nat) (x : Value) (e : Obj.cells (cs.setIfInBounds o x) 26 (0, 0) = ob) : (w.setCell ⟨g, o, none⟩ x).heap[g]? = some ob := by
  rw [heap_setCell_same _ _ _ _ _ _ h, e]
section
variable {ops : Array Oper} {rest : List Oper} {o o' : Oper} {k : Act} {w : World} {R : Exit → Act → World → Prop} {a b c : C.V}
/-- A new block, and three vertices into it. -/
theorem wp_new3 {p : Tmp} (y : Operand) (ho : o.op = .alloc 26) (hd : o.dst = some p) (hw : Region.wanted o (yielded ops k.tmps) = true)
    (ho' : o'.op = .store 26 (.tmp p) y) (hd' : o'.dst = none) (hw' : Region.wanted o' (yielded ops (k.put (some p) (.pointer (some ⟨w.heap.size, 0, none⟩))).tmps) = true)
    (hx : (k.put (some p) (.pointer (some ⟨w.heap.size, 0, none⟩))).eval (.tmp p) = .pointer (some ⟨w.heap.size, 0, none⟩)) (hy : (k.put (some p) (.pointer (some ⟨w.heap.size, 0, none⟩))).eval y = .agg #[.int .i64 a.x, .int .i64 a.y, .int .i64 a.z, .int .i64 a.w, .int .i64 a.a, .int .i64 a.b, .int .i64 a.c, .int .i64 a.d, .int .i64 b.x, .int .i64 b.y, .int .i64 b.z, .int .i64 b.w, .int .i64 b.a, .int .i64 b.b, .int .i64 b.c, .int .i64 b.d, .int .i64 c.x, .int .i64 c.y, .int .i64 c.z, .int .i64 c.w, .int .i64 c.a, .int .i64 c.b, .int .i64 c.c, .int .i64 c.d])
    (h : wpList Try.prog ops R rest (k.put (some p) (.pointer (some ⟨w.heap.size, 0, none⟩))) (w.alloc (.cells #[.int .i64 a.x, .int .i64 a.y, .int .i64 a.z, .int .i64 a.w, .int .i64 a.a, .int .i64 a.b, .int .i64 a.c, .int .i64 a.d, .int .i64 b.x, .int .i64 b.y, .int .i64 b.z, .int .i64 b.w, .int .i64 b.a, .int .i64 b.b, .int .i64 b.c, .int .i64 b.d, .int .i64 c.x, .int .i64 c.y, .int .i64 c.z, .int .i64 c.w, .int .i64 c.a, .int .i64 c.b, .int .i64 c.c, .int .i64 c.d] 26))) : wpList Try.prog ops R (o :: o' :: rest) k w := by
  refine wp_alloc3 ho hd hw ?_
  refine BigFrame.wpList_want hw' fun K2 hK2 => ?_
  refine wp_store_row 26 _ y ho' w.heap.size _ hx hy 26 _ (heap_alloc_new _ _) (by kernel_rfl) (by rfl) (by kernel_rfl) (hK2 _ _ ?_)
  rw [show v3B zV zV zV = .cells #[.int .i64 zV.x, .int .i64 zV.y, .int .i64 zV.z, .int .i64 zV.w, .int .i64 zV.a, .int .i64 zV.b, .int .i64 zV.c, .int .i64 zV.d, .int .i64 zV.x, .int .i64 zV.y, .int .i64 zV.z, .int .i64 zV.w, .int .i64 zV.a, .int .i64 zV.b, .int .i64 zV.c, .int .i64 zV.d, .int .i64 zV.x, .int .i64 zV.y, .int .i64 zV.z, .int .i64 zV.w, .int .i64 zV.a, .int .i64 zV.b, .int .i64 zV.c, .int .i64 zV.d] 26 (0, 0) from rfl, World.setRow_alloc_new, hd']
  exact h
end

end Go.Proofs.Ytfdlfjecgefgfaa
