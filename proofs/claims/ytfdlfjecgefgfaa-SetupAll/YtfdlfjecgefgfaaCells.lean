/-
  What a block that holds a point's numbers, or three points', reads; worlds that only grow.
-/
import Derived.Test.YtfdlfjecgefgfaaBase
import Derived.Lib.MinMax
import Derived.StillTailTactics
import Derived.Deep.WholeRow
import Derived.Laws.CopyOwn
namespace Go.Proofs.Ytfdlfjecgefgfaa
open Go.RowKit

theorem bstep {B : Nat} {a b c : World} (h : Below B a b) (hB : B ≤ b.heap.size) (k : Below b.heap.size b c) : Below B a c := h.trans (k.mono hB)
theorem new_at {w : World} {o : Obj} {k : Nat} (h : k = w.heap.size) : (w.alloc o).heap[k]? = some o := by
  subst h
  exact heap_alloc_new _ _
theorem new_two {w : World} (A B : Obj) : ((w.alloc A).alloc B).heap[w.heap.size]? = some A ∧ ((w.alloc A).alloc B).heap[w.heap.size + 1]? = some B := by
  refine ⟨(Below.heap_alloc _ _ _ (by simp)).trans (heap_alloc_new _ _), ?_⟩
  exact new_at (by simp)

/-- A block of seven numbers, of a type t. -/
def pB (v : P) : Obj := .cells #[.int .i64 v.x, .int .i64 v.y, .int .i64 v.z, .int .i64 v.a, .int .i64 v.b, .int .i64 v.c, .int .i64 v.d] 37 (0, 0)
theorem pB_cell {w : World} {g : Nat} {v : P} (h : w.heap[g]? = some (pB v)) : (w.cell? ⟨g, 0, none⟩ = some (.int .i64 v.x) ∧ w.cell? ⟨g, 1, none⟩ = some (.int .i64 v.y) ∧ w.cell? ⟨g, 2, none⟩ = some (.int .i64 v.z) ∧ w.cell? ⟨g, 3, none⟩ = some (.int .i64 v.a) ∧ w.cell? ⟨g, 4, none⟩ = some (.int .i64 v.b) ∧ w.cell? ⟨g, 5, none⟩ = some (.int .i64 v.c) ∧ w.cell? ⟨g, 6, none⟩ = some (.int .i64 v.d)) := by
  unfold pB at h
  simp [World.cell?, h]
theorem pB_lt {w : World} {g : Nat} {v : P} (h : w.heap[g]? = some (pB v)) : g < w.heap.size := World.block_lt_of_cell? _ _ (pB_cell h).1
theorem pB_grow {w w' : World} {g : Nat} {v : P} (h : w.heap[g]? = some (pB v)) (k : Below w.heap.size w w') : w'.heap[g]? = some (pB v) := (k.block _ (pB_lt h)).trans h
theorem pB_alloc {w : World} {g : Nat} {v : P} (o : Obj) (h : w.heap[g]? = some (pB v)) : (w.alloc o).heap[g]? = some (pB v) := (Below.heap_alloc _ _ _ (pB_lt h)).trans h
/-- A block of three points. -/
def tB (a b c : P) : Obj := .cells #[.int .i64 a.x, .int .i64 a.y, .int .i64 a.z, .int .i64 a.a, .int .i64 a.b, .int .i64 a.c, .int .i64 a.d, .int .i64 b.x, .int .i64 b.y, .int .i64 b.z, .int .i64 b.a, .int .i64 b.b, .int .i64 b.c, .int .i64 b.d, .int .i64 c.x, .int .i64 c.y, .int .i64 c.z, .int .i64 c.a, .int .i64 c.b, .int .i64 c.c, .int .i64 c.d] 38 (0, 0)
theorem tB_cell {w : World} {g : Nat} {a b c : P} (h : w.heap[g]? = some (tB a b c)) : ((w.cell? ⟨g, 0, none⟩ = some (.int .i64 a.x) ∧ w.cell? ⟨g, 1, none⟩ = some (.int .i64 a.y) ∧ w.cell? ⟨g, 2, none⟩ = some (.int .i64 a.z) ∧ w.cell? ⟨g, 3, none⟩ = some (.int .i64 a.a) ∧ w.cell? ⟨g, 4, none⟩ = some (.int .i64 a.b) ∧ w.cell? ⟨g, 5, none⟩ = some (.int .i64 a.c) ∧ w.cell? ⟨g, 6, none⟩ = some (.int .i64 a.d)) ∧ (w.cell? ⟨g, 7, none⟩ = some (.int .i64 b.x) ∧ w.cell? ⟨g, 8, none⟩ = some (.int .i64 b.y) ∧ w.cell? ⟨g, 9, none⟩ = some (.int .i64 b.z) ∧ w.cell? ⟨g, 10, none⟩ = some (.int .i64 b.a) ∧ w.cell? ⟨g, 11, none⟩ = some (.int .i64 b.b) ∧ w.cell? ⟨g, 12, none⟩ = some (.int .i64 b.c) ∧ w.cell? ⟨g, 13, none⟩ = some (.int .i64 b.d)) ∧ (w.cell? ⟨g, 14, none⟩ = some (.int .i64 c.x) ∧ w.cell? ⟨g, 15, none⟩ = some (.int .i64 c.y) ∧ w.cell? ⟨g, 16, none⟩ = some (.int .i64 c.z) ∧ w.cell? ⟨g, 17, none⟩ = some (.int .i64 c.a) ∧ w.cell? ⟨g, 18, none⟩ = some (.int .i64 c.b) ∧ w.cell? ⟨g, 19, none⟩ = some (.int .i64 c.c) ∧ w.cell? ⟨g, 20, none⟩ = some (.int .i64 c.d))) := by
  unfold tB at h
  simp [World.cell?, h]
theorem tB_lt {w : World} {g : Nat} {a b c : P} (h : w.heap[g]? = some (tB a b c)) : g < w.heap.size := World.block_lt_of_cell? _ _ (tB_cell h).1.1
theorem tB_grow {w w' : World} {g : Nat} {a b c : P} (h : w.heap[g]? = some (tB a b c)) (k : Below w.heap.size w w') : w'.heap[g]? = some (tB a b c) := (k.block _ (tB_lt h)).trans h
theorem tB_alloc {w : World} {g : Nat} {a b c : P} (o : Obj) (h : w.heap[g]? = some (tB a b c)) : (w.alloc o).heap[g]? = some (tB a b c) := (Below.heap_alloc _ _ _ (tB_lt h)).trans h

/-- A block is written whole; all others are as they were. -/
structure Put (w w' : World) (g : Nat) (o : Obj) : Prop where
  size : w'.heap.size = w.heap.size
  same : w'.heap[g]? = some o
  other : ∀ k, k ≠ g → w'.heap[k]? = w.heap[k]?
  below : ∀ B w0, Below B w0 w → B ≤ g → Below B w0 w'
theorem put_row {w : World} {g : Nat} {old : Array Value} (cs : Array Value) (hg : w.heap[g]? = some (.cells old 38 (0, 0))) : Put w (w.setRow g cs) g (.cells cs 38 (0, 0)) :=
  ⟨setRow_size w g cs, setRow_heap w g old cs 38 (0, 0) hg, fun k hk => setRow_other w g k cs hk, fun _ _ hb hB => below_setRow hb hB cs⟩

/-- Three points, as one value, out of a block. -/
theorem loadT {w : World} {g : Nat} {a b c : P} (h : w.heap[g]? = some (tB a b c)) :
    (Instr.loadAt 38 (.pointer (some ⟨g, 0, none⟩))).run Try.prog w = .ok (.agg #[.int .i64 a.x, .int .i64 a.y, .int .i64 a.z, .int .i64 a.a, .int .i64 a.b, .int .i64 a.c, .int .i64 a.d, .int .i64 b.x, .int .i64 b.y, .int .i64 b.z, .int .i64 b.a, .int .i64 b.b, .int .i64 b.c, .int .i64 b.d, .int .i64 c.x, .int .i64 c.y, .int .i64 c.z, .int .i64 c.a, .int .i64 c.b, .int .i64 c.c, .int .i64 c.d]) w := by
  simp only [Instr.loadAt, Instr.sureAddr, Sem.run_bind, Sem.run_pure, Result.andThen_ok]
  exact run_loadVar_row w g 38 38 _ (0, 0) _ h Try.underlying38 rfl (by kernel_rfl)

section
variable {ops : Array Oper} {rest : List Oper} {o o' : Oper} {k : Act} {w : World} {Q : Exit → Act → World → Prop} {K : Act → World → Prop} {g : Nat} {a b c : P}
theorem opw_loadT (x : Operand) (ho : o.op = .load 38 x) (hx : k.eval x = .pointer (some ⟨g, 0, none⟩)) (hg : w.heap[g]? = some (tB a b c))
    (h : K (k.put o.dst (.agg #[.int .i64 a.x, .int .i64 a.y, .int .i64 a.z, .int .i64 a.a, .int .i64 a.b, .int .i64 a.c, .int .i64 a.d, .int .i64 b.x, .int .i64 b.y, .int .i64 b.z, .int .i64 b.a, .int .i64 b.b, .int .i64 b.c, .int .i64 b.d, .int .i64 c.x, .int .i64 c.y, .int .i64 c.z, .int .i64 c.a, .int .i64 c.b, .int .i64 c.c, .int .i64 c.d])) w) : o.wp Try.prog k w K Q :=
  wp_load_row 38 x ho g hx 38 _ (0, 0) _ hg Try.underlying38 rfl (by kernel_rfl) h
/-- Three points out of a block, in a list of operations. -/
theorem wp_loadT (x : Operand) (ho : o.op = .load 38 x) (hw : Region.wanted o (yielded ops k.tmps) = true) (hx : k.eval x = .pointer (some ⟨g, 0, none⟩)) (hg : w.heap[g]? = some (tB a b c))
    (h : wpList Try.prog ops Q rest (k.put o.dst (.agg #[.int .i64 a.x, .int .i64 a.y, .int .i64 a.z, .int .i64 a.a, .int .i64 a.b, .int .i64 a.c, .int .i64 a.d, .int .i64 b.x, .int .i64 b.y, .int .i64 b.z, .int .i64 b.a, .int .i64 b.b, .int .i64 b.c, .int .i64 b.d, .int .i64 c.x, .int .i64 c.y, .int .i64 c.z, .int .i64 c.a, .int .i64 c.b, .int .i64 c.c, .int .i64 c.d])) w) : wpList Try.prog ops Q (o :: rest) k w :=
  BigFrame.wpList_want hw fun _ hK => opw_loadT x ho hx hg (hK _ _ h)
theorem opw_storeT {old : Array Value} (x y : Operand) (ho : o.op = .store 38 x y) (hd : o.dst = none) (hx : k.eval x = .pointer (some ⟨g, 0, none⟩)) (hy : k.eval y = .agg #[.int .i64 a.x, .int .i64 a.y, .int .i64 a.z, .int .i64 a.a, .int .i64 a.b, .int .i64 a.c, .int .i64 a.d, .int .i64 b.x, .int .i64 b.y, .int .i64 b.z, .int .i64 b.a, .int .i64 b.b, .int .i64 b.c, .int .i64 b.d, .int .i64 c.x, .int .i64 c.y, .int .i64 c.z, .int .i64 c.a, .int .i64 c.b, .int .i64 c.c, .int .i64 c.d])
    (hg : w.heap[g]? = some (.cells old 38 (0, 0))) (hs : old.size = 21) (h : ∀ w', Hid (Put w w' g (tB a b c)) → K k w') : o.wp Try.prog k w K Q := by
  refine wp_store_row 38 x y ho g _ hx hy 38 old hg (by kernel_rfl) (by rw [hs]; rfl) (by kernel_rfl) ?_
  rw [hd]
  exact h _ (Lib.hid (put_row _ hg))
/-- Three points into a block, in a list of operations. -/
theorem wp_storeT {old : Array Value} (x y : Operand) (ho : o.op = .store 38 x y) (hd : o.dst = none) (hw : Region.wanted o (yielded ops k.tmps) = true) (hx : k.eval x = .pointer (some ⟨g, 0, none⟩)) (hy : k.eval y = .agg #[.int .i64 a.x, .int .i64 a.y, .int .i64 a.z, .int .i64 a.a, .int .i64 a.b, .int .i64 a.c, .int .i64 a.d, .int .i64 b.x, .int .i64 b.y, .int .i64 b.z, .int .i64 b.a, .int .i64 b.b, .int .i64 b.c, .int .i64 b.d, .int .i64 c.x, .int .i64 c.y, .int .i64 c.z, .int .i64 c.a, .int .i64 c.b, .int .i64 c.c, .int .i64 c.d])
    (hg : w.heap[g]? = some (.cells old 38 (0, 0))) (hs : old.size = 21) (h : ∀ w', Hid (Put w w' g (tB a b c)) → wpList Try.prog ops Q rest k w') : wpList Try.prog ops Q (o :: rest) k w :=
  BigFrame.wpList_want hw fun _ hK => opw_storeT x y ho hd hx hy hg hs fun w' hp => hK _ _ (h w' hp)
/-- A new block, and three points into it. -/
theorem wp_newT {p : Tmp} (y : Operand) (ho : o.op = .alloc 38) (hd : o.dst = some p) (hw : Region.wanted o (yielded ops k.tmps) = true)
    (ho' : o'.op = .store 38 (.tmp p) y) (hd' : o'.dst = none) (hw' : Region.wanted o' (yielded ops (k.put (some p) (.pointer (some ⟨w.heap.size, 0, none⟩))).tmps) = true)
    (hx : (k.put (some p) (.pointer (some ⟨w.heap.size, 0, none⟩))).eval (.tmp p) = .pointer (some ⟨w.heap.size, 0, none⟩)) (hy : (k.put (some p) (.pointer (some ⟨w.heap.size, 0, none⟩))).eval y = .agg #[.int .i64 a.x, .int .i64 a.y, .int .i64 a.z, .int .i64 a.a, .int .i64 a.b, .int .i64 a.c, .int .i64 a.d, .int .i64 b.x, .int .i64 b.y, .int .i64 b.z, .int .i64 b.a, .int .i64 b.b, .int .i64 b.c, .int .i64 b.d, .int .i64 c.x, .int .i64 c.y, .int .i64 c.z, .int .i64 c.a, .int .i64 c.b, .int .i64 c.c, .int .i64 c.d])
    (h : wpList Try.prog ops Q rest (k.put (some p) (.pointer (some ⟨w.heap.size, 0, none⟩))) (w.alloc (.cells #[.int .i64 a.x, .int .i64 a.y, .int .i64 a.z, .int .i64 a.a, .int .i64 a.b, .int .i64 a.c, .int .i64 a.d, .int .i64 b.x, .int .i64 b.y, .int .i64 b.z, .int .i64 b.a, .int .i64 b.b, .int .i64 b.c, .int .i64 b.d, .int .i64 c.x, .int .i64 c.y, .int .i64 c.z, .int .i64 c.a, .int .i64 c.b, .int .i64 c.c, .int .i64 c.d] 38))) : wpList Try.prog ops Q (o :: o' :: rest) k w := by
  refine BigFrame.wpList_want hw fun K hK => ?_
  have z : ∀ w', (zeroValue 38).run Try.prog w' = .ok (.agg (Array.replicate 21 (.int .i64 0))) w' := (zero_of_info (P := Try.prog) (t := 38) (n := 21) (by kernel_rfl)).1
  have hz : ∃ z : Array Value, z.size = 21 ∧ ∀ K', K' (k.put (some p) (.pointer (some ⟨w.heap.size, 0, none⟩))) (w.alloc (.cells z 38)) → o.wp Try.prog k w K' Q := by
    refine ⟨Array.replicate 21 (.int .i64 0), by simp, fun K' h' => ?_⟩
    unfold Oper.wp execOp
    simp only [ho, Instr.alloc]
    simp [z, go_sem, hd]
    exact h'
  obtain ⟨z, hs, hz⟩ := hz
  refine hz _ (hK _ _ ?_)
  refine BigFrame.wpList_want hw' fun K2 hK2 => ?_
  refine wp_store_row 38 _ y ho' w.heap.size _ hx hy 38 z (heap_alloc_new _ _) (by kernel_rfl) (by rw [hs]; rfl) (by kernel_rfl) (hK2 _ _ ?_)
  rw [World.setRow_alloc_new, hd']
  exact h
/-- Three points made of three. -/
theorem opw_buildT (x y z : Operand) (ho : o.op = .build 38 #[(0, x), (1, y), (2, z)]) (hx : k.eval x = .agg #[.int .i64 a.x, .int .i64 a.y, .int .i64 a.z, .int .i64 a.a, .int .i64 a.b, .int .i64 a.c, .int .i64 a.d]) (hy : k.eval y = .agg #[.int .i64 b.x, .int .i64 b.y, .int .i64 b.z, .int .i64 b.a, .int .i64 b.b, .int .i64 b.c, .int .i64 b.d]) (hz : k.eval z = .agg #[.int .i64 c.x, .int .i64 c.y, .int .i64 c.z, .int .i64 c.a, .int .i64 c.b, .int .i64 c.c, .int .i64 c.d])
    (h : K (k.put o.dst (.agg #[.int .i64 a.x, .int .i64 a.y, .int .i64 a.z, .int .i64 a.a, .int .i64 a.b, .int .i64 a.c, .int .i64 a.d, .int .i64 b.x, .int .i64 b.y, .int .i64 b.z, .int .i64 b.a, .int .i64 b.b, .int .i64 b.c, .int .i64 b.d, .int .i64 c.x, .int .i64 c.y, .int .i64 c.z, .int .i64 c.a, .int .i64 c.b, .int .i64 c.c, .int .i64 c.d])) w) : o.wp Try.prog k w K Q := by
  have hf : Try.prog.built 38 ((#[(0, x), (1, y), (2, z)].map fun (i, x) => (i, k.eval x)).toList) = some #[.int .i64 a.x, .int .i64 a.y, .int .i64 a.z, .int .i64 a.a, .int .i64 a.b, .int .i64 a.c, .int .i64 a.d, .int .i64 b.x, .int .i64 b.y, .int .i64 b.z, .int .i64 b.a, .int .i64 b.b, .int .i64 b.c, .int .i64 b.d, .int .i64 c.x, .int .i64 c.y, .int .i64 c.z, .int .i64 c.a, .int .i64 c.b, .int .i64 c.c, .int .i64 c.d] := by
    simp only [List.map_toArray, List.map_cons, List.map_nil, hx, hy, hz]
    kernel_rfl
  refine wp_build 38 _ ho (by rw [hf]; rfl) ?_
  rw [hf]
  exact h
theorem wp_buildT (x y z : Operand) (ho : o.op = .build 38 #[(0, x), (1, y), (2, z)]) (hw : Region.wanted o (yielded ops k.tmps) = true) (hx : k.eval x = .agg #[.int .i64 a.x, .int .i64 a.y, .int .i64 a.z, .int .i64 a.a, .int .i64 a.b, .int .i64 a.c, .int .i64 a.d]) (hy : k.eval y = .agg #[.int .i64 b.x, .int .i64 b.y, .int .i64 b.z, .int .i64 b.a, .int .i64 b.b, .int .i64 b.c, .int .i64 b.d]) (hz : k.eval z = .agg #[.int .i64 c.x, .int .i64 c.y, .int .i64 c.z, .int .i64 c.a, .int .i64 c.b, .int .i64 c.c, .int .i64 c.d])
    (h : wpList Try.prog ops Q rest (k.put o.dst (.agg #[.int .i64 a.x, .int .i64 a.y, .int .i64 a.z, .int .i64 a.a, .int .i64 a.b, .int .i64 a.c, .int .i64 a.d, .int .i64 b.x, .int .i64 b.y, .int .i64 b.z, .int .i64 b.a, .int .i64 b.b, .int .i64 b.c, .int .i64 b.d, .int .i64 c.x, .int .i64 c.y, .int .i64 c.z, .int .i64 c.a, .int .i64 c.b, .int .i64 c.c, .int .i64 c.d])) w) : wpList Try.prog ops Q (o :: rest) k w :=
  BigFrame.wpList_want hw fun _ hK => opw_buildT x y z ho hx hy hz (hK _ _ h)
end
end Go.Proofs.Ytfdlfjecgefgfaa
