/-
  Blocks of four points.
-/
import Derived.Test.YtgcoggejgolhgaaShown
import Derived.Test.YtgcoggejgolhgaaTie
namespace Go.Proofs.Ytgcoggejgolhgaa
open Go.RowKit
attribute [local go_sem ↓] Go.wp_at_zero Go.wp_at_succ

def qB (a b c d : P) : Obj := .cells #[.int .i64 a.x, .int .i64 a.y, .int .i64 a.z, .int .i64 a.a, .int .i64 a.b, .int .i64 a.c, .int .i64 a.d, .int .i64 b.x, .int .i64 b.y, .int .i64 b.z, .int .i64 b.a, .int .i64 b.b, .int .i64 b.c, .int .i64 b.d, .int .i64 c.x, .int .i64 c.y, .int .i64 c.z, .int .i64 c.a, .int .i64 c.b, .int .i64 c.c, .int .i64 c.d, .int .i64 d.x, .int .i64 d.y, .int .i64 d.z, .int .i64 d.a, .int .i64 d.b, .int .i64 d.c, .int .i64 d.d] 39 (0, 0)
theorem qB_cell {w : World} {g : Nat} {a b c d : P} (h : w.heap[g]? = some (qB a b c d)) : ((w.cell? ⟨g, 0, none⟩ = some (.int .i64 a.x) ∧ w.cell? ⟨g, 1, none⟩ = some (.int .i64 a.y) ∧ w.cell? ⟨g, 2, none⟩ = some (.int .i64 a.z) ∧ w.cell? ⟨g, 3, none⟩ = some (.int .i64 a.a) ∧ w.cell? ⟨g, 4, none⟩ = some (.int .i64 a.b) ∧ w.cell? ⟨g, 5, none⟩ = some (.int .i64 a.c) ∧ w.cell? ⟨g, 6, none⟩ = some (.int .i64 a.d)) ∧ (w.cell? ⟨g, 7, none⟩ = some (.int .i64 b.x) ∧ w.cell? ⟨g, 8, none⟩ = some (.int .i64 b.y) ∧ w.cell? ⟨g, 9, none⟩ = some (.int .i64 b.z) ∧ w.cell? ⟨g, 10, none⟩ = some (.int .i64 b.a) ∧ w.cell? ⟨g, 11, none⟩ = some (.int .i64 b.b) ∧ w.cell? ⟨g, 12, none⟩ = some (.int .i64 b.c) ∧ w.cell? ⟨g, 13, none⟩ = some (.int .i64 b.d)) ∧ (w.cell? ⟨g, 14, none⟩ = some (.int .i64 c.x) ∧ w.cell? ⟨g, 15, none⟩ = some (.int .i64 c.y) ∧ w.cell? ⟨g, 16, none⟩ = some (.int .i64 c.z) ∧ w.cell? ⟨g, 17, none⟩ = some (.int .i64 c.a) ∧ w.cell? ⟨g, 18, none⟩ = some (.int .i64 c.b) ∧ w.cell? ⟨g, 19, none⟩ = some (.int .i64 c.c) ∧ w.cell? ⟨g, 20, none⟩ = some (.int .i64 c.d)) ∧ (w.cell? ⟨g, 21, none⟩ = some (.int .i64 d.x) ∧ w.cell? ⟨g, 22, none⟩ = some (.int .i64 d.y) ∧ w.cell? ⟨g, 23, none⟩ = some (.int .i64 d.z) ∧ w.cell? ⟨g, 24, none⟩ = some (.int .i64 d.a) ∧ w.cell? ⟨g, 25, none⟩ = some (.int .i64 d.b) ∧ w.cell? ⟨g, 26, none⟩ = some (.int .i64 d.c) ∧ w.cell? ⟨g, 27, none⟩ = some (.int .i64 d.d))) := by
  unfold qB at h
  simp [World.cell?, h]
theorem qB_free {w : World} {g : Nat} {a b c d : P} (h : w.heap[g]? = some (qB a b c d)) (o : Nat) : w.frozen? ⟨g, o, none⟩ = false := by
  unfold qB at h
  simp [World.frozen?, h]
theorem qB_lt {w : World} {g : Nat} {a b c d : P} (h : w.heap[g]? = some (qB a b c d)) : g < w.heap.size := World.block_lt_of_cell? _ _ (qB_cell h).1.1
theorem qB_grow {w w' : World} {g : Nat} {a b c d : P} (h : w.heap[g]? = some (qB a b c d)) (k : Below w.heap.size w w') : w'.heap[g]? = some (qB a b c d) := (k.block _ (qB_lt h)).trans h
theorem qB_alloc {w : World} {g : Nat} {a b c d : P} (o : Obj) (h : w.heap[g]? = some (qB a b c d)) : (w.alloc o).heap[g]? = some (qB a b c d) := (Below.heap_alloc _ _ _ (qB_lt h)).trans h
theorem qB_set0 {w : World} {g : Nat} {a b c d : P} (v : P) (h : w.heap[g]? = some (qB a b c d)) : (set7 w g 0 v).heap[g]? = some (qB v b c d) := (set7_row 0 v h).trans (by kernel_rfl)
theorem qB_set1 {w : World} {g : Nat} {a b c d : P} (v : P) (h : w.heap[g]? = some (qB a b c d)) : (set7 w g 7 v).heap[g]? = some (qB a v c d) := (set7_row 7 v h).trans (by kernel_rfl)
theorem qB_set2 {w : World} {g : Nat} {a b c d : P} (v : P) (h : w.heap[g]? = some (qB a b c d)) : (set7 w g 14 v).heap[g]? = some (qB a b v d) := (set7_row 14 v h).trans (by kernel_rfl)
theorem qB_set3 {w : World} {g : Nat} {a b c d : P} (v : P) (h : w.heap[g]? = some (qB a b c d)) : (set7 w g 21 v).heap[g]? = some (qB a b c v) := (set7_row 21 v h).trans (by kernel_rfl)

section
variable {ops : Array Oper} {rest : List Oper} {o o' o'' : Oper} {k : Act} {w : World} {Q : Exit → Act → World → Prop}
/-- Four points without numbers, and a new block of them. -/
theorem wp_newQ {p q : Tmp} (hb : o''.op = .build 39 #[]) (hbd : o''.dst = some q) (hwb : Region.wanted o'' (yielded ops k.tmps) = true)
    (ho : o.op = .alloc 39) (hd : o.dst = some p) (hw : Region.wanted o (yielded ops (k.put (some q) (.agg #[.int .i64 zP.x, .int .i64 zP.y, .int .i64 zP.z, .int .i64 zP.a, .int .i64 zP.b, .int .i64 zP.c, .int .i64 zP.d, .int .i64 zP.x, .int .i64 zP.y, .int .i64 zP.z, .int .i64 zP.a, .int .i64 zP.b, .int .i64 zP.c, .int .i64 zP.d, .int .i64 zP.x, .int .i64 zP.y, .int .i64 zP.z, .int .i64 zP.a, .int .i64 zP.b, .int .i64 zP.c, .int .i64 zP.d, .int .i64 zP.x, .int .i64 zP.y, .int .i64 zP.z, .int .i64 zP.a, .int .i64 zP.b, .int .i64 zP.c, .int .i64 zP.d])).tmps) = true)
    (ho' : o'.op = .store 39 (.tmp p) (.tmp q)) (hd' : o'.dst = none) (hw' : Region.wanted o' (yielded ops ((k.put (some q) (.agg #[.int .i64 zP.x, .int .i64 zP.y, .int .i64 zP.z, .int .i64 zP.a, .int .i64 zP.b, .int .i64 zP.c, .int .i64 zP.d, .int .i64 zP.x, .int .i64 zP.y, .int .i64 zP.z, .int .i64 zP.a, .int .i64 zP.b, .int .i64 zP.c, .int .i64 zP.d, .int .i64 zP.x, .int .i64 zP.y, .int .i64 zP.z, .int .i64 zP.a, .int .i64 zP.b, .int .i64 zP.c, .int .i64 zP.d, .int .i64 zP.x, .int .i64 zP.y, .int .i64 zP.z, .int .i64 zP.a, .int .i64 zP.b, .int .i64 zP.c, .int .i64 zP.d])).put (some p) (.pointer (some ⟨w.heap.size, 0, none⟩))).tmps) = true)
    (hx : ((k.put (some q) (.agg #[.int .i64 zP.x, .int .i64 zP.y, .int .i64 zP.z, .int .i64 zP.a, .int .i64 zP.b, .int .i64 zP.c, .int .i64 zP.d, .int .i64 zP.x, .int .i64 zP.y, .int .i64 zP.z, .int .i64 zP.a, .int .i64 zP.b, .int .i64 zP.c, .int .i64 zP.d, .int .i64 zP.x, .int .i64 zP.y, .int .i64 zP.z, .int .i64 zP.a, .int .i64 zP.b, .int .i64 zP.c, .int .i64 zP.d, .int .i64 zP.x, .int .i64 zP.y, .int .i64 zP.z, .int .i64 zP.a, .int .i64 zP.b, .int .i64 zP.c, .int .i64 zP.d])).put (some p) (.pointer (some ⟨w.heap.size, 0, none⟩))).eval (.tmp p) = .pointer (some ⟨w.heap.size, 0, none⟩)) (hy : ((k.put (some q) (.agg #[.int .i64 zP.x, .int .i64 zP.y, .int .i64 zP.z, .int .i64 zP.a, .int .i64 zP.b, .int .i64 zP.c, .int .i64 zP.d, .int .i64 zP.x, .int .i64 zP.y, .int .i64 zP.z, .int .i64 zP.a, .int .i64 zP.b, .int .i64 zP.c, .int .i64 zP.d, .int .i64 zP.x, .int .i64 zP.y, .int .i64 zP.z, .int .i64 zP.a, .int .i64 zP.b, .int .i64 zP.c, .int .i64 zP.d, .int .i64 zP.x, .int .i64 zP.y, .int .i64 zP.z, .int .i64 zP.a, .int .i64 zP.b, .int .i64 zP.c, .int .i64 zP.d])).put (some p) (.pointer (some ⟨w.heap.size, 0, none⟩))).eval (.tmp q) = .agg #[.int .i64 zP.x, .int .i64 zP.y, .int .i64 zP.z, .int .i64 zP.a, .int .i64 zP.b, .int .i64 zP.c, .int .i64 zP.d, .int .i64 zP.x, .int .i64 zP.y, .int .i64 zP.z, .int .i64 zP.a, .int .i64 zP.b, .int .i64 zP.c, .int .i64 zP.d, .int .i64 zP.x, .int .i64 zP.y, .int .i64 zP.z, .int .i64 zP.a, .int .i64 zP.b, .int .i64 zP.c, .int .i64 zP.d, .int .i64 zP.x, .int .i64 zP.y, .int .i64 zP.z, .int .i64 zP.a, .int .i64 zP.b, .int .i64 zP.c, .int .i64 zP.d])
    (h : wpList Try.prog ops Q rest ((k.put (some q) (.agg #[.int .i64 zP.x, .int .i64 zP.y, .int .i64 zP.z, .int .i64 zP.a, .int .i64 zP.b, .int .i64 zP.c, .int .i64 zP.d, .int .i64 zP.x, .int .i64 zP.y, .int .i64 zP.z, .int .i64 zP.a, .int .i64 zP.b, .int .i64 zP.c, .int .i64 zP.d, .int .i64 zP.x, .int .i64 zP.y, .int .i64 zP.z, .int .i64 zP.a, .int .i64 zP.b, .int .i64 zP.c, .int .i64 zP.d, .int .i64 zP.x, .int .i64 zP.y, .int .i64 zP.z, .int .i64 zP.a, .int .i64 zP.b, .int .i64 zP.c, .int .i64 zP.d])).put (some p) (.pointer (some ⟨w.heap.size, 0, none⟩))) (w.alloc (.cells #[.int .i64 zP.x, .int .i64 zP.y, .int .i64 zP.z, .int .i64 zP.a, .int .i64 zP.b, .int .i64 zP.c, .int .i64 zP.d, .int .i64 zP.x, .int .i64 zP.y, .int .i64 zP.z, .int .i64 zP.a, .int .i64 zP.b, .int .i64 zP.c, .int .i64 zP.d, .int .i64 zP.x, .int .i64 zP.y, .int .i64 zP.z, .int .i64 zP.a, .int .i64 zP.b, .int .i64 zP.c, .int .i64 zP.d, .int .i64 zP.x, .int .i64 zP.y, .int .i64 zP.z, .int .i64 zP.a, .int .i64 zP.b, .int .i64 zP.c, .int .i64 zP.d] 39))) : wpList Try.prog ops Q (o'' :: o :: o' :: rest) k w := by
  refine BigFrame.wpList_want hwb fun K0 hK0 => ?_
  have hf : Try.prog.built 39 (((#[] : Array (Nat × Operand)).map fun (i, x) => (i, k.eval x)).toList) = some #[.int .i64 zP.x, .int .i64 zP.y, .int .i64 zP.z, .int .i64 zP.a, .int .i64 zP.b, .int .i64 zP.c, .int .i64 zP.d, .int .i64 zP.x, .int .i64 zP.y, .int .i64 zP.z, .int .i64 zP.a, .int .i64 zP.b, .int .i64 zP.c, .int .i64 zP.d, .int .i64 zP.x, .int .i64 zP.y, .int .i64 zP.z, .int .i64 zP.a, .int .i64 zP.b, .int .i64 zP.c, .int .i64 zP.d, .int .i64 zP.x, .int .i64 zP.y, .int .i64 zP.z, .int .i64 zP.a, .int .i64 zP.b, .int .i64 zP.c, .int .i64 zP.d] := by kernel_rfl
  refine wp_build 39 _ hb (by rw [hf]; rfl) ?_
  rw [hf, hbd]
  refine hK0 _ _ ?_
  refine BigFrame.wpList_want hw fun K hK => ?_
  have z : ∀ w', (zeroValue 39).run Try.prog w' = .ok (.agg (Array.replicate 28 (.int .i64 0))) w' := (zero_of_info (P := Try.prog) (t := 39) (n := 28) (by kernel_rfl)).1
  have hz : ∃ z : Array Value, z.size = 28 ∧ ∀ K' : Act → World → Prop, K' ((k.put (some q) (.agg #[.int .i64 zP.x, .int .i64 zP.y, .int .i64 zP.z, .int .i64 zP.a, .int .i64 zP.b, .int .i64 zP.c, .int .i64 zP.d, .int .i64 zP.x, .int .i64 zP.y, .int .i64 zP.z, .int .i64 zP.a, .int .i64 zP.b, .int .i64 zP.c, .int .i64 zP.d, .int .i64 zP.x, .int .i64 zP.y, .int .i64 zP.z, .int .i64 zP.a, .int .i64 zP.b, .int .i64 zP.c, .int .i64 zP.d, .int .i64 zP.x, .int .i64 zP.y, .int .i64 zP.z, .int .i64 zP.a, .int .i64 zP.b, .int .i64 zP.c, .int .i64 zP.d])).put (some p) (.pointer (some ⟨w.heap.size, 0, none⟩))) (w.alloc (.cells z 39)) → o.wp Try.prog (k.put (some q) (.agg #[.int .i64 zP.x, .int .i64 zP.y, .int .i64 zP.z, .int .i64 zP.a, .int .i64 zP.b, .int .i64 zP.c, .int .i64 zP.d, .int .i64 zP.x, .int .i64 zP.y, .int .i64 zP.z, .int .i64 zP.a, .int .i64 zP.b, .int .i64 zP.c, .int .i64 zP.d, .int .i64 zP.x, .int .i64 zP.y, .int .i64 zP.z, .int .i64 zP.a, .int .i64 zP.b, .int .i64 zP.c, .int .i64 zP.d, .int .i64 zP.x, .int .i64 zP.y, .int .i64 zP.z, .int .i64 zP.a, .int .i64 zP.b, .int .i64 zP.c, .int .i64 zP.d])) w K' Q := by
    refine ⟨Array.replicate 28 (.int .i64 0), by simp, fun K' h' => ?_⟩
    unfold Oper.wp execOp
    simp only [ho, Instr.alloc]
    simp [z, go_sem, hd]
    exact h'
  obtain ⟨z, hs, hz⟩ := hz
  refine hz _ (hK _ _ ?_)
  refine BigFrame.wpList_want hw' fun K2 hK2 => ?_
  refine wp_store_row 39 _ _ ho' w.heap.size _ hx hy 39 z (heap_alloc_new _ _) (by kernel_rfl) (by rw [hs]; rfl) (by kernel_rfl) (hK2 _ _ ?_)
  rw [World.setRow_alloc_new, hd']
  exact h
end
end Go.Proofs.Ytgcoggejgolhgaa
