/-
  Values of many cells: out of the middle of a block, built, made anew; three vertices, parts of a triangle.
-/
import Derived.Test.YtfdlfjecgefgfaaRw
import Derived.Test.YtfdlfjecgefgfaaCVs
import Derived.Test.YtfdlfjecgefgfaaCPs
import Derived.Deep.MidRow
namespace Go.Proofs.Ytfdlfjecgefgfaa
open Go.RowKit
attribute [local go_sem ↓] Go.wp_at_zero Go.wp_at_succ

theorem row_mid {w : World} {g : Nat} {cs : Array Value} {t : TypeId} {fr : Nat × Nat} (h : w.heap[g]? = some (.cells cs t fr)) (o n : Nat) : w.rangeAt g o ((cs.toList.drop o).take n) := by
  intro j u hj
  rw [cell_of_row w g (o + j) cs t fr h]
  rw [List.getElem?_take] at hj
  split at hj
  · rw [List.getElem?_drop, Array.getElem?_toList] at hj
    exact hj
  · cases hj
theorem range_below {w w' : World} {B g o : Nat} {cs : List Value} (h : w.rangeAt g o cs) (hb : Below B w w') (hg : g < B) : w'.rangeAt g o cs := fun j u hj => (hb.cell (p := ⟨g, o + j, none⟩) hg).trans (h j u hj)
/-- Three vertices in a block. -/
def v3B (a b c : C.V) : Obj := .cells #[.int .i64 a.x, .int .i64 a.y, .int .i64 a.z, .int .i64 a.w, .int .i64 a.a, .int .i64 a.b, .int .i64 a.c, .int .i64 a.d, .int .i64 b.x, .int .i64 b.y, .int .i64 b.z, .int .i64 b.w, .int .i64 b.a, .int .i64 b.b, .int .i64 b.c, .int .i64 b.d, .int .i64 c.x, .int .i64 c.y, .int .i64 c.z, .int .i64 c.w, .int .i64 c.a, .int .i64 c.b, .int .i64 c.c, .int .i64 c.d] 26 (0, 0)
section
variable {w w' : World} {g : Nat} {a b c : C.V}
theorem v3B_lt (h : w.heap[g]? = some (v3B a b c)) : g < w.heap.size := (Array.getElem?_eq_some_iff.1 h).1
theorem v3B_grow (h : w.heap[g]? = some (v3B a b c)) (k : Below w.heap.size w w') : w'.heap[g]? = some (v3B a b c) := (k.block _ (v3B_lt h)).trans h
theorem v3B_0 (h : w.heap[g]? = some (v3B a b c)) : w.rangeAt g 0 [.int .i64 a.x, .int .i64 a.y, .int .i64 a.z, .int .i64 a.w, .int .i64 a.a, .int .i64 a.b, .int .i64 a.c, .int .i64 a.d] := row_mid h 0 8
theorem v3B_1 (h : w.heap[g]? = some (v3B a b c)) : w.rangeAt g 8 [.int .i64 b.x, .int .i64 b.y, .int .i64 b.z, .int .i64 b.w, .int .i64 b.a, .int .i64 b.b, .int .i64 b.c, .int .i64 b.d] := row_mid h 8 8
theorem v3B_2 (h : w.heap[g]? = some (v3B a b c)) : w.rangeAt g 16 [.int .i64 c.x, .int .i64 c.y, .int .i64 c.z, .int .i64 c.w, .int .i64 c.a, .int .i64 c.b, .int .i64 c.c, .int .i64 c.d] := row_mid h 16 8
theorem at8_of {o : Nat} {v : C.V} (h : w.rangeAt g o [.int .i64 v.x, .int .i64 v.y, .int .i64 v.z, .int .i64 v.w, .int .i64 v.a, .int .i64 v.b, .int .i64 v.c, .int .i64 v.d]) : C.At8 w g o v :=
  ⟨h 0 _ rfl, h 1 _ rfl, h 2 _ rfl, h 3 _ rfl, h 4 _ rfl, h 5 _ rfl, h 6 _ rfl, h 7 _ rfl⟩
theorem v3B_vs (h : w.heap[g]? = some (v3B a b c)) : C.Vs w w.heap.size (some ⟨g, 0, none⟩) [a, b, c] := fun _ =>
  ⟨g, 0, rfl, v3B_lt h, fun j u hj => by
    match j, hj with
    | 0, hj => obtain rfl : a = u := by simpa using hj
               exact at8_of (v3B_0 h)
    | 1, hj => obtain rfl : b = u := by simpa using hj
               exact at8_of (v3B_1 h)
    | 2, hj => obtain rfl : c = u := by simpa using hj
               exact at8_of (v3B_2 h)⟩
end

theorem row_vs {w : World} {g : Nat} {t : TypeId} {a b c : C.V} (h : w.heap[g]? = some (.cells #[.int .i64 a.x, .int .i64 a.y, .int .i64 a.z, .int .i64 a.w, .int .i64 a.a, .int .i64 a.b, .int .i64 a.c, .int .i64 a.d, .int .i64 b.x, .int .i64 b.y, .int .i64 b.z, .int .i64 b.w, .int .i64 b.a, .int .i64 b.b, .int .i64 b.c, .int .i64 b.d, .int .i64 c.x, .int .i64 c.y, .int .i64 c.z, .int .i64 c.w, .int .i64 c.a, .int .i64 c.b, .int .i64 c.c, .int .i64 c.d] t (0, 0))) : C.Vs w w.heap.size (some ⟨g, 0, none⟩) [a, b, c] := fun _ =>
  ⟨g, 0, rfl, (Array.getElem?_eq_some_iff.1 h).1, fun j u hj => by
    match j, hj with
    | 0, hj => obtain rfl : a = u := by simpa using hj
               exact at8_of (row_mid h 0 8)
    | 1, hj => obtain rfl : b = u := by simpa using hj
               exact at8_of (row_mid h 8 8)
    | 2, hj => obtain rfl : c = u := by simpa using hj
               exact at8_of (row_mid h 16 8)⟩

/-- A part of a triangle. -/
structure Q where
  n : Int
  a : P
  b : P
  c : P
  deriving DecidableEq
def EQ : Elem Q := ⟨40, 22, fun q => [.int .i64 q.n, .int .i64 q.a.x, .int .i64 q.a.y, .int .i64 q.a.z, .int .i64 q.a.a, .int .i64 q.a.b, .int .i64 q.a.c, .int .i64 q.a.d, .int .i64 q.b.x, .int .i64 q.b.y, .int .i64 q.b.z, .int .i64 q.b.a, .int .i64 q.b.b, .int .i64 q.b.c, .int .i64 q.b.d, .int .i64 q.c.x, .int .i64 q.c.y, .int .i64 q.c.z, .int .i64 q.c.a, .int .i64 q.c.b, .int .i64 q.c.c, .int .i64 q.c.d], by decide, fun _ => rfl, fun q u hu => by
  simp only [List.mem_cons, List.not_mem_nil, or_false] at hu
  rcases hu with rfl | rfl | rfl | rfl | rfl | rfl | rfl | rfl | rfl | rfl | rfl | rfl | rfl | rfl | rfl | rfl | rfl | rfl | rfl | rfl | rfl | rfl <;> rfl⟩
theorem Try.info40 : (Try.prog.info? 40).map (fun i => (i.zero, i.size, i.bytes)) = some (some (.agg (Array.replicate 22 (.int .i64 0))), 22, 176) := by kernel_rfl
theorem atQ_n {w : World} {b o : Nat} {q : Q} (h : AtE EQ w b o q) : w.cell? ⟨b, o, none⟩ = some (.int .i64 q.n) := h 0 _ rfl
theorem atQ_t {w : World} {b o : Nat} {q : Q} (h : AtE EQ w b o q) : w.rangeAt b (o + 1) [.int .i64 q.a.x, .int .i64 q.a.y, .int .i64 q.a.z, .int .i64 q.a.a, .int .i64 q.a.b, .int .i64 q.a.c, .int .i64 q.a.d, .int .i64 q.b.x, .int .i64 q.b.y, .int .i64 q.b.z, .int .i64 q.b.a, .int .i64 q.b.b, .int .i64 q.b.c, .int .i64 q.b.d, .int .i64 q.c.x, .int .i64 q.c.y, .int .i64 q.c.z, .int .i64 q.c.a, .int .i64 q.c.b, .int .i64 q.c.c, .int .i64 q.c.d] := fun j u hj => by
  have := h (1 + j) u (by
    rw [Nat.add_comm]
    exact hj)
  rw [← Nat.add_assoc] at this
  exact this
theorem atQ_all {w : World} {b o : Nat} {q : Q} (h : AtE EQ w b o q) : w.rangeAt b o [.int .i64 q.n, .int .i64 q.a.x, .int .i64 q.a.y, .int .i64 q.a.z, .int .i64 q.a.a, .int .i64 q.a.b, .int .i64 q.a.c, .int .i64 q.a.d, .int .i64 q.b.x, .int .i64 q.b.y, .int .i64 q.b.z, .int .i64 q.b.a, .int .i64 q.b.b, .int .i64 q.b.c, .int .i64 q.b.d, .int .i64 q.c.x, .int .i64 q.c.y, .int .i64 q.c.z, .int .i64 q.c.a, .int .i64 q.c.b, .int .i64 q.c.c, .int .i64 q.c.d] := h

section
variable {ops : Array Oper} {rest : List Oper} {o o' : Oper} {k : Act} {w : World} {R : Exit → Act → World → Prop} {K : Act → World → Prop} {g e : Nat} {a b c : P}
/-- Three points out of the middle of a block. -/
theorem wp_midT (x : Operand) (ho : o.op = .load 38 x) (hw : Region.wanted o (yielded ops k.tmps) = true) (hx : k.eval x = .pointer (some ⟨g, e, none⟩)) (hr : w.rangeAt g e [.int .i64 a.x, .int .i64 a.y, .int .i64 a.z, .int .i64 a.a, .int .i64 a.b, .int .i64 a.c, .int .i64 a.d, .int .i64 b.x, .int .i64 b.y, .int .i64 b.z, .int .i64 b.a, .int .i64 b.b, .int .i64 b.c, .int .i64 b.d, .int .i64 c.x, .int .i64 c.y, .int .i64 c.z, .int .i64 c.a, .int .i64 c.b, .int .i64 c.c, .int .i64 c.d])
    (h : wpList Try.prog ops R rest (k.put o.dst (.agg #[.int .i64 a.x, .int .i64 a.y, .int .i64 a.z, .int .i64 a.a, .int .i64 a.b, .int .i64 a.c, .int .i64 a.d, .int .i64 b.x, .int .i64 b.y, .int .i64 b.z, .int .i64 b.a, .int .i64 b.b, .int .i64 b.c, .int .i64 b.d, .int .i64 c.x, .int .i64 c.y, .int .i64 c.z, .int .i64 c.a, .int .i64 c.b, .int .i64 c.c, .int .i64 c.d])) w) : wpList Try.prog ops R (o :: rest) k w :=
  BigFrame.wpList_want hw fun _ hK => wp_load_mid 38 x ho g e hx _ _ hr Try.underlying38 rfl (by kernel_rfl) (hK _ _ h)
theorem yields_midT {X : World} (x : Operand) (ho : o.op = .load 38 x) (hw : Region.wanted o (yielded ops k.tmps) = true) (hx : k.eval x = .pointer (some ⟨g, e, none⟩)) (hr : X.rangeAt g e [.int .i64 a.x, .int .i64 a.y, .int .i64 a.z, .int .i64 a.a, .int .i64 a.b, .int .i64 a.c, .int .i64 a.d, .int .i64 b.x, .int .i64 b.y, .int .i64 b.z, .int .i64 b.a, .int .i64 b.b, .int .i64 b.c, .int .i64 b.d, .int .i64 c.x, .int .i64 c.y, .int .i64 c.z, .int .i64 c.a, .int .i64 c.b, .int .i64 c.c, .int .i64 c.d]) (hg : g < X.heap.size) :
    YieldsIf Try.prog ops (fun w' => ∃ x : Grow X, w' = x.w) o (.agg #[.int .i64 a.x, .int .i64 a.y, .int .i64 a.z, .int .i64 a.a, .int .i64 a.b, .int .i64 a.c, .int .i64 a.d, .int .i64 b.x, .int .i64 b.y, .int .i64 b.z, .int .i64 b.a, .int .i64 b.b, .int .i64 b.c, .int .i64 b.d, .int .i64 c.x, .int .i64 c.y, .int .i64 c.z, .int .i64 c.a, .int .i64 c.b, .int .i64 c.c, .int .i64 c.d]) k :=
  yieldsIf_load_mid hw 38 x ho g e hx _ _ (fun w hw' => by obtain ⟨y, rfl⟩ := hw'; exact range_below hr y.below hg) Try.underlying38 rfl (by kernel_rfl)
theorem quiet_midT {X : World} {S : Act → Prop} (x : Operand) (ho : o.op = .load 38 x) (hw : Region.wanted o (yielded ops k.tmps) = true) (hx : k.eval x = .pointer (some ⟨g, e, none⟩)) (hr : X.rangeAt g e [.int .i64 a.x, .int .i64 a.y, .int .i64 a.z, .int .i64 a.a, .int .i64 a.b, .int .i64 a.c, .int .i64 a.d, .int .i64 b.x, .int .i64 b.y, .int .i64 b.z, .int .i64 b.a, .int .i64 b.b, .int .i64 b.c, .int .i64 b.d, .int .i64 c.x, .int .i64 c.y, .int .i64 c.z, .int .i64 c.a, .int .i64 c.b, .int .i64 c.c, .int .i64 c.d]) (hg : g < X.heap.size)
    (h : wpQuiet Try.prog ops (fun w' => ∃ x : Grow X, w' = x.w) S rest (k.put o.dst (.agg #[.int .i64 a.x, .int .i64 a.y, .int .i64 a.z, .int .i64 a.a, .int .i64 a.b, .int .i64 a.c, .int .i64 a.d, .int .i64 b.x, .int .i64 b.y, .int .i64 b.z, .int .i64 b.a, .int .i64 b.b, .int .i64 b.c, .int .i64 b.d, .int .i64 c.x, .int .i64 c.y, .int .i64 c.z, .int .i64 c.a, .int .i64 c.b, .int .i64 c.c, .int .i64 c.d]))) : wpQuiet Try.prog ops (fun w' => ∃ x : Grow X, w' = x.w) S (o :: rest) k :=
  BigFrame.wpQuiet_want hw fun K hK => ⟨.agg #[.int .i64 a.x, .int .i64 a.y, .int .i64 a.z, .int .i64 a.a, .int .i64 a.b, .int .i64 a.c, .int .i64 a.d, .int .i64 b.x, .int .i64 b.y, .int .i64 b.z, .int .i64 b.a, .int .i64 b.b, .int .i64 b.c, .int .i64 b.d, .int .i64 c.x, .int .i64 c.y, .int .i64 c.z, .int .i64 c.a, .int .i64 c.b, .int .i64 c.c, .int .i64 c.d], fun w hw => by
    obtain ⟨y, rfl⟩ := hw
    unfold Oper.quietAt
    have hl := run_loadAt_mid (P := Try.prog) y.w g e 38 [.int .i64 a.x, .int .i64 a.y, .int .i64 a.z, .int .i64 a.a, .int .i64 a.b, .int .i64 a.c, .int .i64 a.d, .int .i64 b.x, .int .i64 b.y, .int .i64 b.z, .int .i64 b.a, .int .i64 b.b, .int .i64 b.c, .int .i64 b.d, .int .i64 c.x, .int .i64 c.y, .int .i64 c.z, .int .i64 c.a, .int .i64 c.b, .int .i64 c.c, .int .i64 c.d] _ (range_below hr y.below hg) Try.underlying38 rfl (by kernel_rfl)
    simp [execOp, ho, hx, hl, Result.andThen]
    exact ⟨rfl, rfl⟩, hK _ h⟩
theorem yields_vec {X : World} {v : C.V} (x : Operand) (ho : o.op = .load 25 x) (hw : Region.wanted o (yielded ops k.tmps) = true) (hx : k.eval x = .pointer (some ⟨g, e, none⟩)) (hr : X.rangeAt g e [.int .i64 v.x, .int .i64 v.y, .int .i64 v.z, .int .i64 v.w, .int .i64 v.a, .int .i64 v.b, .int .i64 v.c, .int .i64 v.d]) (hg : g < X.heap.size) :
    YieldsIf Try.prog ops (fun w' => ∃ x : Grow X, w' = x.w) o (.agg #[.int .i64 v.x, .int .i64 v.y, .int .i64 v.z, .int .i64 v.w, .int .i64 v.a, .int .i64 v.b, .int .i64 v.c, .int .i64 v.d]) k :=
  yieldsIf_load_mid hw 25 x ho g e hx _ _ (fun w hw' => by obtain ⟨y, rfl⟩ := hw'; exact range_below hr y.below hg) Try.underlying25 rfl (by kernel_rfl)
theorem yields_pnt {X : World} {v : P} (x : Operand) (ho : o.op = .load 37 x) (hw : Region.wanted o (yielded ops k.tmps) = true) (hx : k.eval x = .pointer (some ⟨g, e, none⟩)) (hr : X.rangeAt g e [.int .i64 v.x, .int .i64 v.y, .int .i64 v.z, .int .i64 v.a, .int .i64 v.b, .int .i64 v.c, .int .i64 v.d]) (hg : g < X.heap.size) :
    YieldsIf Try.prog ops (fun w' => ∃ x : Grow X, w' = x.w) o (.agg #[.int .i64 v.x, .int .i64 v.y, .int .i64 v.z, .int .i64 v.a, .int .i64 v.b, .int .i64 v.c, .int .i64 v.d]) k :=
  yieldsIf_load_mid hw 37 x ho g e hx _ _ (fun w hw' => by obtain ⟨y, rfl⟩ := hw'; exact range_below hr y.below hg) Try.underlying37 rfl (by kernel_rfl)
/-- What is built out of parts, where a region draws its order. -/
theorem yields_build {S : World → Prop} (t : TypeId) (l : List (Nat × Operand)) (cs : Array Value) (ho : o.op = .build t l.toArray) (hw : Region.wanted o (yielded ops k.tmps) = true)
    (hf : Try.prog.built t ((l.toArray.map fun (i, x) => (i, k.eval x)).toList) = some cs) : YieldsIf Try.prog ops S o (.agg cs) k :=
  .inl ⟨hw, fun w _ => by
    unfold execOp
    simp only [ho, Sem.run_bind, run_build w t _ cs hf, Result.andThen_ok]
    rfl⟩
theorem wp_buildBig (t : TypeId) (l : List (Nat × Operand)) (cs : Array Value) (ho : o.op = .build t l.toArray) (hw : Region.wanted o (yielded ops k.tmps) = true)
    (hf : Try.prog.built t ((l.toArray.map fun (i, x) => (i, k.eval x)).toList) = some cs)
    (h : wpList Try.prog ops R rest (k.put o.dst (.agg cs)) w) : wpList Try.prog ops R (o :: rest) k w :=
  BigFrame.wpList_want hw fun _ hK => by
    refine wp_build t _ ho (by rw [hf]; rfl) ?_
    rw [hf]
    exact hK _ _ h
/-- A new slice of as many elements as are told. -/
theorem run_bsl (w : World) (t elem : TypeId) (n len : Nat) (zero : Value) (parts : Array (Nat × Value)) (cells : Array Value) (ht : Try.prog.underlying t = some (.slice elem)) (hsz : ∀ w, (sizeOf elem).run Try.prog w = .ok n w) (hz : ∀ w, (zeroValue elem).run Try.prog w = .ok zero w)
    (hle : ¬ len * n > 2 ^ 24) (hne : ¬ len * n = 0) (hf : Instr.fill (fun i => some (i * n, n)) ((Array.range (len * n)).map (zero.cells[· % zero.cells.size]!)) parts.toList = some cells) :
    (Instr.buildSlice t len parts).run Try.prog w = .ok (.slice (some ⟨w.heap.size, 0, none⟩) len len) (w.alloc (.cells cells elem)) := by
  unfold Instr.buildSlice
  simp only [Sem.run_bind, run_underlying ht, Result.andThen_ok, hsz]
  rw [if_neg hle, if_neg hne]
  simp only [Sem.run_bind, hz, Result.andThen_ok, Sem.run_pure, hf, newRow]
  simp [go_sem]
theorem wp_bslBig (t elem : TypeId) (n len : Nat) (zero : Value) (l : List (Nat × Operand)) (cells : Array Value) (ho : o.op = .buildSlice t len l.toArray) (hw : Region.wanted o (yielded ops k.tmps) = true) (ht : Try.prog.underlying t = some (.slice elem)) (hsz : ∀ w, (sizeOf elem).run Try.prog w = .ok n w) (hz : ∀ w, (zeroValue elem).run Try.prog w = .ok zero w)
    (hle : ¬ len * n > 2 ^ 24) (hne : ¬ len * n = 0) (hf : Instr.fill (fun i => some (i * n, n)) ((Array.range (len * n)).map (zero.cells[· % zero.cells.size]!)) ((l.toArray.map fun (i, x) => (i, k.eval x)).toList) = some cells)
    (h : wpList Try.prog ops R rest (k.put o.dst (.slice (some ⟨w.heap.size, 0, none⟩) len len)) (w.alloc (.cells cells elem))) : wpList Try.prog ops R (o :: rest) k w :=
  BigFrame.wpList_want hw fun _ hK => by
    unfold Oper.wp execOp
    simp only [ho, Sem.run_bind, run_bsl w t elem n len zero _ cells ht hsz hz hle hne hf, Result.andThen_ok]
    exact hK _ _ h
/-- A new block of three points, all nothing. -/
theorem opw_allocT {p : Tmp} (ho : o.op = .alloc 38) (hd : o.dst = some p) (h : K (k.put (some p) (.pointer (some ⟨w.heap.size, 0, none⟩))) (w.alloc (tB zP zP zP))) : o.wp Try.prog k w K R := by
  have z : ∀ w', (zeroValue 38).run Try.prog w' = .ok (.agg (Array.replicate 21 (.int .i64 0))) w' := (zero_of_info (P := Try.prog) (t := 38) (n := 21) (by kernel_rfl)).1
  unfold Oper.wp execOp
  simp only [ho, Instr.alloc]
  simp [z, go_sem, hd]
  exact h
end
theorem zero40 : ∀ w', (zeroValue 40).run Try.prog w' = .ok (.agg (Array.replicate 22 (.int .i64 0))) w' := (zero_of_info (P := Try.prog) (t := 40) (n := 22) (by kernel_rfl)).1
theorem zero25 : ∀ w', (zeroValue 25).run Try.prog w' = .ok (.agg (Array.replicate 8 (.int .i64 0))) w' := (zero_of_info (P := Try.prog) (t := 25) (n := 8) (by kernel_rfl)).1
section
variable {ops : Array Oper} {rest : List Oper} {o : Oper} {k : Act} {w : World} {R : Exit → Act → World → Prop}
theorem wp_buildQ {a b c : P} {n : Int} (x y : Operand) (ho : o.op = .build 40 #[(0, x), (1, y)]) (hw : Region.wanted o (yielded ops k.tmps) = true) (hx : k.eval x = .int .i64 n) (hy : k.eval y = .agg #[.int .i64 a.x, .int .i64 a.y, .int .i64 a.z, .int .i64 a.a, .int .i64 a.b, .int .i64 a.c, .int .i64 a.d, .int .i64 b.x, .int .i64 b.y, .int .i64 b.z, .int .i64 b.a, .int .i64 b.b, .int .i64 b.c, .int .i64 b.d, .int .i64 c.x, .int .i64 c.y, .int .i64 c.z, .int .i64 c.a, .int .i64 c.b, .int .i64 c.c, .int .i64 c.d])
    (h : wpList Try.prog ops R rest (k.put o.dst (.agg #[.int .i64 n, .int .i64 a.x, .int .i64 a.y, .int .i64 a.z, .int .i64 a.a, .int .i64 a.b, .int .i64 a.c, .int .i64 a.d, .int .i64 b.x, .int .i64 b.y, .int .i64 b.z, .int .i64 b.a, .int .i64 b.b, .int .i64 b.c, .int .i64 b.d, .int .i64 c.x, .int .i64 c.y, .int .i64 c.z, .int .i64 c.a, .int .i64 c.b, .int .i64 c.c, .int .i64 c.d])) w) : wpList Try.prog ops R (o :: rest) k w :=
  wp_buildBig 40 [(0, x), (1, y)] _ ho hw (by
    simp only [List.map_toArray, List.map_cons, List.map_nil, hx, hy]
    kernel_rfl) h
theorem wp_bslQ {a b c : P} {n : Int} (x : Operand) (ho : o.op = .buildSlice 30 1 #[(0, x)]) (hw : Region.wanted o (yielded ops k.tmps) = true) (hx : k.eval x = .agg #[.int .i64 n, .int .i64 a.x, .int .i64 a.y, .int .i64 a.z, .int .i64 a.a, .int .i64 a.b, .int .i64 a.c, .int .i64 a.d, .int .i64 b.x, .int .i64 b.y, .int .i64 b.z, .int .i64 b.a, .int .i64 b.b, .int .i64 b.c, .int .i64 b.d, .int .i64 c.x, .int .i64 c.y, .int .i64 c.z, .int .i64 c.a, .int .i64 c.b, .int .i64 c.c, .int .i64 c.d])
    (h : wpList Try.prog ops R rest (k.put o.dst (.slice (some ⟨w.heap.size, 0, none⟩) 1 1)) (w.alloc (.cells #[.int .i64 n, .int .i64 a.x, .int .i64 a.y, .int .i64 a.z, .int .i64 a.a, .int .i64 a.b, .int .i64 a.c, .int .i64 a.d, .int .i64 b.x, .int .i64 b.y, .int .i64 b.z, .int .i64 b.a, .int .i64 b.b, .int .i64 b.c, .int .i64 b.d, .int .i64 c.x, .int .i64 c.y, .int .i64 c.z, .int .i64 c.a, .int .i64 c.b, .int .i64 c.c, .int .i64 c.d] 40))) : wpList Try.prog ops R (o :: rest) k w :=
  wp_bslBig 30 40 22 1 _ [(0, x)] _ ho hw Try.underlying30 Try.sizeOf40 zero40 (by decide) (by decide) (by
    simp only [List.map_toArray, List.map_cons, List.map_nil, hx]
    kernel_rfl) h
theorem wp_bslV {a b c : C.V} (x y z : Operand) (ho : o.op = .buildSlice 56 3 #[(0, x), (1, y), (2, z)]) (hw : Region.wanted o (yielded ops k.tmps) = true) (hx : k.eval x = .agg #[.int .i64 a.x, .int .i64 a.y, .int .i64 a.z, .int .i64 a.w, .int .i64 a.a, .int .i64 a.b, .int .i64 a.c, .int .i64 a.d]) (hy : k.eval y = .agg #[.int .i64 b.x, .int .i64 b.y, .int .i64 b.z, .int .i64 b.w, .int .i64 b.a, .int .i64 b.b, .int .i64 b.c, .int .i64 b.d]) (hz : k.eval z = .agg #[.int .i64 c.x, .int .i64 c.y, .int .i64 c.z, .int .i64 c.w, .int .i64 c.a, .int .i64 c.b, .int .i64 c.c, .int .i64 c.d])
    (h : wpList Try.prog ops R rest (k.put o.dst (.slice (some ⟨w.heap.size, 0, none⟩) 3 3)) (w.alloc (.cells #[.int .i64 a.x, .int .i64 a.y, .int .i64 a.z, .int .i64 a.w, .int .i64 a.a, .int .i64 a.b, .int .i64 a.c, .int .i64 a.d, .int .i64 b.x, .int .i64 b.y, .int .i64 b.z, .int .i64 b.w, .int .i64 b.a, .int .i64 b.b, .int .i64 b.c, .int .i64 b.d, .int .i64 c.x, .int .i64 c.y, .int .i64 c.z, .int .i64 c.w, .int .i64 c.a, .int .i64 c.b, .int .i64 c.c, .int .i64 c.d] 25))) : wpList Try.prog ops R (o :: rest) k w :=
  wp_bslBig 56 25 8 3 _ [(0, x), (1, y), (2, z)] _ ho hw Try.underlying56 Try.sizeOf25 zero25 (by decide) (by decide) (by
    simp only [List.map_toArray, List.map_cons, List.map_nil, hx, hy, hz]
    kernel_rfl) h
end
end Go.Proofs.Ytfdlfjecgefgfaa
