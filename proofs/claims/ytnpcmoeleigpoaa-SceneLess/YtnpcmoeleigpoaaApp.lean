/-
  Appending elements to a row of the call's own, for any type of elements; the block that holds a scene whose rows are still made.
-/
import Derived.Test.YtnpcmoeleigpoaaNest
namespace Go.Proofs.Ytnpcmoeleigpoaa
open Go.RowKit

/-- What the program's table says of a type of elements, and of slices of them. -/
structure Row {α : Type} (E : Elem α) (T : TypeId) where
  und : Try.prog.underlying T = some (.slice E.t)
  i : TypeInfo
  hi : Try.prog.info? E.t = some i
  z : Value
  hz : i.zero = some z
  hs : i.size = E.size
  hb : i.bytes ≤ 64
  hzs : z.cells.size = E.size
theorem row_of {α : Type} {E : Elem α} {T : TypeId} {z : Value} {b : Nat} (hu : Try.prog.underlying T = some (.slice E.t)) (h : (Try.prog.info? E.t).map (fun i => (i.zero, i.size, i.bytes)) = some (some z, E.size, b)) (hb : b ≤ 64) (hzs : z.cells.size = E.size) : Nonempty (Row E T) := by
  obtain ⟨i, h1, h2, h3, h4⟩ := info_parts h
  exact ⟨⟨hu, i, h1, z, h2, h3, by omega, hzs⟩⟩
theorem rowV : Nonempty (Row EV 24) := row_of Try.underlying24 (z := .agg (Array.replicate 8 (.int .i64 0))) (b := 64) (by kernel_rfl) (by decide) (by kernel_rfl)
theorem rowT : Nonempty (Row ET 25) := row_of Try.underlying25 (z := .agg #[.int .i64 0, .int .i64 0, .slice none 0 0]) (b := 40) (by kernel_rfl) (by decide) (by kernel_rfl)
theorem rowP : Nonempty (Row EP 26) := row_of Try.underlying26 (z := .slice none 0 0) (b := 24) (by kernel_rfl) (by decide) (by kernel_rfl)
theorem rowD : Nonempty (Row ED 27) := row_of Try.underlying27 (z := .agg #[.int .i64 0, .int .i64 0, .int .i64 0, .bool false, .slice none 0 0]) (b := 56) (by kernel_rfl) (by decide) (by kernel_rfl)
theorem rowR : Nonempty (Row ER 40) := row_of Try.underlying40 (z := .agg (Array.replicate 4 (.int .i64 0))) (b := 32) (by kernel_rfl) (by decide) (by kernel_rfl)
theorem rowC : Nonempty (Row EC 51) := row_of Try.underlying51 (z := .agg (Array.replicate 4 (.int .u8 0))) (b := 4) (by kernel_rfl) (by decide) (by kernel_rfl)
theorem rowI : Nonempty (Row C.EI 54) := row_of Try.underlying54 (z := .agg #[.int .u8 0, .int .u8 0, .int .u8 0, .int .u8 0, .int .i64 0]) (b := 16) (by kernel_rfl) (by decide) (by kernel_rfl)

section
variable {α : Type} {E : Elem α} {T : TypeId} {w w' : World} {base B : Nat} {v : Value} {xs ys : List α} {A : Option Addr}
theorem flat_cells {b off : Nat} (h : ∀ k u, ys[k]? = some u → AtE E w b (off + k * E.size) u) : ∀ j x, (E.flat ys)[j]? = some x → w.cell? ((⟨b, off, none⟩ : Addr).add j) = some x := by
  intro j x hj
  have hp := E.pos
  have hl : j < ys.length * E.size := by
    rw [← E.flat_length]
    exact (List.getElem?_eq_some_iff.1 hj).1
  have hk : j / E.size < ys.length := Nat.div_lt_of_lt_mul (by rw [Nat.mul_comm]; exact hl)
  have hr : j % E.size < E.size := Nat.mod_lt _ hp
  have hd : j / E.size * E.size + j % E.size = j := Nat.div_add_mod' _ _
  obtain ⟨u, hu⟩ := get_lt hk
  have hf := E.flat_get hu _ hr
  rw [hd, hj] at hf
  have hc := h _ u hu _ _ hf.symm
  have ha : (⟨b, off, none⟩ : Addr).add j = ⟨b, off + j, none⟩ := by unfold Addr.add; split <;> simp_all
  rw [ha, ← hd]
  rw [Nat.add_assoc] at hc
  exact hc
theorem run_append_es (R : Row E T) (ty : TypeId) (c : Nat) (hown : OwnE E w base v xs) (he : Es E w B A ys) (hn : xs.length ≤ 1000) (hn2 : ys.length ≤ 1000) (hbase : base ≤ w.heap.size) :
    ∃ v' w', (Builtin.append_ #[T, T] ty #[v, .slice A ys.length c]).run Try.prog w = .ok v' w' ∧ w'.ownsRow base E.t E.size v' (xs.length + ys.length) (E.flat xs ++ E.flat ys) ∧ w.grownBy w' v.ownBlock ∧ (v'.ownBlock = v.ownBlock ∨ v'.ownBlock = some w.heap.size) := by
  have go : ∀ a : Addr, A = some a → (∀ j x, (E.flat ys)[j]? = some x → w.cell? (a.add j) = some x) → ∃ v' w', (Builtin.append_ #[T, T] ty #[v, .slice A ys.length c]).run Try.prog w = .ok v' w' ∧ w'.ownsRow base E.t E.size v' (xs.length + ys.length) (E.flat xs ++ E.flat ys) ∧ w.grownBy w' v.ownBlock ∧ (v'.ownBlock = v.ownBlock ∨ v'.ownBlock = some w.heap.size) := by
    rintro a rfl hc
    obtain ⟨v', w', hr, h2, h3, -, h5⟩ := run_append_own_at (P := Try.prog) w base T ty E.t R.i R.z E.size R.i.bytes R.und R.hi R.hz R.hs rfl R.hzs E.pos v xs.length (E.flat xs) hown.row a ys.length c (E.flat ys) (E.flat_length ys) hc (E.flat_one ys) (by unfold maxLen; omega)
      (by have := Nat.mul_le_mul (show xs.length + ys.length ≤ 2000 by omega) R.hb; omega) hbase
    exact ⟨v', w', hr, h2, h3, h5⟩
  by_cases hy : ys = []
  · subst hy
    cases A with
    | some a => exact go a rfl fun j x hj => by simp [Elem.flat] at hj
    | none =>
      refine ⟨v, w, ?_, by simpa [Elem.flat] using hown.row, World.grownBy.refl w _, .inl rfl⟩
      rcases hown.2 with ⟨rfl, h0⟩ | ⟨g, cap, cur, rfl, _, _, hnc, _⟩
      · simp [Builtin.append_, run_underlying R.und, sizeOf, typeInfo, R.hi, Builtin.lenOf, Builtin.firstCells]
      · simp [Builtin.append_, run_underlying R.und, sizeOf, typeInfo, R.hi, Builtin.lenOf, Builtin.firstCells, hnc, storeCells]
  · obtain ⟨b, off, rfl, -, hc⟩ := he hy
    exact go _ rfl (flat_cells hc)
theorem opw_append_es {o : Oper} {k : Act} {K : Act → World → Prop} {Q : Exit → Act → World → Prop} (R : Row E T) (s x : Operand) (c : Nat)
    (ho : o.op = .call { callee := .builtin .append, args := #[s, x], argTypes := #[T, T] }) (hs : k.eval s = v) (hx : k.eval x = .slice A ys.length c)
    (hown : OwnE E w base v xs) (he : Es E w B A ys) (hn : xs.length ≤ 1000) (hn2 : ys.length ≤ 1000) (hbase : base ≤ w.heap.size)
    (h : ∀ v' w', w'.ownsRow base E.t E.size v' (xs.length + ys.length) (E.flat xs ++ E.flat ys) → w.grownBy w' v.ownBlock → (v'.ownBlock = v.ownBlock ∨ v'.ownBlock = some w.heap.size) → K (k.put o.dst v') w') : o.wp Try.prog k w K Q := by
  obtain ⟨v', w', hr, h2, h3, h5⟩ := run_append_es R o.type c hown he hn hn2 hbase
  unfold Oper.wp execOp
  simp only [ho, resolve, invoke, builtin, Sem.run_bind, Sem.run_pure, Result.andThen_ok, List.map_toArray, List.map_cons, List.map_nil, hs, hx, hr]
  exact h v' w' h2 h3 h5
theorem wpList_append_es {ops : Array Oper} {rest : List Oper} {o : Oper} {k : Act} {Q : Exit → Act → World → Prop} (hgd : o.guard = none) (R : Row E T) (s x : Operand) (c : Nat)
    (ho : o.op = .call { callee := .builtin .append, args := #[s, x], argTypes := #[T, T] }) (hs : k.eval s = v) (hx : k.eval x = .slice A ys.length c)
    (hown : OwnE E w base v xs) (he : Es E w B A ys) (hn : xs.length ≤ 1000) (hn2 : ys.length ≤ 1000) (hbase : base ≤ w.heap.size)
    (h : ∀ v' w', w'.ownsRow base E.t E.size v' (xs.length + ys.length) (E.flat xs ++ E.flat ys) → w.grownBy w' v.ownBlock → (v'.ownBlock = v.ownBlock ∨ v'.ownBlock = some w.heap.size) → wpList Try.prog ops Q rest (k.put o.dst v') w') : wpList Try.prog ops Q (o :: rest) k w :=
  wpList_plain hgd fun _ hK => opw_append_es R s x c ho hs hx hown he hn hn2 hbase fun v' w' h1 h2 h3 => hK _ _ (h v' w' h1 h2 h3)
theorem ownE_app {w1 : World} {v' : Value} (hown : OwnE E w base v xs) (h1 : w1.ownsRow base E.t E.size v' (xs.length + ys.length) (E.flat xs ++ E.flat ys)) (hg : w.grownBy w1 v.ownBlock) (hbase : base ≤ w.heap.size) : OwnE E w1 base v' (xs ++ ys) ∧ Below base w w1 := by
  refine ⟨?_, (Below.refl base w).grown hg hbase fun j ej => ownE_ge hown j ej⟩
  unfold OwnE
  rw [List.length_append, E.flat_append]
  exact h1
/-- One element in a block of its own. -/
theorem es_one {w : World} {x : α} {cs : Array Value} (h : cs.toList = E.cells x) {g : Nat} (hg : w.heap[g]? = some (.cells cs E.t (0, 0))) : Es E w w.heap.size (some ⟨g, 0, none⟩) [x] := fun _ => by
  refine ⟨g, 0, rfl, (Array.getElem?_eq_some_iff.1 hg).1, fun k u hk => ?_⟩
  rcases Nat.eq_zero_or_pos k with rfl | hp
  · obtain rfl : x = u := by simpa using hk
    intro j y hj
    rw [cell_of_row w g _ cs E.t (0, 0) hg, ← hj, ← h, Array.getElem?_toList]
    simp
  · rw [List.getElem?_eq_none (by simp; omega)] at hk; cases hk
/-- Some elements in a block of their own: what a list of them in the text makes. -/
theorem own_new (w : World) (xs : List α) (cs : Array Value) (h : cs.toList = E.flat xs) (hl : xs.length ≤ 1000) : OwnE E (w.alloc (.cells cs E.t)) w.heap.size (.slice (some ⟨w.heap.size, 0, none⟩) xs.length xs.length) xs := by
  refine ⟨E.flat_length xs, .inr ⟨w.heap.size, xs.length, cs, rfl, Nat.le_refl _, heap_alloc_new _ _, Nat.le_refl _, by unfold maxLen; omega, ?_, ?_⟩⟩
  · rw [← E.flat_length, ← h]
    simp
  · rw [h, ← E.flat_length, List.take_length]
end
/-- A block that holds a scene whose rows are v1 to v4. -/
def ouB (W H : Int) (k : Col) (v1 v2 v3 v4 : Value) : Obj := .cells #[.int .i64 W, .int .i64 H, .int .u8 k.r, .int .u8 k.g, .int .u8 k.b, .int .u8 k.a, v1, v2, v3, v4] 29 (0, 0)
section
variable {w w' : World} {g B : Nat} {W H : Int} {k : Col} {v1 v2 v3 v4 : Value}
theorem ouB_cell (h : w.heap[g]? = some (ouB W H k v1 v2 v3 v4)) : w.cell? ⟨g, 0, none⟩ = some (.int .i64 W) ∧ w.cell? ⟨g, 1, none⟩ = some (.int .i64 H) ∧ w.cell? ⟨g, 2, none⟩ = some (.int .u8 k.r) ∧ w.cell? ⟨g, 3, none⟩ = some (.int .u8 k.g) ∧ w.cell? ⟨g, 4, none⟩ = some (.int .u8 k.b) ∧ w.cell? ⟨g, 5, none⟩ = some (.int .u8 k.a) ∧ w.cell? ⟨g, 6, none⟩ = some v1 ∧ w.cell? ⟨g, 7, none⟩ = some v2 ∧ w.cell? ⟨g, 8, none⟩ = some v3 ∧ w.cell? ⟨g, 9, none⟩ = some v4 := by
  unfold ouB at h
  exact ⟨Joins.cell_of_block h 0, Joins.cell_of_block h 1, Joins.cell_of_block h 2, Joins.cell_of_block h 3, Joins.cell_of_block h 4, Joins.cell_of_block h 5, Joins.cell_of_block h 6, Joins.cell_of_block h 7, Joins.cell_of_block h 8, Joins.cell_of_block h 9⟩
theorem ouB_free (h : w.heap[g]? = some (ouB W H k v1 v2 v3 v4)) : ∀ o, w.frozen? ⟨g, o, none⟩ = false := by
  unfold ouB at h
  intro o
  simp [World.frozen?, h]
theorem ouB_lt (h : w.heap[g]? = some (ouB W H k v1 v2 v3 v4)) : g < w.heap.size := (Array.getElem?_eq_some_iff.1 h).1
theorem ouB_keep (h : w.heap[g]? = some (ouB W H k v1 v2 v3 v4)) (hb : Below B w w') (hg : g < B) : w'.heap[g]? = some (ouB W H k v1 v2 v3 v4) := (hb.block _ hg).trans h
theorem ouB_set0 (u : Int) (h : w.heap[g]? = some (ouB W H k v1 v2 v3 v4)) : (w.setCell ⟨g, 0, none⟩ (.int .i64 u)).heap[g]? = some (ouB u H k v1 v2 v3 v4) := by
  unfold ouB at h
  rw [heap_setCell_same _ _ _ _ _ _ h]
  simp [ouB]
theorem ouB_set1 (u : Int) (h : w.heap[g]? = some (ouB W H k v1 v2 v3 v4)) : (w.setCell ⟨g, 1, none⟩ (.int .i64 u)).heap[g]? = some (ouB W u k v1 v2 v3 v4) := by
  unfold ouB at h
  rw [heap_setCell_same _ _ _ _ _ _ h]
  simp [ouB]
theorem ouB_set6 (u : Value) (h : w.heap[g]? = some (ouB W H k v1 v2 v3 v4)) : (w.setCell ⟨g, 6, none⟩ u).heap[g]? = some (ouB W H k u v2 v3 v4) := by
  unfold ouB at h
  rw [heap_setCell_same _ _ _ _ _ _ h]
  simp [ouB]
theorem ouB_set7 (u : Value) (h : w.heap[g]? = some (ouB W H k v1 v2 v3 v4)) : (w.setCell ⟨g, 7, none⟩ u).heap[g]? = some (ouB W H k v1 u v3 v4) := by
  unfold ouB at h
  rw [heap_setCell_same _ _ _ _ _ _ h]
  simp [ouB]
theorem ouB_set8 (u : Value) (h : w.heap[g]? = some (ouB W H k v1 v2 v3 v4)) : (w.setCell ⟨g, 8, none⟩ u).heap[g]? = some (ouB W H k v1 v2 u v4) := by
  unfold ouB at h
  rw [heap_setCell_same _ _ _ _ _ _ h]
  simp [ouB]
theorem ouB_set9 (u : Value) (h : w.heap[g]? = some (ouB W H k v1 v2 v3 v4)) : (w.setCell ⟨g, 9, none⟩ u).heap[g]? = some (ouB W H k v1 v2 v3 u) := by
  unfold ouB at h
  rw [heap_setCell_same _ _ _ _ _ _ h]
  simp [ouB]
theorem ouB_other {g2 o : Nat} (u : Value) (h : w.heap[g]? = some (ouB W H k v1 v2 v3 v4)) (hne : g ≠ g2) : (w.setCell ⟨g2, o, none⟩ u).heap[g]? = some (ouB W H k v1 v2 v3 v4) := by
  rw [heap_setCell_other _ _ _ _ (by simpa using hne)]
  exact h
end
end Go.Proofs.Ytnpcmoeleigpoaa
