/-
  Slices of vertices: what one reads, and rows of the call's own.
-/
import Derived.Test.YtfdlfjecgefgfaaCCut
import Derived.Maps.AppendAt
import Derived.Lib.SmallJoins
import Derived.Laws.CopyRow
namespace Go.Proofs.Ytfdlfjecgefgfaa.C
open Go.RowKit

theorem Try.info25 : (Try.prog.info? 25).map (fun i => (i.zero, i.size, i.bytes)) = some (some (.agg #[.int .i64 0, .int .i64 0, .int .i64 0, .int .i64 0, .int .i64 0, .int .i64 0, .int .i64 0, .int .i64 0]), 8, 64) := by kernel_rfl

/-- The cells of a vertex, and of some. -/
def cellsV (v : V) : List Value := [.int .i64 v.x, .int .i64 v.y, .int .i64 v.z, .int .i64 v.w, .int .i64 v.a, .int .i64 v.b, .int .i64 v.c, .int .i64 v.d]
def flat (l : List V) : List Value := l.flatMap cellsV
theorem flat_append (k l : List V) : flat (k ++ l) = flat k ++ flat l := by simp [flat]
theorem flat_length : ∀ l : List V, (flat l).length = l.length * 8
  | [] => rfl
  | v :: l => by
    have h := flat_length l
    have e : flat (v :: l) = cellsV v ++ flat l := rfl
    rw [e, List.length_append, h, List.length_cons, Nat.add_mul]
    simp [cellsV]
    omega
theorem cellsV_one (v : V) : ∀ u ∈ cellsV v, u.oneCell' = true := by
  intro u hu
  simp only [cellsV, List.mem_cons, List.not_mem_nil, or_false] at hu
  rcases hu with rfl | rfl | rfl | rfl | rfl | rfl | rfl | rfl <;> rfl
theorem flat_one (l : List V) : ∀ u ∈ flat l, u.oneCell' = true := by
  intro u hu
  obtain ⟨v, _, hu⟩ := List.mem_flatMap.1 hu
  exact cellsV_one v u hu
theorem flat_get : ∀ {l : List V} {j : Nat} {u : V}, l[j]? = some u → ∀ r, r < 8 → (flat l)[j * 8 + r]? = (cellsV u)[r]?
  | [], j, u, h, _, _ => by simp at h
  | v :: l, 0, u, h, r, hr => by
    obtain rfl : v = u := by simpa using h
    rw [Nat.zero_mul, Nat.zero_add]
    show (cellsV v ++ flat l)[r]? = _
    rw [List.getElem?_append_left (by simp [cellsV]; omega)]
  | v :: l, j + 1, u, h, r, hr => by
    have ih := flat_get (l := l) (j := j) (u := u) (by simpa using h) r hr
    show (cellsV v ++ flat l)[_]? = _
    rw [List.getElem?_append_right (by simp [cellsV]; omega), ← ih]
    congr 1
    simp [cellsV]
    omega

/-- The eight cells from place o of block b on are those of a vertex. -/
def At8 (w : World) (b o : Nat) (v : V) : Prop :=
  w.cell? ⟨b, o, none⟩ = some (.int .i64 v.x) ∧ w.cell? ⟨b, o + 1, none⟩ = some (.int .i64 v.y) ∧ w.cell? ⟨b, o + 2, none⟩ = some (.int .i64 v.z) ∧ w.cell? ⟨b, o + 3, none⟩ = some (.int .i64 v.w) ∧ w.cell? ⟨b, o + 4, none⟩ = some (.int .i64 v.a) ∧ w.cell? ⟨b, o + 5, none⟩ = some (.int .i64 v.b) ∧ w.cell? ⟨b, o + 6, none⟩ = some (.int .i64 v.c) ∧ w.cell? ⟨b, o + 7, none⟩ = some (.int .i64 v.d)
theorem At8.below {w w' : World} {B b o : Nat} {v : V} (h : At8 w b o v) (hb : Below B w w') (hB : b < B) : At8 w' b o v := by
  obtain ⟨h0, h1, h2, h3, h4, h5, h6, h7⟩ := h
  exact ⟨(hb.cell hB).trans h0, (hb.cell hB).trans h1, (hb.cell hB).trans h2, (hb.cell hB).trans h3, (hb.cell hB).trans h4, (hb.cell hB).trans h5, (hb.cell hB).trans h6, (hb.cell hB).trans h7⟩
theorem At8.lt {w : World} {b o : Nat} {v : V} (h : At8 w b o v) : b < w.heap.size := World.block_lt_of_cell? _ _ h.1
theorem At8.grow {w w' : World} {b o : Nat} {v : V} (h : At8 w b o v) (hb : Below w.heap.size w w') : At8 w' b o v := h.below hb h.lt
theorem At8.cells {w : World} {b o : Nat} {v : V} (h : At8 w b o v) : ∀ j u, (cellsV v)[j]? = some u → w.cell? ⟨b, o + j, none⟩ = some u := by
  obtain ⟨h0, h1, h2, h3, h4, h5, h6, h7⟩ := h
  intro j u hj
  match j, hj with
  | 0, hj => rw [Nat.add_zero, h0]; simpa [cellsV] using hj
  | 1, hj => rw [h1]; simpa [cellsV] using hj
  | 2, hj => rw [h2]; simpa [cellsV] using hj
  | 3, hj => rw [h3]; simpa [cellsV] using hj
  | 4, hj => rw [h4]; simpa [cellsV] using hj
  | 5, hj => rw [h5]; simpa [cellsV] using hj
  | 6, hj => rw [h6]; simpa [cellsV] using hj
  | 7, hj => rw [h7]; simpa [cellsV] using hj
  | j + 8, hj => simp [cellsV] at hj
theorem At8.of {w : World} {b o : Nat} {v : V} (h : ∀ r, r < 8 → w.cell? ⟨b, o + r, none⟩ = (cellsV v)[r]?) : At8 w b o v :=
  ⟨h 0 (by omega), h 1 (by omega), h 2 (by omega), h 3 (by omega), h 4 (by omega), h 5 (by omega), h 6 (by omega), h 7 (by omega)⟩

/-- A slice at A reads these vertices, below block B. -/
def Vs (w : World) (B : Nat) (A : Option Addr) (xs : List V) : Prop :=
  xs ≠ [] → ∃ b off, A = some ⟨b, off, none⟩ ∧ b < B ∧ ∀ j u, xs[j]? = some u → At8 w b (off + j * 8) u
section
variable {w w' : World} {B B' : Nat} {A : Option Addr} {xs : List V}
theorem Vs.none_ : Vs w B A [] := fun h => absurd rfl h
theorem Vs.below (h : Vs w B A xs) (hb : Below B w w') : Vs w' B A xs := fun hne => by
  obtain ⟨b, off, e, hbB, hc⟩ := h hne
  exact ⟨b, off, e, hbB, fun j u hj => (hc j u hj).below hb hbB⟩
theorem Vs.more (h : Vs w B A xs) (hB : B ≤ B') : Vs w B' A xs := fun hne => by
  obtain ⟨b, off, e, hbB, hc⟩ := h hne
  exact ⟨b, off, e, by omega, hc⟩
theorem Vs.sharp (h : Vs w B A xs) : Vs w w.heap.size A xs := fun hne => by
  obtain ⟨b, off, e, hbB, hc⟩ := h hne
  obtain ⟨u, hu⟩ : ∃ u, xs[0]? = some u := by
    cases xs with
    | nil => exact absurd rfl hne
    | cons x xs => exact ⟨x, rfl⟩
  exact ⟨b, off, e, (hc 0 u hu).lt, hc⟩
theorem Vs.grow (h : Vs w B A xs) (hb : Below w.heap.size w w') : Vs w' w.heap.size A xs := h.sharp.below hb
theorem Vs.open (h : Vs w B A xs) {k : Nat} (hk : k < xs.length) : ∃ b off, A = some ⟨b, off, none⟩ ∧ b < B ∧ ∀ j, j < xs.length → ∃ u, xs[j]? = some u ∧ At8 w b (off + j * 8) u := by
  obtain ⟨b, off, e, hbB, hc⟩ := h (by rintro rfl; simp at hk)
  exact ⟨b, off, e, hbB, fun j hj => ⟨_, List.getElem?_eq_getElem hj, hc _ _ (List.getElem?_eq_getElem hj)⟩⟩
theorem Vs.take (h : Vs w B A xs) (n : Nat) : Vs w B A (xs.take n) := fun hne => by
  obtain ⟨b, off, e, hbB, hc⟩ := h (by rintro rfl; simp at hne)
  refine ⟨b, off, e, hbB, fun j u hj => hc j u ?_⟩
  rw [List.getElem?_take] at hj
  split at hj
  · exact hj
  · simp at hj
/-- The cells of all of them, one behind the other. -/
theorem Vs.cells (h : Vs w B A xs) (hne : xs ≠ []) : ∃ b off, A = some ⟨b, off, none⟩ ∧ b < B ∧ ∀ j u, (flat xs)[j]? = some u → w.cell? ⟨b, off + j, none⟩ = some u := by
  obtain ⟨b, off, e, hbB, hc⟩ := h hne
  refine ⟨b, off, e, hbB, fun j u hj => ?_⟩
  have hlt : j < (flat xs).length := by
    rcases Nat.lt_or_ge j (flat xs).length with h | h
    · exact h
    · rw [List.getElem?_eq_none h] at hj; cases hj
  rw [flat_length] at hlt
  have hq : j / 8 < xs.length := by omega
  have hx := List.getElem?_eq_getElem hq
  have hf := flat_get hx (j % 8) (Nat.mod_lt _ (by omega))
  rw [show j / 8 * 8 + j % 8 = j by omega, hj] at hf
  have hcc := (hc _ _ hx).cells (j % 8) u hf.symm
  rw [show off + j / 8 * 8 + j % 8 = off + j by omega] at hcc
  exact hcc
end

/-- A row of the call's own that holds these vertices. -/
def OwnV (w : World) (base : Nat) (v : Value) (xs : List V) : Prop := w.ownsRow base 25 8 v xs.length (flat xs)
section
variable {w w' : World} {base base' : Nat} {v : Value} {xs : List V}
theorem OwnV.row (h : OwnV w base v xs) : w.ownsRow base 25 8 v xs.length (flat xs) := h
theorem OwnV.nil (w : World) (base : Nat) : OwnV w base (.slice none 0 0) [] := World.ownsRow_nil _ _ _ _
theorem OwnV.vs (h : OwnV w base v xs) : ∃ A c, v = .slice A xs.length c ∧ xs.length ≤ c ∧ c ≤ 9223372036854775807 ∧ Vs w w.heap.size A xs := by
  obtain ⟨hl, ⟨rfl, h0⟩ | ⟨g, cap, cur, rfl, _, hh, hc, hm, _, ht⟩⟩ := h
  · have : xs = [] := List.eq_nil_of_length_eq_zero h0
    subst this
    exact ⟨none, 0, rfl, Nat.le_refl _, by decide, fun h => absurd rfl h⟩
  · refine ⟨some ⟨g, 0, none⟩, cap, rfl, hc, by unfold maxLen at hm; exact hm, fun _ => ⟨g, 0, rfl, (Array.getElem?_eq_some_iff.1 hh).1, fun j u hj => At8.of fun r hr => ?_⟩⟩
    have hjl : j < xs.length := by
      rcases Nat.lt_or_ge j xs.length with h | h
      · exact h
      · rw [List.getElem?_eq_none h] at hj; cases hj
    rw [cell_of_row w g (0 + j * 8 + r) cur 25 (0, 0) hh, Nat.zero_add, ← flat_get hj r hr, ← ht, List.getElem?_take_of_lt (by omega), Array.getElem?_toList]
theorem ownV_ge (h : OwnV w base v xs) : ∀ j, v.ownBlock = some j → base ≤ j := by
  intro j ej
  rcases h.2 with ⟨rfl, _⟩ | ⟨g, cap, cur, rfl, hb, _, _⟩
  · simp [Value.ownBlock] at ej
  · obtain rfl : g = j := by simpa [Value.ownBlock] using ej
    exact hb
theorem OwnV.keep (h : OwnV w base v xs) (hb : Below w.heap.size w w') : OwnV w' base v xs := by
  obtain ⟨hl, h2⟩ := h
  refine ⟨hl, ?_⟩
  rcases h2 with h2 | ⟨g, cap, cur, rfl, hg, hh, hr⟩
  · exact .inl h2
  · exact .inr ⟨g, cap, cur, rfl, hg, (hb.block g (Array.getElem?_eq_some_iff.1 hh).1).trans hh, hr⟩
theorem OwnV.less (h : OwnV w base v xs) (hb : base' ≤ base) : OwnV w base' v xs := by
  obtain ⟨hl, h2⟩ := h
  refine ⟨hl, ?_⟩
  rcases h2 with h2 | ⟨g, cap, cur, rfl, hg, hr⟩
  · exact .inl h2
  · exact .inr ⟨g, cap, cur, rfl, by omega, hr⟩
theorem OwnV.alloc (h : OwnV w base v xs) (o : Obj) : OwnV (w.alloc o) base v xs := h.keep ((Below.refl _ _).alloc (Nat.le_refl _) o)
end

/-- A call answers a new row of vertices, and what lay lies as it lay. -/
def MadeV (base : Nat) (w : World) (xs : List V) (e : Ending) (w' : World) : Prop := ∃ v, e = .returned v ∧ OwnV w' base v xs ∧ Below base w w'

theorem addr_add (b o j : Nat) : (⟨b, o, none⟩ : Addr).add j = ⟨b, o + j, none⟩ := by unfold Addr.add; split <;> simp_all
theorem new_cells {w : World} {v : V} {t : TypeId} : ∀ j u, (cellsV v)[j]? = some u → (w.alloc (.cells #[.int .i64 v.x, .int .i64 v.y, .int .i64 v.z, .int .i64 v.w, .int .i64 v.a, .int .i64 v.b, .int .i64 v.c, .int .i64 v.d] t)).cell? ((⟨w.heap.size, 0, none⟩ : Addr).add j) = some u := by
  intro j u hj
  rw [addr_add, cell_of_row _ _ _ _ t (0, 0) (heap_alloc_new _ _), Nat.zero_add]
  simpa [cellsV] using hj
theorem new_cells_at {w : World} {v : V} {t : TypeId} {g : Nat} (hg : g = w.heap.size) : ∀ j u, (cellsV v)[j]? = some u → (w.alloc (.cells #[.int .i64 v.x, .int .i64 v.y, .int .i64 v.z, .int .i64 v.w, .int .i64 v.a, .int .i64 v.b, .int .i64 v.c, .int .i64 v.d] t)).cell? ((⟨g, 0, none⟩ : Addr).add j) = some u := by
  subst hg
  exact new_cells
theorem append_ofV {w w1 : World} {base : Nat} {v v' : Value} {cs : List V} {x : V} (ho : OwnV w base v cs) (hbase : base ≤ w.heap.size) {T : Obj}
    (hown : w1.ownsRow base 25 8 v' (cs.length + 1) (flat cs ++ cellsV x)) (hg : (w.alloc T).grownBy w1 v.ownBlock) : OwnV w1 base v' (cs ++ [x]) ∧ Below base w w1 := by
  refine ⟨?_, ((Below.refl base w).alloc hbase T).grown hg (by simp; omega) fun j ej => ownV_ge ho j ej⟩
  unfold OwnV
  rw [List.length_append, flat_append, show flat [x] = cellsV x by simp [flat]]
  exact hown
end Go.Proofs.Ytfdlfjecgefgfaa.C
