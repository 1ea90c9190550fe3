/-
  Slices whose elements have several cells: what one reads, and rows of the call's own; for any type of elements.
-/
import Derived.Test.YtnpcmoeleigpoaaBase
import Derived.Maps.AppendAt
import Derived.Lib.SmallJoins
import Derived.Laws.CopyRow
namespace Go.Proofs.Ytnpcmoeleigpoaa
open Go.RowKit
attribute [local go_sem ↓] Go.wp_at_zero Go.wp_at_succ

/-- A type of elements: its number, how many cells, and what is in them. -/
structure Elem (α : Type) where
  t : TypeId
  size : Nat
  cells : α → List Value
  pos : 0 < size
  len : ∀ x, (cells x).length = size
  one : ∀ x, ∀ u ∈ cells x, u.oneCell' = true

section
variable {α : Type} (E : Elem α)
def Elem.flat (l : List α) : List Value := l.flatMap E.cells
theorem Elem.flat_append (k l : List α) : E.flat (k ++ l) = E.flat k ++ E.flat l := by simp [Elem.flat]
theorem Elem.flat_cons (x : α) (l : List α) : E.flat (x :: l) = E.cells x ++ E.flat l := rfl
theorem Elem.flat_length : ∀ l : List α, (E.flat l).length = l.length * E.size
  | [] => by simp [Elem.flat]
  | v :: l => by
    rw [E.flat_cons, List.length_append, Elem.flat_length l, E.len, List.length_cons, Nat.add_mul]
    omega
theorem Elem.flat_one (l : List α) : ∀ u ∈ E.flat l, u.oneCell' = true := by
  intro u hu
  obtain ⟨v, _, hu⟩ := List.mem_flatMap.1 hu
  exact E.one v u hu
theorem Elem.flat_get : ∀ {l : List α} {j : Nat} {u : α}, l[j]? = some u → ∀ r, r < E.size → (E.flat l)[j * E.size + r]? = (E.cells u)[r]?
  | [], j, u, h, _, _ => by simp at h
  | v :: l, 0, u, h, r, hr => by
    obtain rfl : v = u := by simpa using h
    rw [Nat.zero_mul, Nat.zero_add, E.flat_cons, List.getElem?_append_left (by rw [E.len]; exact hr)]
  | v :: l, j + 1, u, h, r, hr => by
    have ih := Elem.flat_get (l := l) (j := j) (u := u) (by simpa using h) r hr
    rw [E.flat_cons, List.getElem?_append_right (by rw [E.len, Nat.add_mul]; omega), ← ih]
    congr 1
    rw [E.len, Nat.add_mul]
    omega

/-- The cells from place o of block b on are those of an element. -/
def AtE (w : World) (b o : Nat) (x : α) : Prop := ∀ j u, (E.cells x)[j]? = some u → w.cell? ⟨b, o + j, none⟩ = some u
/-- A slice at A reads these elements, below block B. -/
def Es (w : World) (B : Nat) (A : Option Addr) (xs : List α) : Prop :=
  xs ≠ [] → ∃ b off, A = some ⟨b, off, none⟩ ∧ b < B ∧ ∀ j u, xs[j]? = some u → AtE E w b (off + j * E.size) u
/-- A row of the call's own that holds these elements. -/
def OwnE (w : World) (base : Nat) (v : Value) (xs : List α) : Prop := w.ownsRow base E.t E.size v xs.length (E.flat xs)
end
section
variable {α : Type} {E : Elem α} {w w' : World} {B B' base base' : Nat} {A : Option Addr} {v : Value} {xs : List α}
theorem AtE.below {b o : Nat} {x : α} (h : AtE E w b o x) (hb : Below B w w') (hB : b < B) : AtE E w' b o x := fun j u hj => (hb.cell (p := ⟨b, o + j, none⟩) hB).trans (h j u hj)
theorem AtE.lt {b o : Nat} {x : α} (h : AtE E w b o x) : b < w.heap.size := by
  have hp := E.pos
  rw [← E.len x] at hp
  exact World.block_lt_of_cell? _ _ (h 0 _ (List.getElem?_eq_getElem hp))
theorem AtE.grow {b o : Nat} {x : α} (h : AtE E w b o x) (hb : Below w.heap.size w w') : AtE E w' b o x := h.below hb h.lt
theorem Es.none_ : Es E w B A [] := fun h => absurd rfl h
theorem Es.below (h : Es E w B A xs) (hb : Below B w w') : Es E w' B A xs := fun hne => by
  obtain ⟨b, off, e, hbB, hc⟩ := h hne
  exact ⟨b, off, e, hbB, fun j u hj => (hc j u hj).below hb hbB⟩
theorem Es.more (h : Es E w B A xs) (hB : B ≤ B') : Es E w B' A xs := fun hne => by
  obtain ⟨b, off, e, hbB, hc⟩ := h hne
  exact ⟨b, off, e, by omega, hc⟩
theorem Es.sharp (h : Es E w B A xs) : Es E w w.heap.size A xs := fun hne => by
  obtain ⟨b, off, e, hbB, hc⟩ := h hne
  obtain ⟨u, hu⟩ : ∃ u, xs[0]? = some u := by
    cases xs with
    | nil => exact absurd rfl hne
    | cons x xs => exact ⟨x, rfl⟩
  exact ⟨b, off, e, (hc 0 u hu).lt, hc⟩
theorem Es.grow (h : Es E w B A xs) (hb : Below w.heap.size w w') : Es E w' w.heap.size A xs := h.sharp.below hb
theorem Es.at (h : Es E w B A xs) {k : Nat} {u : α} (hk : xs[k]? = some u) : ∃ b off, A = some ⟨b, off, none⟩ ∧ b < B ∧ AtE E w b (off + k * E.size) u := by
  obtain ⟨b, off, e, hbB, hc⟩ := h (by rintro rfl; simp at hk)
  exact ⟨b, off, e, hbB, hc _ _ hk⟩
theorem OwnE.row (h : OwnE E w base v xs) : w.ownsRow base E.t E.size v xs.length (E.flat xs) := h
theorem OwnE.nil (w : World) (base : Nat) : OwnE E w base (.slice none 0 0) [] := World.ownsRow_nil _ _ _ _
theorem OwnE.es (h : OwnE E w base v xs) : ∃ A c, v = .slice A xs.length c ∧ xs.length ≤ c ∧ c ≤ 9223372036854775807 ∧ Es E w w.heap.size A xs := by
  obtain ⟨hl, ⟨rfl, h0⟩ | ⟨g, cap, cur, rfl, _, hh, hc, hm, _, ht⟩⟩ := h
  · have : xs = [] := List.eq_nil_of_length_eq_zero h0
    subst this
    exact ⟨none, 0, rfl, Nat.le_refl _, by decide, fun h => absurd rfl h⟩
  · refine ⟨some ⟨g, 0, none⟩, cap, rfl, hc, by unfold maxLen at hm; exact hm, fun _ => ⟨g, 0, rfl, (Array.getElem?_eq_some_iff.1 hh).1, fun j u hj r x hr => ?_⟩⟩
    have hjl : j < xs.length := by
      rcases Nat.lt_or_ge j xs.length with h | h
      · exact h
      · rw [List.getElem?_eq_none h] at hj; cases hj
    have hrl : r < E.size := by
      rcases Nat.lt_or_ge r (E.cells u).length with h | h
      · rw [E.len] at h; exact h
      · rw [List.getElem?_eq_none h] at hr; cases hr
    have hlt : j * E.size + r < xs.length * E.size := by
      have : (j + 1) * E.size ≤ xs.length * E.size := Nat.mul_le_mul_right _ hjl
      rw [Nat.add_mul] at this
      omega
    rw [cell_of_row w g (0 + j * E.size + r) cur E.t (0, 0) hh, Nat.zero_add, ← hr, ← E.flat_get hj r hrl, ← ht, List.getElem?_take_of_lt hlt, Array.getElem?_toList]
theorem ownE_ge (h : OwnE E w base v xs) : ∀ j, v.ownBlock = some j → base ≤ j := by
  intro j ej
  rcases h.2 with ⟨rfl, _⟩ | ⟨g, cap, cur, rfl, hb, _, _⟩
  · simp [Value.ownBlock] at ej
  · obtain rfl : g = j := by simpa [Value.ownBlock] using ej
    exact hb
theorem OwnE.keep (h : OwnE E w base v xs) (hb : Below w.heap.size w w') : OwnE E w' base v xs := by
  obtain ⟨hl, h2⟩ := h
  refine ⟨hl, ?_⟩
  rcases h2 with h2 | ⟨g, cap, cur, rfl, hg, hh, hr⟩
  · exact .inl h2
  · exact .inr ⟨g, cap, cur, rfl, hg, (hb.block g (Array.getElem?_eq_some_iff.1 hh).1).trans hh, hr⟩
theorem OwnE.less (h : OwnE E w base v xs) (hb : base' ≤ base) : OwnE E w base' v xs := by
  obtain ⟨hl, h2⟩ := h
  refine ⟨hl, ?_⟩
  rcases h2 with h2 | ⟨g, cap, cur, rfl, hg, hr⟩
  · exact .inl h2
  · exact .inr ⟨g, cap, cur, rfl, by omega, hr⟩
theorem OwnE.alloc (h : OwnE E w base v xs) (o : Obj) : OwnE E (w.alloc o) base v xs := h.keep ((Below.refl _ _).alloc (Nat.le_refl _) o)
theorem OwnE.form (h : OwnE E w base v xs) : ∃ A c, v = .slice A xs.length c := by
  obtain ⟨A, c, e, -⟩ := h.es
  exact ⟨A, c, e⟩
theorem ownE_empty (w : World) (h : base ≤ w.heap.size) : OwnE E (w.alloc (.cells #[] E.t)) base (.slice (some ⟨w.heap.size, 0, none⟩) 0 0) [] :=
  ⟨by simp [Elem.flat], .inr ⟨w.heap.size, 0, #[], rfl, h, heap_alloc_new _ _, Nat.le_refl _, by unfold maxLen; omega, by simp, by simp [Elem.flat]⟩⟩
theorem append_ofE {w1 : World} {v' : Value} {x : α} (ho : OwnE E w base v xs) (hbase : base ≤ w.heap.size) {T : Obj}
    (hown : w1.ownsRow base E.t E.size v' (xs.length + 1) (E.flat xs ++ E.cells x)) (hg : (w.alloc T).grownBy w1 v.ownBlock) : OwnE E w1 base v' (xs ++ [x]) ∧ Below base w w1 := by
  refine ⟨?_, ((Below.refl base w).alloc hbase T).grown hg (by simp; omega) fun j ej => ownE_ge ho j ej⟩
  unfold OwnE
  rw [List.length_append, E.flat_append, show E.flat [x] = E.cells x by simp [Elem.flat]]
  exact hown
/-- The cells of an element in a block of its own. -/
theorem new_el (w : World) (x : α) (cs : Array Value) (h : cs.toList = E.cells x) : ∀ j u, (E.cells x)[j]? = some u → (w.alloc (.cells cs E.t)).cell? ((⟨w.heap.size, 0, none⟩ : Addr).add j) = some u := by
  intro j u hj
  have e : (w.alloc (.cells cs E.t)).heap[w.heap.size]? = some (.cells cs E.t) := heap_alloc_new _ _
  have hc := cell_of_row (w.alloc (.cells cs E.t)) w.heap.size j cs E.t (0, 0) e
  have ha : (⟨w.heap.size, 0, none⟩ : Addr).add j = ⟨w.heap.size, j, none⟩ := by unfold Addr.add; split <;> simp_all
  rw [ha, hc, ← hj, ← h, Array.getElem?_toList]
end
/-- A call answers a new row of elements, and what lay lies as it lay. -/
def MadeE {α : Type} (E : Elem α) (base : Nat) (w : World) (xs : List α) (e : Ending) (w' : World) : Prop := ∃ v, e = .returned v ∧ OwnE E w' base v xs ∧ Below base w w'
end Go.Proofs.Ytnpcmoeleigpoaa
