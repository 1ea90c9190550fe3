/-
  Rows whose elements lead to rows of the call's own; what stays of them; a cell of a row written over.
-/
import Derived.Test.YtnpcmoeleigpoaaSc
import Derived.Laws.OwnMore
namespace Go.Proofs.Ytnpcmoeleigpoaa
open Go.RowKit

section
variable {α β : Type} {E : Elem α} {w w' X Y : World} {p q : Nat → Prop} {A : Option Addr} {xs : List α} {B base : Nat} {v : Value}
theorem flat_setE : ∀ {l : List α} {k r : Nat} {u u' : α} {x : Value}, l[k]? = some u → r < E.size → E.cells u' = (E.cells u).set r x → E.flat (l.set k u') = (E.flat l).set (k * E.size + r) x
  | [], k, r, u, u', x, h, _, _ => by simp at h
  | v :: l, 0, r, u, u', x, h, hr, e => by
    obtain rfl : v = u := by simpa using h
    rw [Nat.zero_mul, Nat.zero_add]
    show E.cells u' ++ E.flat l = (E.cells v ++ E.flat l).set r x
    rw [e, List.set_append_left _ _ (by rw [E.len]; exact hr)]
  | v :: l, k + 1, r, u, u', x, h, hr, e => by
    have ih := flat_setE (l := l) (k := k) (r := r) (u := u) (u' := u') (x := x) (by simpa using h) hr e
    have e5 : (E.cells v).length = E.size := E.len v
    show E.cells v ++ E.flat (l.set k u') = (E.cells v ++ E.flat l).set ((k + 1) * E.size + r) x
    rw [ih, List.set_append_right _ _ (by rw [e5, Nat.add_mul]; omega)]
    congr 2
    rw [e5, Nat.add_mul]
    omega
theorem ownE_set {g n c k r : Nat} {u u' : α} {x : Value} (h : OwnE E w base (.slice (some ⟨g, 0, none⟩) n c) xs) (hk : xs[k]? = some u) (hr : r < E.size) (e : E.cells u' = (E.cells u).set r x) :
    OwnE E (w.setCell ⟨g, k * E.size + r, none⟩ x) base (.slice (some ⟨g, 0, none⟩) n c) (xs.set k u') := by
  obtain ⟨hl, ⟨h0, _⟩ | ⟨g', cap, cur, e', hg, hh, hc, hm, hs, ht⟩⟩ := h
  · cases h0
  · cases e'
    refine ⟨by rw [E.flat_length], .inr ⟨g, c, cur.setIfInBounds (k * E.size + r) x, by simp, hg, ?_, by simpa using hc, hm, by simpa using hs, ?_⟩⟩
    · rw [heap_setCell_same _ _ _ _ _ _ hh]
    · rw [flat_setE hk hr e, ← ht, List.length_set]
      simp [List.take_set]
theorem ownE_free {g n c : Nat} (h : OwnE E w base (.slice (some ⟨g, 0, none⟩) n c) xs) : ∀ o, w.frozen? ⟨g, o, none⟩ = false := by
  obtain ⟨hl, ⟨h0, _⟩ | ⟨g', cap, cur, e', hg, hh, hc, hm, hs, ht⟩⟩ := h
  · cases h0
  · cases e'
    intro o
    simp [World.frozen?, hh]
theorem ownE_at0 (h : OwnE E w base v xs) (hne : xs ≠ []) : ∃ g c, v = .slice (some ⟨g, 0, none⟩) xs.length c ∧ base ≤ g ∧ g < w.heap.size := by
  obtain ⟨hl, ⟨rfl, h0⟩ | ⟨g, cap, cur, rfl, hg, hh, hc, hm, _, ht⟩⟩ := h
  · exact absurd (List.eq_nil_of_length_eq_zero h0) hne
  · exact ⟨g, cap, rfl, hg, (Array.getElem?_eq_some_iff.1 hh).1⟩
theorem ownE_lt (h : OwnE E w base v xs) {j : Nat} (e : v.ownBlock = some j) : j < w.heap.size := by
  obtain ⟨hl, ⟨rfl, h0⟩ | ⟨g, cap, cur, rfl, hg, hh, hc, hm, _, ht⟩⟩ := h
  · simp [Value.ownBlock] at e
  · obtain rfl : g = j := by simpa [Value.ownBlock] using e
    exact (Array.getElem?_eq_some_iff.1 hh).1
theorem ownE_es {n c : Nat} (h : OwnE E w base (.slice A n c) xs) : n = xs.length ∧ xs.length ≤ c ∧ Es E w w.heap.size A xs := by
  obtain ⟨A', c', e, h1, -, h'⟩ := h.es
  cases e
  exact ⟨rfl, h1, h'⟩

/-- A slice at A reads these elements, in a block of which p holds. -/
def EsP (E : Elem α) (w : World) (p : Nat → Prop) (A : Option Addr) (xs : List α) : Prop :=
  xs ≠ [] → ∃ b off, A = some ⟨b, off, none⟩ ∧ p b ∧ ∀ j u, xs[j]? = some u → AtE E w b (off + j * E.size) u
theorem EsP.nil : EsP E w p A [] := fun h => absurd rfl h
theorem EsP.es (h : EsP E w p A xs) (hp : ∀ b, p b → b < w.heap.size → b < B) : Es E w B A xs := fun hne => by
  obtain ⟨b, off, e, hb, hc⟩ := h hne
  obtain ⟨u, hu⟩ : ∃ u, xs[0]? = some u := by
    cases xs with
    | nil => exact absurd rfl hne
    | cons x xs => exact ⟨x, rfl⟩
  exact ⟨b, off, e, hp b hb (hc 0 u hu).lt, hc⟩
theorem EsP.imp (h : EsP E w p A xs) (hp : ∀ b, p b → b < w.heap.size → q b) : EsP E w q A xs := fun hne => by
  obtain ⟨b, off, e, hb, hc⟩ := h hne
  obtain ⟨u, hu⟩ : ∃ u, xs[0]? = some u := by
    cases xs with
    | nil => exact absurd rfl hne
    | cons x xs => exact ⟨x, rfl⟩
  exact ⟨b, off, e, hp b hb (hc 0 u hu).lt, hc⟩
theorem AtE.same {b o : Nat} {x : α} (h : AtE E w b o x) (hb : w'.heap[b]? = w.heap[b]?) : AtE E w' b o x := fun j u hj => (World.cell?_of_block (a := ⟨b, o + j, none⟩) hb).trans (h j u hj)
theorem EsP.keep (h : EsP E w p A xs) (hk : ∀ b, p b → b < w.heap.size → w'.heap[b]? = w.heap[b]?) : EsP E w' p A xs := fun hne => by
  obtain ⟨b, off, e, hb, hc⟩ := h hne
  exact ⟨b, off, e, hb, fun j u hj => (hc j u hj).same (hk b hb (hc j u hj).lt)⟩
theorem Es.toP (h : Es E w B A xs) : EsP E w (fun b => b < B) A xs := h
/-- What an own row reads: in blocks from its base on. -/
theorem OwnE.toP {n c : Nat} (h : OwnE E w base (.slice A n c) xs) : EsP E w (fun b => base ≤ b) A xs := fun hne => by
  obtain ⟨-, -, h2⟩ := ownE_es h
  obtain ⟨g, c', e, hg, -⟩ := ownE_at0 h hne
  cases e
  obtain ⟨b, off, e, hb, hc⟩ := h2 hne
  cases e
  exact ⟨_, _, rfl, hg, hc⟩

/-- The blocks from B on, up to h, lie as they lay. -/
def Fx (B h : Nat) (w w' : World) : Prop := ∀ b, B ≤ b → b < h → w'.heap[b]? = w.heap[b]?
theorem Fx.refl (B h : Nat) (w : World) : Fx B h w w := fun _ _ _ => rfl
theorem Fx.below {h b : Nat} (hf : Fx B h w X) (hb : Below b X Y) (hh : h ≤ b) : Fx B h w Y := fun k h1 h2 => (hb.block k (by omega)).trans (hf k h1 h2)
theorem Fx.set {h g o : Nat} {u : Value} (hf : Fx B h w X) (hg : g < B) : Fx B h w (X.setCell ⟨g, o, none⟩ u) := fun k h1 h2 => by
  rw [heap_setCell_other _ _ _ _ (by simp; omega)]
  exact hf k h1 h2
theorem Fx.trans {h : Nat} (hf : Fx B h w X) (hg : Fx B h X Y) : Fx B h w Y := fun k h1 h2 => (hg k h1 h2).trans (hf k h1 h2)
theorem Fx.less {h B' h' : Nat} (hf : Fx B h w X) (h1 : B ≤ B') (h2 : h' ≤ h) : Fx B' h' w X := fun k a b => hf k (by omega) (by omega)
theorem Below.fx {h : Nat} (hb : Below h w X) : Fx B h w X := fun k _ h2 => hb.block k h2
theorem OwnE.fx {B' h : Nat} (ho : OwnE E w base v xs) (hf : Fx B' h w w') (hB : B' ≤ base) (hs : w.heap.size ≤ h) : OwnE E w' base v xs := by
  obtain ⟨hl, h2⟩ := ho
  refine ⟨hl, ?_⟩
  rcases h2 with h2 | ⟨j, cap, cur, rfl, hj, hh, hr⟩
  · exact .inl h2
  · exact .inr ⟨j, cap, cur, rfl, hj, (hf j (by omega) (Nat.lt_of_lt_of_le (Array.getElem?_eq_some_iff.1 hh).1 hs)).trans hh, hr⟩
end
/-- A row of the call's own, whose elements lead to rows of the call's own, apart from it. -/
structure OwnN {α β : Type} (E : Elem (Lo α)) (F : Elem β) (inn : α → List β) (w : World) (base : Nat) (v : Value) (ls : List (Lo α)) : Prop where
  own : OwnE E w base v ls
  els : ∀ l ∈ ls, EsP F w (fun b => base ≤ b ∧ v.ownBlock ≠ some b) l.A (inn l.x)
  cap : ∀ l ∈ ls, (inn l.x).length ≤ l.c
section
variable {α β : Type} {E : Elem (Lo α)} {F : Elem β} {inn : α → List β} {w w' t w1 : World} {base : Nat} {v v' : Value} {ls : List (Lo α)} {l : Lo α}
theorem OwnN.nil (w : World) (base : Nat) : OwnN E F inn w base (.slice none 0 0) [] := ⟨OwnE.nil _ _, fun l h => (by cases h), fun l h => (by cases h)⟩
theorem OwnN.keep (h : OwnN E F inn w base v ls) (hb : Below w.heap.size w w') : OwnN E F inn w' base v ls :=
  ⟨h.own.keep hb, fun l hl => (h.els l hl).keep fun b _ hlt => hb.block b hlt, h.cap⟩
theorem OwnN.fx {B' k : Nat} (h : OwnN E F inn w base v ls) (hf : Fx B' k w w') (hB : B' ≤ base) (hs : w.heap.size ≤ k) : OwnN E F inn w' base v ls :=
  ⟨h.own.fx hf hB hs, fun l hl => (h.els l hl).keep fun b hb hlt => hf b (by omega) (by omega), h.cap⟩
theorem OwnN.set (h : OwnN E F inn w base v ls) {g o : Nat} {u : Value} (hg : g < base) : OwnN E F inn (w.setCell ⟨g, o, none⟩ u) base v ls :=
  ⟨h.own.setCell hg, fun l hl => (h.els l hl).keep fun b hb _ => heap_setCell_other _ _ _ _ (by simp; omega), h.cap⟩
theorem OwnN.app (h : OwnN E F inn w base v ls) (hb : Below w.heap.size w t) (hbase : base ≤ w.heap.size)
    (hown : w1.ownsRow base E.t E.size v' (ls.length + 1) (E.flat ls ++ E.cells l)) (hg : t.grownBy w1 v.ownBlock) (hat : v'.ownBlock = v.ownBlock ∨ v'.ownBlock = some t.heap.size)
    (hl : EsP F t (fun b => base ≤ b ∧ v.ownBlock ≠ some b) l.A (inn l.x)) (hc : (inn l.x).length ≤ l.c) : OwnN E F inn w1 base v' (ls ++ [l]) ∧ Below base w w1 := by
  have ho : OwnE E w1 base v' (ls ++ [l]) := by
    unfold OwnE
    rw [List.length_append, E.flat_append, show E.flat [l] = E.cells l by simp [Elem.flat]]
    exact hown
  refine ⟨⟨ho, fun x hx => ?_, fun x hx => ?_⟩, (hb.mono hbase).grown hg (Nat.le_trans hbase hb.size) fun j ej => ownE_ge h.own j ej⟩
  rotate_left
  · rcases List.mem_append.1 hx with hx | hx
    · exact h.cap x hx
    · obtain rfl : x = l := by simpa using hx
      exact hc
  have hx2 : EsP F t (fun b => base ≤ b ∧ v.ownBlock ≠ some b) x.A (inn x.x) := by
    rcases List.mem_append.1 hx with hx | hx
    · exact (h.els x hx).keep fun b _ hlt => hb.block b hlt
    · obtain rfl : x = l := by simpa using hx
      exact hl
  have hx3 : EsP F w1 (fun b => base ≤ b ∧ v.ownBlock ≠ some b ∧ b < t.heap.size) x.A (inn x.x) :=
    (hx2.imp (q := fun b => base ≤ b ∧ v.ownBlock ≠ some b ∧ b < t.heap.size) fun b hb hlt => ⟨hb.1, hb.2, hlt⟩).keep fun b hb hlt => hg.block b hlt (fun e => hb.2.1 e.symm)
  refine hx3.imp fun b hb _ => ⟨hb.1, ?_⟩
  rcases hat with e | e
  · rw [e]; exact hb.2.1
  · rw [e]
    intro e2
    have e3 : t.heap.size = b := by simpa using e2
    omega
theorem OwnN.es (h : OwnN E F inn w base v ls) : ∀ l ∈ ls, Es F w w.heap.size l.A (inn l.x) := fun l hl => (h.els l hl).es fun _ _ hlt => hlt
end
end Go.Proofs.Ytnpcmoeleigpoaa
