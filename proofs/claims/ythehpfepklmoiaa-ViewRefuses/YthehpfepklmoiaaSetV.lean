/-
  Writing a number of a vertex in a row of the call's own.
-/
import Derived.Test.YthehpfepklmoiaaVs
namespace Go.Proofs.Ythehpfepklmoiaa
open Go.RowKit

theorem flat_set : ∀ {l : List V} {k r : Nat} {u u' : V} {x : Value}, l[k]? = some u → r < 8 → cellsV u' = (cellsV u).set r x → flat (l.set k u') = (flat l).set (k * 8 + r) x
  | [], k, r, u, u', x, h, _, _ => by simp at h
  | v :: l, 0, r, u, u', x, h, hr, e => by
    obtain rfl : v = u := by simpa using h
    rw [Nat.zero_mul, Nat.zero_add]
    show cellsV u' ++ flat l = (cellsV v ++ flat l).set r x
    rw [e, List.set_append_left _ _ (by simp [cellsV]; omega)]
  | v :: l, k + 1, r, u, u', x, h, hr, e => by
    have ih := flat_set (l := l) (k := k) (r := r) (u := u) (u' := u') (x := x) (by simpa using h) hr e
    show cellsV v ++ flat (l.set k u') = (cellsV v ++ flat l).set ((k + 1) * 8 + r) x
    rw [ih, List.set_append_right _ _ (by simp [cellsV]; omega)]
    congr 2
    simp [cellsV]
    omega

theorem OwnV.set {w : World} {base : Nat} {g n c k r : Nat} {xs : List V} {u u' : V} {x : Value} (h : OwnV w base (.slice (some ⟨g, 0, none⟩) n c) xs) (hk : xs[k]? = some u) (hr : r < 8) (e : cellsV u' = (cellsV u).set r x) :
    OwnV (w.setCell ⟨g, k * 8 + r, none⟩ x) base (.slice (some ⟨g, 0, none⟩) n c) (xs.set k u') := by
  obtain ⟨hl, ⟨h0, _⟩ | ⟨g', cap, cur, e', hg, hh, hc, hm, hs, ht⟩⟩ := h
  · cases h0
  · cases e'
    refine ⟨by rw [flat_length], .inr ⟨g, c, cur.setIfInBounds (k * 8 + r) x, by simp, hg, ?_, by simpa using hc, hm, by simpa using hs, ?_⟩⟩
    · rw [heap_setCell_same _ _ _ _ _ _ hh]
    · rw [flat_set hk hr e, ← ht, List.length_set]
      simp [List.take_set]
theorem OwnV.free {w : World} {base : Nat} {g n c : Nat} {xs : List V} (h : OwnV w base (.slice (some ⟨g, 0, none⟩) n c) xs) : ∀ o, w.frozen? ⟨g, o, none⟩ = false := by
  obtain ⟨hl, ⟨h0, _⟩ | ⟨g', cap, cur, e', hg, hh, hc, hm, hs, ht⟩⟩ := h
  · cases h0
  · cases e'
    intro o
    simp [World.frozen?, hh]

theorem OwnV.at0 {w : World} {base : Nat} {v : Value} {xs : List V} (h : OwnV w base v xs) (hne : xs ≠ []) :
    ∃ g c, v = .slice (some ⟨g, 0, none⟩) xs.length c ∧ base ≤ g ∧ ∀ j u, xs[j]? = some u → At8 w g (j * 8) u := by
  obtain ⟨hl, ⟨rfl, h0⟩ | ⟨g, cap, cur, rfl, hg, hh, hc, hm, _, ht⟩⟩ := h
  · exact absurd (List.eq_nil_of_length_eq_zero h0) hne
  · refine ⟨g, cap, rfl, hg, fun j u hj => At8.of fun r hr => ?_⟩
    have hjl : j < xs.length := by
      rcases Nat.lt_or_ge j xs.length with h | h
      · exact h
      · rw [List.getElem?_eq_none h] at hj; cases hj
    rw [cell_of_row w g (j * 8 + r) cur 27 (0, 0) hh, ← flat_get hj r hr, ← ht, List.getElem?_take_of_lt (by omega), Array.getElem?_toList]
end Go.Proofs.Ythehpfepklmoiaa
