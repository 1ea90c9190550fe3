/-
  An instruction of the call's own row that is written over.
-/
import Derived.Test.YtehkcnmjkgelkaaCFit3
import Derived.Laws.OwnMore
namespace Go.Proofs.Ytehkcnmjkgelkaa.C
open Go.RowKit

theorem flat_setI : ∀ {l : List In} {k r : Nat} {u u' : In} {x : Value}, l[k]? = some u → r < 5 → EI.cells u' = (EI.cells u).set r x → EI.flat (l.set k u') = (EI.flat l).set (k * 5 + r) x
  | [], k, r, u, u', x, h, _, _ => by simp at h
  | v :: l, 0, r, u, u', x, h, hr, e => by
    obtain rfl : v = u := by simpa using h
    rw [Nat.zero_mul, Nat.zero_add]
    show EI.cells u' ++ EI.flat l = (EI.cells v ++ EI.flat l).set r x
    rw [e, List.set_append_left _ _ (by rw [EI.len]; exact hr)]
  | v :: l, k + 1, r, u, u', x, h, hr, e => by
    have ih := flat_setI (l := l) (k := k) (r := r) (u := u) (u' := u') (x := x) (by simpa using h) hr e
    have e5 : (EI.cells v).length = 5 := EI.len v
    show EI.cells v ++ EI.flat (l.set k u') = (EI.cells v ++ EI.flat l).set ((k + 1) * 5 + r) x
    rw [ih, List.set_append_right _ _ (by rw [e5]; omega)]
    congr 2
    rw [e5]
    omega
theorem ownI_set {w : World} {base : Nat} {g n c k r : Nat} {xs : List In} {u u' : In} {x : Value} (h : OwnE EI w base (.slice (some ⟨g, 0, none⟩) n c) xs) (hk : xs[k]? = some u) (hr : r < 5) (e : EI.cells u' = (EI.cells u).set r x) :
    OwnE EI (w.setCell ⟨g, k * 5 + r, none⟩ x) base (.slice (some ⟨g, 0, none⟩) n c) (xs.set k u') := by
  obtain ⟨hl, ⟨h0, _⟩ | ⟨g', cap, cur, e', hg, hh, hc, hm, hs, ht⟩⟩ := h
  · cases h0
  · cases e'
    refine ⟨by rw [EI.flat_length], .inr ⟨g, c, cur.setIfInBounds (k * 5 + r) x, by simp, hg, ?_, by simpa using hc, hm, by simpa using hs, ?_⟩⟩
    · rw [heap_setCell_same _ _ _ _ _ _ hh]
    · rw [flat_setI hk hr e, ← ht, List.length_set]
      simp [List.take_set]
theorem ownI_free {w : World} {base : Nat} {g n c : Nat} {xs : List In} (h : OwnE EI w base (.slice (some ⟨g, 0, none⟩) n c) xs) : ∀ o, w.frozen? ⟨g, o, none⟩ = false := by
  obtain ⟨hl, ⟨h0, _⟩ | ⟨g', cap, cur, e', hg, hh, hc, hm, hs, ht⟩⟩ := h
  · cases h0
  · cases e'
    intro o
    simp [World.frozen?, hh]
theorem set_getI {xs : List In} {k : Nat} {u v : In} (h : xs[k]? = some u) : (xs.set k v)[k]? = some v := by
  have hk : k < xs.length := by
    rcases Nat.lt_or_ge k xs.length with e | e
    · exact e
    · rw [List.getElem?_eq_none e] at h; cases h
  simp [hk]
/-- A whole instruction written into a row. -/
theorem ownI_put {w : World} {base : Nat} {g n c k : Nat} {xs : List In} {u : In} (p : In) (h : OwnE EI w base (.slice (some ⟨g, 0, none⟩) n c) xs) (hk : xs[k]? = some u) :
    OwnE EI (((((w.setCell ⟨g, k * 5, none⟩ (.int .u8 p.o)).setCell ⟨g, k * 5 + 1, none⟩ (.int .u8 p.d)).setCell ⟨g, k * 5 + 2, none⟩ (.int .u8 p.a)).setCell ⟨g, k * 5 + 3, none⟩ (.int .u8 p.b)).setCell ⟨g, k * 5 + 4, none⟩ (.int .i64 p.n)) base (.slice (some ⟨g, 0, none⟩) n c) (xs.set k p) := by
  have h0 := ownI_set h (r := 0) (u' := { u with o := p.o }) (x := .int .u8 p.o) hk (by omega) rfl
  have h1 := ownI_set h0 (r := 1) (u' := { u with o := p.o, d := p.d }) (x := .int .u8 p.d) (set_getI hk) (by omega) rfl
  rw [List.set_set] at h1
  have h2 := ownI_set h1 (r := 2) (u' := { u with o := p.o, d := p.d, a := p.a }) (x := .int .u8 p.a) (set_getI hk) (by omega) rfl
  rw [List.set_set] at h2
  have h3 := ownI_set h2 (r := 3) (u' := { u with o := p.o, d := p.d, a := p.a, b := p.b }) (x := .int .u8 p.b) (set_getI hk) (by omega) rfl
  rw [List.set_set] at h3
  have h4 := ownI_set h3 (r := 4) (u' := p) (x := .int .i64 p.n) (set_getI hk) (by omega) rfl
  rw [List.set_set] at h4
  exact h4
theorem own_at0 {w : World} {base : Nat} {v : Value} {xs : List In} (h : OwnE EI w base v xs) (hne : xs ≠ []) :
    ∃ g c, v = .slice (some ⟨g, 0, none⟩) xs.length c ∧ base ≤ g ∧ g < w.heap.size := by
  obtain ⟨hl, ⟨rfl, h0⟩ | ⟨g, cap, cur, rfl, hg, hh, hc, hm, _, ht⟩⟩ := h
  · exact absurd (List.eq_nil_of_length_eq_zero h0) hne
  · exact ⟨g, cap, rfl, hg, (Array.getElem?_eq_some_iff.1 hh).1⟩
theorem ownI_es {w : World} {base g n c : Nat} {xs : List In} (h : OwnE EI w base (.slice (some ⟨g, 0, none⟩) n c) xs) : Es EI w w.heap.size (some ⟨g, 0, none⟩) xs := by
  obtain ⟨A, c', e, -, -, h'⟩ := h.es
  cases e
  exact h'
end Go.Proofs.Ytehkcnmjkgelkaa.C
