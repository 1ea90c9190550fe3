/-
  Writing a number of a vertex in a row of the call's own; what the vertices of ClipStays are.
-/
import Derived.Test.YtfheipejbdfjbaaShown
import Derived.Test.YtfheipejbdfjbaaFew
namespace Go.Proofs.Ytfheipejbdfjbaa
open Go.RowKit

theorem flat_set : ∀ {l : List V} {k r : Nat} {u u' : V} {x : Value}, l[k]? = some u → r < 8 → cellsV u' = (cellsV u).set r x → flat (l.set k u') = (flat l).set (k * 8 + r) x
  | [], k, r, u, u', x, h, _, _ => by simp at h
  | v :: l, 0, r, u, u', x, h, hr, e => by
    obtain rfl : v = u := by simpa using h
    rw [Nat.zero_mul, Nat.zero_add]
    show cellsV u' ++ flat l = (cellsV v ++ flat l).set r x
    rw [e, List.set_append_left _ _ (by simp [cellsV]; omega)]
  | v :: l, k + 1, r, u, u', x, h, hr, e => by
    have ih := flat_set (l := l) (k := k) (r := r) (u := u) (u' := u') (x := x) (by simpa using h) hr e
    show cellsV v ++ flat (l.set k u') = (cellsV v ++ flat l).set ((k + 1) * 8 + r) x
    rw [ih, List.set_append_right _ _ (by simp [cellsV]; omega)]
    congr 2
    simp [cellsV]
    omega

theorem OwnV.set {w : World} {base : Nat} {g n c k r : Nat} {xs : List V} {u u' : V} {x : Value} (h : OwnV w base (.slice (some ⟨g, 0, none⟩) n c) xs) (hk : xs[k]? = some u) (hr : r < 8) (e : cellsV u' = (cellsV u).set r x) :
    OwnV (w.setCell ⟨g, k * 8 + r, none⟩ x) base (.slice (some ⟨g, 0, none⟩) n c) (xs.set k u') := by
  obtain ⟨hl, ⟨h0, _⟩ | ⟨g', cap, cur, e', hg, hh, hc, hm, hs, ht⟩⟩ := h
  · cases h0
  · cases e'
    refine ⟨by rw [flat_length], .inr ⟨g, c, cur.setIfInBounds (k * 8 + r) x, by simp, hg, ?_, by simpa using hc, hm, by simpa using hs, ?_⟩⟩
    · rw [heap_setCell_same _ _ _ _ _ _ hh]
    · rw [flat_set hk hr e, ← ht, List.length_set]
      simp [List.take_set]
theorem OwnV.free {w : World} {base : Nat} {g n c : Nat} {xs : List V} (h : OwnV w base (.slice (some ⟨g, 0, none⟩) n c) xs) : ∀ o, w.frozen? ⟨g, o, none⟩ = false := by
  obtain ⟨hl, ⟨h0, _⟩ | ⟨g', cap, cur, e', hg, hh, hc, hm, hs, ht⟩⟩ := h
  · cases h0
  · cases e'
    intro o
    simp [World.frozen?, hh]

/-- The first k of a list turned by f. -/
def part (f : V → V) (l : List V) (k : Nat) : List V := (l.take k).map f ++ l.drop k
theorem part_length (f : V → V) (l : List V) (k : Nat) : (part f l k).length = l.length := by simp [part]; omega
theorem part_get {f : V → V} {l : List V} {k : Nat} {u : V} (h : l[k]? = some u) : (part f l k)[k]? = some u := by
  have hk : k < l.length := by
    rcases Nat.lt_or_ge k l.length with e | e
    · exact e
    · rw [List.getElem?_eq_none e] at h; cases h
  unfold part
  rw [List.getElem?_append_right (by simp; omega)]
  simp only [List.length_map, List.length_take, List.getElem?_drop]
  rw [show k + (k - min k l.length) = k by omega, h]
theorem part_set {f : V → V} {l : List V} {k : Nat} {u : V} (h : l[k]? = some u) : (part f l k).set k (f u) = part f l (k + 1) := by
  have hk : k < l.length := by
    rcases Nat.lt_or_ge k l.length with e | e
    · exact e
    · rw [List.getElem?_eq_none e] at h; cases h
  unfold part
  rw [List.set_append_right _ _ (by simp; omega)]
  simp only [List.length_map, List.length_take]
  rw [show k - min k l.length = 0 by omega, List.take_add_one, h, List.drop_eq_getElem_cons hk, List.set_cons_zero, List.map_append, List.append_assoc]
  rfl
theorem part_all (f : V → V) (l : List V) : part f l l.length = l.map f := by simp [part]

/-- Inside of all planes. -/
def stay0 (u : V) : V := ⟨u.x.tmod (4 * u.w + 1), u.y.tmod (4 * u.w + 1), u.z.tmod (u.w + 1), u.w, u.a, u.b, u.c, u.d⟩
/-- And outside of plane p. -/
def stay (p : Int) (u : V) : V :=
  if p = 0 then { stay0 u with z := -u.w - 1 } else if p = 1 then { stay0 u with x := -4 * u.w - 1 } else if p = 2 then { stay0 u with x := 4 * u.w + 1 } else if p = 3 then { stay0 u with y := -4 * u.w - 1 } else if p = 4 then { stay0 u with y := 4 * u.w + 1 } else stay0 u
theorem stay_facts {p : Int} {u : V} (h : u.ok) : (stay p u).sm ∧ (∀ q : Int, q ≠ p → 0 ≤ dist q (stay p u)) ∧ (0 ≤ p ∧ p < 5 → dist p (stay p u) < 0) := by
  have hw := h.w
  have ha := h.a
  have hb := h.b
  have hc := h.c
  have hd := h.d
  have tx := tmod_bd u.x (4 * u.w + 1) (by omega)
  have ty := tmod_bd u.y (4 * u.w + 1) (by omega)
  have tz := tmod_bd u.z (u.w + 1) (by omega)
  refine ⟨?_, fun q hq => ?_, fun hp => ?_⟩
  · unfold stay stay0
    (repeat' split) <;> refine ⟨?_, ?_, ?_, ?_, ?_, ?_, ?_, ?_⟩ <;> simp only <;> omega
  · unfold dist
    by_cases p0 : p = 0
    · subst p0
      simp only [stay, stay0, if_true]
      repeat' split
      all_goals omega
    · by_cases p1 : p = 1
      · subst p1
        simp only [stay, stay0, if_true, if_neg p0]
        repeat' split
        all_goals omega
      · by_cases p2 : p = 2
        · subst p2
          simp only [stay, stay0, if_true, if_neg p0, if_neg p1]
          repeat' split
          all_goals omega
        · by_cases p3 : p = 3
          · subst p3
            simp only [stay, stay0, if_true, if_neg p0, if_neg p1, if_neg p2]
            repeat' split
            all_goals omega
          · by_cases p4 : p = 4
            · subst p4
              simp only [stay, stay0, if_true, if_neg p0, if_neg p1, if_neg p2, if_neg p3]
              repeat' split
              all_goals omega
            · simp only [stay, stay0, if_neg p0, if_neg p1, if_neg p2, if_neg p3, if_neg p4]
              repeat' split
              all_goals omega
  · have h5 : p = 0 ∨ p = 1 ∨ p = 2 ∨ p = 3 ∨ p = 4 := by omega
    rcases h5 with rfl | rfl | rfl | rfl | rfl <;> simp [dist, stay, stay0] <;> omega

theorem poly_keep {S : List V} : ∀ k : Nat, (∀ j : Nat, j < k → ∀ v ∈ S, 0 ≤ dist (j : Int) v) → polyK S k = S
  | 0, _ => rfl
  | k + 1, h => by
    rw [polyK, poly_keep k fun j hj => h j (by omega)]
    exact byV_in (h k (by omega))
theorem polyK_nil {S : List V} {j : Nat} (h : polyK S j = []) : polyK S (j + 1) = [] := by rw [polyK, h]; rfl
theorem poly_gone {S : List V} {p : Nat} (hp : p < 5) (h : ∀ j : Nat, j < p → ∀ v ∈ S, 0 ≤ dist (j : Int) v) (ho : ∀ v ∈ S, dist (p : Int) v < 0) : polyV S = [] := by
  have h1 : polyK S (p + 1) = [] := by rw [polyK, poly_keep p h]; exact byV_out ho
  have h5 : polyK S 5 = [] := by
    have hc : p = 0 ∨ p = 1 ∨ p = 2 ∨ p = 3 ∨ p = 4 := by omega
    rcases hc with rfl | rfl | rfl | rfl | rfl
    · exact polyK_nil (polyK_nil (polyK_nil (polyK_nil h1)))
    · exact polyK_nil (polyK_nil (polyK_nil h1))
    · exact polyK_nil (polyK_nil h1)
    · exact polyK_nil h1
    · exact h1
  unfold polyV
  rw [h5]
  rfl
end Go.Proofs.Ytfheipejbdfjbaa
