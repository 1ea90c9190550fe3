/-
  What follows of turning a triangle: numbers alone.
-/
import Derived.Test.YtoocphkpmlgipaaPure2
namespace Go.Proofs.Ytoocphkpmlgipaa

theorem tr_back (a b c : P) : tr1 a c b = tr1 a b c ∧ tr2 a c b = tr2 a b c ∧ tr3 a c b = tr3 a b c ∧ trO a c b = trO a b c := by
  have hb := area_back a b c
  rcases (show area a b c = 0 ∨ area a b c < 0 ∨ 0 < area a b c by omega) with h | h | h
  · have h' : area a c b = 0 := by omega
    simp [tr1, tr2, tr3, trO, h, h']
  · have h1 : ¬ area a b c = 0 := by omega
    have h2 : ¬ area a c b = 0 := by omega
    have h3 : ¬ area a c b < 0 := by omega
    simp [tr1, tr2, tr3, trO, h, h1, h2, h3]
  · have h1 : ¬ area a b c = 0 := by omega
    have h2 : ¬ area a c b = 0 := by omega
    have h3 : area a c b < 0 := by omega
    have h4 : ¬ area a b c < 0 := by omega
    simp [tr1, tr2, tr3, trO, h1, h2, h3, h4]
theorem tr_sm {a b c : P} (ha : a.sm) (hb : b.sm) (hc : c.sm) : (tr1 a b c).sm ∧ (tr2 a b c).sm ∧ (tr3 a b c).sm := by
  have hz : zP.sm := by constructor <;> decide
  unfold tr1 tr2 tr3
  refine ⟨?_, ?_, ?_⟩ <;> split <;> (try split) <;> assumption
theorem inn_next (a b c : P) (x y : Int) : inn b c a x y = inn a b c x y := by
  unfold inn
  rw [area_next]
  cases decide (0 < area a b c) <;> cases wth a b x y <;> cases wth b c x y <;> cases wth c a x y <;> rfl
/-- The three ways: no area, above 0, below. -/
theorem turns_ways (a b c : P) (x y : Int) : (area a b c = 0 ∧ trO a b c = false ∧ inn a b c x y = false) ∨ ((0 < area a b c ∧ ¬ area a b c = 0) ∧ trO a b c = true ∧ area (tr1 a b c) (tr2 a b c) (tr3 a b c) = area a b c) ∨ ((¬ 0 < area a b c ∧ ¬ area a b c = 0) ∧ trO a b c = true ∧ area (tr1 a b c) (tr2 a b c) (tr3 a b c) = -area a b c ∧ inn a b c x y = false) := by
  rcases (show area a b c = 0 ∨ area a b c < 0 ∨ 0 < area a b c by omega) with h | h | h
  · exact .inl ⟨h, by simp [trO, h], by simp [inn, h]⟩
  · have h1 : ¬ area a b c = 0 := by omega
    have h2 : ¬ 0 < area a b c := by omega
    exact .inr (.inr ⟨⟨h2, h1⟩, by simp [trO, h1], by rw [turned_area h1]; omega, by simp [inn, h2]⟩)
  · have h1 : ¬ area a b c = 0 := by omega
    exact .inr (.inl ⟨⟨h, h1⟩, by simp [trO, h1], by rw [turned_area h1]; omega⟩)
end Go.Proofs.Ytoocphkpmlgipaa
