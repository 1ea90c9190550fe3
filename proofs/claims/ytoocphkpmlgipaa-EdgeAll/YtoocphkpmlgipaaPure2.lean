/-
  What follows of which edges have what lies on them: numbers alone.
-/
import Derived.Test.YtoocphkpmlgipaaPure
import Derived.Test.YtoocphkpmlgipaaTurned
namespace Go.Proofs.Ytoocphkpmlgipaa

/-- An edge has what lies on it one way about, and not the other. -/
theorem same_ways (a b : P) : (((a.x == b.x) && (a.y == b.y)) = true ∧ fst a b = false ∧ fst b a = false) ∨ (((a.x == b.x) && (a.y == b.y)) = false ∧ fst a b = true ∧ fst b a = false) ∨ (((a.x == b.x) && (a.y == b.y)) = false ∧ fst a b = false ∧ fst b a = true) := by
  unfold fst
  rcases (show a.x < b.x ∨ a.x = b.x ∨ b.x < a.x by omega) with h | h | h <;> rcases (show a.y < b.y ∨ a.y = b.y ∨ b.y < a.y by omega) with h' | h' | h' <;> simp [h, h'] <;> omega
theorem fst_eq (a b : P) : fst a b = decide (b.y < a.y ∨ (b.y = a.y ∧ a.x < b.x)) := by
  simp [fst]
theorem area_same {a b c : P} (h : area a b c ≠ 0) : ¬ (a.x = b.x ∧ a.y = b.y) ∧ ¬ (b.x = c.x ∧ b.y = c.y) ∧ ¬ (c.x = a.x ∧ c.y = a.y) := by
  refine ⟨fun ⟨h1, h2⟩ => h ?_, fun ⟨h1, h2⟩ => h ?_, fun ⟨h1, h2⟩ => h ?_⟩
  · simp [area, crs, h1, h2]
  · simp only [area, crs, h1, h2, Int.mul_comm]; omega
  · simp only [area, crs, h1, h2]; simp
/-- Of three edges one at least has what lies on it, and one at least has not. -/
theorem three_ways {a b c : P} (h : area a b c ≠ 0) : (fst a b = true ∧ fst b c = true ∧ fst c a = false) ∨ (fst a b = true ∧ fst b c = false ∧ fst c a = true) ∨ (fst a b = false ∧ fst b c = true ∧ fst c a = true) ∨ (fst a b = true ∧ fst b c = false ∧ fst c a = false) ∨ (fst a b = false ∧ fst b c = true ∧ fst c a = false) ∨ (fst a b = false ∧ fst b c = false ∧ fst c a = true) := by
  obtain ⟨h1, h2, h3⟩ := area_same h
  rw [fst_eq, fst_eq, fst_eq]
  simp only [decide_eq_true_eq, decide_eq_false_iff_not]
  omega
/-- What is turned has the same area, above 0. -/
theorem turned_area {a b c : P} (h : area a b c ≠ 0) : area (tr1 a b c) (tr2 a b c) (tr3 a b c) = max (area a b c) (-area a b c) := by
  have hb := area_back a b c
  by_cases hn : area a b c < 0
  · simp only [tr1, tr2, tr3, if_neg h, if_pos hn, hb]
    omega
  · simp only [tr1, tr2, tr3, if_neg h, if_neg hn]
    omega
theorem turned_ne {a b c : P} (h : area a b c ≠ 0) : area (tr1 a b c) (tr2 a b c) (tr3 a b c) ≠ 0 := by
  rw [turned_area h]
  omega
end Go.Proofs.Ytoocphkpmlgipaa
