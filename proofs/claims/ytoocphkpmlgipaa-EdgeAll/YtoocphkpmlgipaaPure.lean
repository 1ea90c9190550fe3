/-
  What follows of crosses: numbers alone.
-/
import Derived.Test.YtoocphkpmlgipaaSmall
namespace Go.Proofs.Ytoocphkpmlgipaa

theorem crs_sum (a b c : P) (x y : Int) : crs a b x y + crs b c x y + crs c a x y = area a b c := by
  unfold area crs
  simp only [Int.mul_sub, Int.mul_comm]
  omega
theorem crs_back (a b : P) (x y : Int) : crs b a x y = -crs a b x y := by
  unfold crs
  simp only [Int.mul_sub, Int.mul_comm]
  omega
theorem area_next (a b c : P) : area b c a = area a b c := by
  unfold area crs
  simp only [Int.mul_sub, Int.mul_comm]
  omega
theorem area_back (a b c : P) : area a c b = -area a b c := by
  unfold area crs
  simp only [Int.mul_sub, Int.mul_comm]
  omega
theorem crs_first (a b : P) : crs a b a.x a.y = 0 := by
  unfold crs
  simp only [Int.mul_sub, Int.mul_comm]
  omega
theorem crs_second (a b : P) : crs a b b.x b.y = 0 := by
  unfold crs
  simp only [Int.mul_sub, Int.mul_comm]
  omega
theorem wth_pos {a b : P} {x y : Int} (h : 0 < crs a b x y) : wth a b x y = true := by simp [wth, h]
theorem wth_nonneg {a b : P} {x y : Int} (h : wth a b x y = true) : 0 ≤ crs a b x y := by
  simp [wth] at h
  omega
theorem inn_parts {a b c : P} {x y : Int} (h : inn a b c x y = true) : 0 < area a b c ∧ wth a b x y = true ∧ wth b c x y = true ∧ wth c a x y = true := by
  simpa [inn] using h
/-- Inside none is below 0; outside one at least is not above. -/
theorem inn_ways (a b c : P) (x y : Int) : (inn a b c x y = true ∧ 0 ≤ crs a b x y ∧ 0 ≤ crs b c x y ∧ 0 ≤ crs c a x y) ∨ (inn a b c x y = false ∧ (crs a b x y ≤ 0 ∨ (¬ crs a b x y ≤ 0 ∧ crs b c x y ≤ 0) ∨ (¬ crs a b x y ≤ 0 ∧ ¬ crs b c x y ≤ 0 ∧ crs c a x y ≤ 0))) := by
  cases h : inn a b c x y
  · refine .inr ⟨rfl, ?_⟩
    rcases Int.lt_or_le 0 (crs a b x y) with h1 | h1
    · rcases Int.lt_or_le 0 (crs b c x y) with h2 | h2
      · rcases Int.lt_or_le 0 (crs c a x y) with h3 | h3
        · exfalso
          have hs := crs_sum a b c x y
          have ha : 0 < area a b c := by omega
          simp [inn, wth_pos h1, wth_pos h2, wth_pos h3, ha] at h
        · exact .inr (.inr ⟨by omega, by omega, h3⟩)
      · exact .inr (.inl ⟨by omega, h2⟩)
    · exact .inl h1
  · obtain ⟨-, h1, h2, h3⟩ := inn_parts h
    exact .inl ⟨rfl, wth_nonneg h1, wth_nonneg h2, wth_nonneg h3⟩
/-- A point moved. -/
def mv (u d : P) : P := { u with x := u.x + d.x, y := u.y + d.y }
theorem mv_sm {u d : P} (hu : u.ok) (hd : d.ok) : (mv u d).sm := by
  obtain ⟨⟨a, b⟩, ⟨c, e⟩⟩ := hu
  obtain ⟨⟨a', b'⟩, ⟨c', e'⟩⟩ := hd
  exact ⟨⟨by simp only [mv]; omega, by simp only [mv]; omega⟩, ⟨by simp only [mv]; omega, by simp only [mv]; omega⟩⟩
theorem crs_mv (a b d : P) (x y : Int) : crs (mv a d) (mv b d) (x + d.x) (y + d.y) = crs a b x y := by
  simp only [crs, mv]
  rw [show b.x + d.x - (a.x + d.x) = b.x - a.x by omega, show b.y + d.y - (a.y + d.y) = b.y - a.y by omega, show x + d.x - (a.x + d.x) = x - a.x by omega, show y + d.y - (a.y + d.y) = y - a.y by omega]
theorem area_mv (a b c d : P) : area (mv a d) (mv b d) (mv c d) = area a b c := crs_mv a b d c.x c.y
theorem fst_mv (a b d : P) : fst (mv a d) (mv b d) = fst a b := by
  have h1 : ((mv b d).y < (mv a d).y) ↔ b.y < a.y := by simp only [mv]; omega
  have h2 : ((mv b d).y = (mv a d).y) ↔ b.y = a.y := by simp only [mv]; omega
  have h3 : ((mv a d).x < (mv b d).x) ↔ a.x < b.x := by simp only [mv]; omega
  simp only [fst, h1, h2, h3]
theorem inn_mv (a b c d : P) (x y : Int) : inn (mv a d) (mv b d) (mv c d) (x + d.x) (y + d.y) = inn a b c x y := by
  simp only [inn, wth, crs_mv, area_mv, fst_mv]
end Go.Proofs.Ytoocphkpmlgipaa
