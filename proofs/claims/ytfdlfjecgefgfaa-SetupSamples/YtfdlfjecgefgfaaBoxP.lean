/-
  A sample of a triangle lies between the least and the greatest of its points' places, so its pixel is in the box.
-/
import Derived.Test.YtfdlfjecgefgfaaBox
namespace Go.Proofs.Ytfdlfjecgefgfaa
open Go.RowKit

theorem crs_x (a b c : P) (x y : Int) : crs b c x y * a.x + crs c a x y * b.x + crs a b x y * c.x = area a b c * x := by
  unfold area crs; grind
theorem crs_y (a b c : P) (x y : Int) : crs b c x y * a.y + crs c a x y * b.y + crs a b x y * c.y = area a b c * y := by
  unfold area crs; grind
theorem crs_sum (a b c : P) (x y : Int) : crs b c x y + crs c a x y + crs a b x y = area a b c := by
  unfold area crs; grind
/-- A mean with weights not below 0 is not above what all are not above. -/
theorem mean_le {k l m u v t A z M : Int} (hA : 0 < A) (hk : 0 ≤ k) (hl : 0 ≤ l) (hm : 0 ≤ m) (e : k * u + l * v + m * t = A * z) (s : k + l + m = A) (hu : u ≤ M) (hv : v ≤ M) (ht : t ≤ M) : z ≤ M := by
  have h1 : k * u ≤ k * M := Int.mul_le_mul_of_nonneg_left hu hk
  have h2 : l * v ≤ l * M := Int.mul_le_mul_of_nonneg_left hv hl
  have h3 : m * t ≤ m * M := Int.mul_le_mul_of_nonneg_left ht hm
  have h4 : A * z ≤ A * M := by
    rw [← e, ← s, Int.add_mul, Int.add_mul]
    omega
  exact Int.le_of_mul_le_mul_left h4 hA
theorem le_mean {k l m u v t A z M : Int} (hA : 0 < A) (hk : 0 ≤ k) (hl : 0 ≤ l) (hm : 0 ≤ m) (e : k * u + l * v + m * t = A * z) (s : k + l + m = A) (hu : M ≤ u) (hv : M ≤ v) (ht : M ≤ t) : M ≤ z := by
  have h1 : k * M ≤ k * u := Int.mul_le_mul_of_nonneg_left hu hk
  have h2 : l * M ≤ l * v := Int.mul_le_mul_of_nonneg_left hv hl
  have h3 : m * M ≤ m * t := Int.mul_le_mul_of_nonneg_left ht hm
  have h4 : A * M ≤ A * z := by
    rw [← e, ← s, Int.add_mul, Int.add_mul]
    omega
  exact Int.le_of_mul_le_mul_left h4 hA
theorem wth_le {a b : P} {x y : Int} (h : wth a b x y = true) : 0 ≤ crs a b x y := by
  unfold wth at h
  simp only [Bool.or_eq_true, Bool.and_eq_true, decide_eq_true_eq] at h
  omega
theorem inn_span {a b c : P} {x y : Int} (h : inn a b c x y = true) :
    min a.x (min b.x c.x) ≤ x ∧ x ≤ max a.x (max b.x c.x) ∧ min a.y (min b.y c.y) ≤ y ∧ y ≤ max a.y (max b.y c.y) := by
  unfold inn at h
  simp only [Bool.and_eq_true, decide_eq_true_eq] at h
  obtain ⟨hA, h1, h2, h3⟩ := h
  have k1 := wth_le h1
  have k2 := wth_le h2
  have k3 := wth_le h3
  have s := crs_sum a b c x y
  have ex := crs_x a b c x y
  have ey := crs_y a b c x y
  exact ⟨le_mean hA k2 k3 k1 ex s (by omega) (by omega) (by omega), mean_le hA k2 k3 k1 ex s (by omega) (by omega) (by omega), le_mean hA k2 k3 k1 ey s (by omega) (by omega) (by omega), mean_le hA k2 k3 k1 ey s (by omega) (by omega) (by omega)⟩
theorem inS_box {a b c : P} {x y m k : Int} {i : Fin 4} (h : inS a b c x y i = true) (hx0 : 0 ≤ x) (hx1 : x < m) (hy0 : 0 ≤ y) (hy1 : y < k) :
    lo a.x b.x c.x ≤ x ∧ x < hi m a.x b.x c.x ∧ lo a.y b.y c.y ≤ y ∧ y < hi k a.y b.y c.y := by
  unfold inS at h
  obtain ⟨h1, h2, h3, h4⟩ := inn_span h
  have s1 := sx_bd (iv i)
  have s2 := sy_bd (iv i)
  unfold lo hi
  generalize min a.x (min b.x c.x) = p at *
  generalize max a.x (max b.x c.x) = q at *
  generalize min a.y (min b.y c.y) = r at *
  generalize max a.y (max b.y c.y) = s at *
  omega
theorem mask_box {a b c : P} {x y m k : Int} (h : mask a b c x y ≠ 0) (hx0 : 0 ≤ x) (hx1 : x < m) (hy0 : 0 ≤ y) (hy1 : y < k) :
    lo a.x b.x c.x ≤ x ∧ x < hi m a.x b.x c.x ∧ lo a.y b.y c.y ≤ y ∧ y < hi k a.y b.y c.y := by
  have h' : ∃ i, inS a b c x y i = true := by
    cases e0 : inS a b c x y 0
    · cases e1 : inS a b c x y 1
      · cases e2 : inS a b c x y 2
        · cases e3 : inS a b c x y 3
          · unfold mask at h
            rw [e0, e1, e2, e3] at h
            exact absurd rfl h
          · exact ⟨_, e3⟩
        · exact ⟨_, e2⟩
      · exact ⟨_, e1⟩
    · exact ⟨_, e0⟩
  obtain ⟨i, hi⟩ := h'
  exact inS_box hi hx0 hx1 hy0 hy1
theorem mask_bd (a b c : P) (x y : Int) : 0 ≤ mask a b c x y ∧ mask a b c x y ≤ 15 := by
  have h : ∀ b n, one b n = n ∨ one b n = 0 := fun b n => by cases b <;> simp [one]
  unfold mask msk
  have h0 := h (inS a b c x y 0) 1
  have h1 := h (inS a b c x y 1) 2
  have h2 := h (inS a b c x y 2) 4
  have h3 := h (inS a b c x y 3) 8
  omega
end Go.Proofs.Ytfdlfjecgefgfaa
