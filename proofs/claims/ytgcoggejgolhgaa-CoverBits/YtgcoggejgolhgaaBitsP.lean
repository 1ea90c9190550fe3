/-
  The samples of a mask as numbers: rising, from 0 to 3, and what they are worth.
-/
import Derived.Test.YtgcoggejgolhgaaRefB
namespace Go.Proofs.Ytgcoggejgolhgaa
open Go.RowKit

def pow2 (x : Int) : Int := if x = 0 then 1 else if x = 1 then 2 else if x = 2 then 4 else 8
def sumv : List Int → Int
  | [] => 0
  | x :: l => pow2 x + sumv l
theorem sumv_app (l r : List Int) : sumv (l ++ r) = sumv l + sumv r := by
  induction l with
  | nil => simp [sumv]
  | cons x l ih => simp only [List.cons_append, sumv, ih]; omega
theorem pow2_bd (x : Int) : 1 ≤ pow2 x ∧ pow2 x ≤ 8 := by unfold pow2; split <;> (try split) <;> (try split) <;> omega
theorem sumv_bd (l : List Int) : 0 ≤ sumv l ∧ sumv l ≤ 8 * l.length := by
  induction l with
  | nil => simp [sumv]
  | cons x l ih => have := pow2_bd x; simp only [sumv, List.length_cons]; omega
theorem sumv_next {l : List Int} {k : Nat} (h : k < l.length) : sumv (l.take (k + 1)) = sumv (l.take k) + pow2 (l.getD k 0) := by
  rw [List.take_succ_eq_append_getElem h, sumv_app]
  simp [sumv, List.getD_eq_getElem?_getD, List.getElem?_eq_getElem h]
theorem ints_ways (m : Int) : ∃ b0 b1 b2 b3 : Bool, ints m = (if b0 = true then [0] else []) ++ (if b1 = true then [1] else []) ++ (if b2 = true then [2] else []) ++ (if b3 = true then [3] else []) ∧
    bt m 0 = b0 ∧ bt m 1 = b1 ∧ bt m 2 = b2 ∧ bt m 3 = b3 := by
  refine ⟨bt m 0, bt m 1, bt m 2, bt m 3, ?_, rfl, rfl, rfl, rfl⟩
  unfold ints
  simp only [bl]
  cases bt m 0 <;> cases bt m 1 <;> cases bt m 2 <;> cases bt m 3 <;> rfl
theorem ints_sum (m : Int) : sumv (ints m) = m % 16 := by
  obtain ⟨b0, b1, b2, b3, e, h0, h1, h2, h3⟩ := ints_ways m
  have k0 : m % 2 = if b0 = true then 1 else 0 := by
    cases b0
    · have : ¬ m % 2 = 1 := by simpa [bt] using h0
      simp; omega
    · have : m % 2 = 1 := by simpa [bt] using h0
      simp; omega
  have k1 : m / 2 % 2 = if b1 = true then 1 else 0 := by
    cases b1
    · have : ¬ m / 2 % 2 = 1 := by simpa [bt] using h1
      simp; omega
    · have : m / 2 % 2 = 1 := by simpa [bt] using h1
      simp; omega
  have k2 : m / 4 % 2 = if b2 = true then 1 else 0 := by
    cases b2
    · have : ¬ m / 4 % 2 = 1 := by simpa [bt] using h2
      simp; omega
    · have : m / 4 % 2 = 1 := by simpa [bt] using h2
      simp; omega
  have k3 : m / 8 % 2 = if b3 = true then 1 else 0 := by
    cases b3
    · have : ¬ m / 8 % 2 = 1 := by simpa [bt] using h3
      simp; omega
    · have : m / 8 % 2 = 1 := by simpa [bt] using h3
      simp; omega
  rw [e]
  clear e h0 h1 h2 h3
  cases b0 <;> cases b1 <;> cases b2 <;> cases b3 <;> simp [sumv, pow2] at k0 k1 k2 k3 ⊢ <;> omega
theorem ints_at (m : Int) {k : Nat} (h : k < (ints m).length) : ((ints m).getD k 0 = 0 ∨ (ints m).getD k 0 = 1 ∨ (ints m).getD k 0 = 2 ∨ (ints m).getD k 0 = 3) ∧ (0 < k → ¬ (ints m).getD k 0 ≤ (ints m).getD (k - 1) 0) := by
  obtain ⟨b0, b1, b2, b3, e, -⟩ := ints_ways m
  rw [e] at h ⊢
  have key : ∀ b0 b1 b2 b3 : Bool, ∀ k : Fin 4, k.val < ((if b0 = true then [0] else []) ++ (if b1 = true then [1] else []) ++ (if b2 = true then [2] else []) ++ (if b3 = true then [(3 : Int)] else [])).length →
      ((((if b0 = true then [0] else []) ++ (if b1 = true then [1] else []) ++ (if b2 = true then [2] else []) ++ (if b3 = true then [(3 : Int)] else [])).getD k.val 0 = 0 ∨ ((if b0 = true then [0] else []) ++ (if b1 = true then [1] else []) ++ (if b2 = true then [2] else []) ++ (if b3 = true then [(3 : Int)] else [])).getD k.val 0 = 1 ∨ ((if b0 = true then [0] else []) ++ (if b1 = true then [1] else []) ++ (if b2 = true then [2] else []) ++ (if b3 = true then [(3 : Int)] else [])).getD k.val 0 = 2 ∨ ((if b0 = true then [0] else []) ++ (if b1 = true then [1] else []) ++ (if b2 = true then [2] else []) ++ (if b3 = true then [(3 : Int)] else [])).getD k.val 0 = 3) ∧
      (0 < k.val → ¬ ((if b0 = true then [0] else []) ++ (if b1 = true then [1] else []) ++ (if b2 = true then [2] else []) ++ (if b3 = true then [(3 : Int)] else [])).getD k.val 0 ≤ ((if b0 = true then [0] else []) ++ (if b1 = true then [1] else []) ++ (if b2 = true then [2] else []) ++ (if b3 = true then [(3 : Int)] else [])).getD (k.val - 1) 0)) := by decide +kernel
  have hk : k < 4 := by
    have := ints_len m
    rw [e] at this
    omega
  exact key b0 b1 b2 b3 ⟨k, hk⟩ h
theorem take_at {l : List Int} {k n : Nat} (h : k < (l.take n).length) : (l.take n).getD k 0 = l.getD k 0 := by
  rw [List.length_take] at h
  rw [List.getD_eq_getElem?_getD, List.getD_eq_getElem?_getD, List.getElem?_take_of_lt (by omega)]
theorem shl_val {p s : Int} (h : p = 0 ∨ p = 1 ∨ p = 2 ∨ p = 3) (h0 : 0 ≤ s) (h1 : s ≤ 100) : wrap64 (s + wrap64 (2 ^ p.toNat)) = s + pow2 p := by
  have e : wrap64 (2 ^ p.toNat) = pow2 p := by rcases h with rfl | rfl | rfl | rfl <;> decide +kernel
  have b := pow2_bd p
  rw [e]
  unfold wrap64; omega
theorem and15 (m : Int) (h0 : 0 ≤ m) (h1 : m ≤ 255) : bits .and .u8 m 15 = m % 16 := u8_and15 m h0 (by omega)
end Go.Proofs.Ytgcoggejgolhgaa
