/-
  What is between two vertices is inside of the plane by less than its numbers are rounded.
-/
import Derived.Test.YtfdlfjecgefgfaaCBetw
namespace Go.Proofs.Ytfdlfjecgefgfaa.C

theorem bt_parts (D K a b : Int) (hK : 0 < K) : ∃ r, K * bt D K a b = K * a + (b - a) * D - r ∧ 0 ≤ r ∧ r < K := by
  refine ⟨(b - a) * D % K, ?_, Int.emod_nonneg _ (by omega), Int.emod_lt_of_pos _ hK⟩
  have h := Int.emod_add_mul_ediv ((b - a) * D) K
  unfold bt
  rw [Int.mul_add]
  omega
theorem near_of {K S r : Int} (hK : 0 < K) (h : K * S = r) (h0 : -5 * K ≤ r) (h1 : r ≤ 5 * K) : -5 ≤ S ∧ S ≤ 5 := by
  constructor
  · refine Int.le_of_mul_le_mul_left (a := K) ?_ hK
    rw [h, Int.mul_comm K]
    omega
  · refine Int.le_of_mul_le_mul_left (a := K) ?_ hK
    rw [h, Int.mul_comm K]
    omega
theorem near11 {D K a b m n : Int} (hD : m + a = D) (hK : D - (n + b) = K) (h : 0 < K) : -5 ≤ bt D K m n + bt D K a b ∧ bt D K m n + bt D K a b ≤ 5 := by
  obtain ⟨r1, e1, l1, u1⟩ := bt_parts D K a b h
  obtain ⟨r2, e2, l2, u2⟩ := bt_parts D K m n h
  have e3 : ((n - m) + (b - a)) * D = -K * D := by rw [show (n - m) + (b - a) = -K by omega]
  have e4 : K * (m + a) = K * D := by rw [hD]
  rw [Int.add_mul, Int.neg_mul] at e3
  rw [Int.mul_add] at e4
  refine near_of h (r := -(r1 + r2)) ?_ (by omega) (by omega)
  rw [Int.mul_add]
  omega
theorem near41 {D K a b m n : Int} (hD : 4 * a + m = D) (hK : D - (4 * b + n) = K) (h : 0 < K) : -5 ≤ 4 * bt D K a b + bt D K m n ∧ 4 * bt D K a b + bt D K m n ≤ 5 := by
  obtain ⟨r1, e1, l1, u1⟩ := bt_parts D K a b h
  obtain ⟨r2, e2, l2, u2⟩ := bt_parts D K m n h
  have e3 : (4 * (b - a) + (n - m)) * D = -K * D := by rw [show 4 * (b - a) + (n - m) = -K by omega]
  have e4 : K * (4 * a + m) = K * D := by rw [hD]
  rw [Int.add_mul, Int.mul_assoc, Int.neg_mul] at e3
  rw [Int.mul_add, Int.mul_left_comm] at e4
  refine near_of h (r := -(4 * r1 + r2)) ?_ (by omega) (by omega)
  rw [Int.mul_add, Int.mul_left_comm]
  omega
theorem near42 {D K a b m n : Int} (hD : 4 * a - m = D) (hK : D - (4 * b - n) = K) (h : 0 < K) : -5 ≤ 4 * bt D K a b - bt D K m n ∧ 4 * bt D K a b - bt D K m n ≤ 5 := by
  obtain ⟨r1, e1, l1, u1⟩ := bt_parts D K a b h
  obtain ⟨r2, e2, l2, u2⟩ := bt_parts D K m n h
  have e3 : (4 * (b - a) - (n - m)) * D = -K * D := by rw [show 4 * (b - a) - (n - m) = -K by omega]
  have e4 : K * (4 * a - m) = K * D := by rw [hD]
  rw [Int.sub_mul, Int.mul_assoc, Int.neg_mul] at e3
  rw [Int.mul_sub, Int.mul_left_comm] at e4
  refine near_of h (r := -(4 * r1) + r2) ?_ (by omega) (by omega)
  rw [Int.mul_sub, Int.mul_left_comm]
  omega
theorem dist_near {p D K : Int} {A B : V} (hD : dist p A = D) (hK : D - dist p B = K) (h : 0 < K) : -5 ≤ dist p (btV D K A B) ∧ dist p (btV D K A B) ≤ 5 := by
  unfold dist at hD hK ⊢
  simp only [btV]
  split at hD
  · rename_i hp; subst hp; exact near11 hD hK h
  split at hD
  · rename_i hp; subst hp; exact near41 hD hK h
  split at hD
  · rename_i hp; subst hp; exact near42 hD hK h
  split at hD
  · rename_i hp; subst hp; exact near41 hD hK h
  split at hD
  · rename_i hp; subst hp; exact near42 hD hK h
  · rename_i h0 h1 h2 h3 h4
    simp only [h0, h1, h2, h3, h4, if_false] at hK ⊢
    omega
theorem btV_ok {D K : Int} {A B : V} (h0 : 0 ≤ D) (h1 : D ≤ K) (hk : 0 < K) (hA : A.ok) (hB : B.ok) : (btV D K A B).ok :=
  ⟨bt_in h0 h1 hk hA.x hB.x, bt_in h0 h1 hk hA.y hB.y, bt_in h0 h1 hk hA.z hB.z, bt_in h0 h1 hk hA.w hB.w, bt_in h0 h1 hk hA.a hB.a, bt_in h0 h1 hk hA.b hB.b, bt_in h0 h1 hk hA.c hB.c, bt_in h0 h1 hk hA.d hB.d⟩
theorem bt_mm {d k a b : Int} (h0 : 0 ≤ d) (h1 : d ≤ k) (hk : 0 < k) : min a b ≤ bt d k a b ∧ bt d k a b ≤ max a b :=
  bt_in h0 h1 hk (by omega) (by omega)
end Go.Proofs.Ytfdlfjecgefgfaa.C
