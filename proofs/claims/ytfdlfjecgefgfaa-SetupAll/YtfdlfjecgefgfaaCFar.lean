/-
  What is left of a triangle by all planes: how many, and how far outside it may lie by what is rounded. No program is named here.
-/
import Derived.Test.YtfdlfjecgefgfaaCCut
namespace Go.Proofs.Ytfdlfjecgefgfaa.C

theorem seg_cases {p : Int} {a b v : V} (hv : v ∈ seg p a b) : (v = a ∧ 0 ≤ dist p a) ∨ (0 ≤ dist p a ∧ dist p b < 0 ∧ v = onV p a b) ∨ (0 ≤ dist p b ∧ dist p a < 0 ∧ v = onV p b a) := by
  by_cases h0 : 0 ≤ dist p a
  · by_cases h1 : 0 ≤ dist p b
    · rw [seg_in h0 h1] at hv
      simp at hv; exact .inl ⟨hv, h0⟩
    · rw [seg_go h0 (by omega)] at hv
      simp at hv
      rcases hv with rfl | rfl
      · exact .inl ⟨rfl, h0⟩
      · exact .inr (.inl ⟨h0, by omega, rfl⟩)
  · by_cases h1 : 0 ≤ dist p b
    · rw [seg_come (by omega) h1] at hv
      simp at hv
      exact .inr (.inr ⟨h1, by omega, hv⟩)
    · rw [seg_out (by omega) (by omega)] at hv
      simp at hv
theorem byV_cases {p : Int} {l : List V} {v : V} (hv : v ∈ byV p l) : (v ∈ l ∧ 0 ≤ dist p v) ∨ ∃ a b, a ∈ l ∧ b ∈ l ∧ 0 ≤ dist p a ∧ dist p b < 0 ∧ v = onV p a b := by
  unfold byV byK at hv
  rw [List.mem_flatMap] at hv
  obtain ⟨i, hi, hv⟩ := hv
  have hi : i < l.length := by simpa using hi
  rcases seg_cases hv with ⟨rfl, h⟩ | ⟨h0, h1, rfl⟩ | ⟨h0, h1, rfl⟩
  · exact .inl ⟨getD_mem hi, h⟩
  · exact .inr ⟨_, _, getD_mem hi, nx_mem hi, h0, h1, rfl⟩
  · exact .inr ⟨_, _, nx_mem hi, getD_mem hi, h0, h1, rfl⟩

theorem low_of {K D da db m S r : Int} (hK : 0 < K) (h0 : 0 ≤ D) (h1 : D ≤ K) (ha : -m ≤ da) (hb : -m ≤ db) (e : K * S = K * da + (db - da) * D - r) (hr : r ≤ 5 * K) : -m - 5 ≤ S := by
  have p1 := Int.mul_nonneg (a := K - D) (b := da + m) (by omega) (by omega)
  have p2 := Int.mul_nonneg (a := D) (b := db + m) h0 (by omega)
  rw [Int.sub_mul, Int.mul_add, Int.mul_add] at p1
  rw [Int.mul_add] at p2
  rw [Int.sub_mul, Int.mul_comm db D, Int.mul_comm da D] at e
  refine Int.le_of_mul_le_mul_left (a := K) ?_ hK
  rw [Int.mul_sub, Int.mul_neg]
  omega
theorem low11 {D K a b m n c : Int} (hK : 0 < K) (h0 : 0 ≤ D) (h1 : D ≤ K) (ha : -c ≤ m + a) (hb : -c ≤ n + b) : -c - 5 ≤ bt D K m n + bt D K a b := by
  obtain ⟨r1, e1, l1, u1⟩ := bt_parts D K a b hK
  obtain ⟨r2, e2, l2, u2⟩ := bt_parts D K m n hK
  refine low_of (r := r1 + r2) hK h0 h1 ha hb ?_ (by omega)
  rw [show n + b - (m + a) = (n - m) + (b - a) by omega, Int.add_mul, Int.mul_add, Int.mul_add]
  omega
theorem low41 {D K a b m n c : Int} (hK : 0 < K) (h0 : 0 ≤ D) (h1 : D ≤ K) (ha : -c ≤ 4 * a + m) (hb : -c ≤ 4 * b + n) : -c - 5 ≤ 4 * bt D K a b + bt D K m n := by
  obtain ⟨r1, e1, l1, u1⟩ := bt_parts D K a b hK
  obtain ⟨r2, e2, l2, u2⟩ := bt_parts D K m n hK
  refine low_of (r := 4 * r1 + r2) hK h0 h1 ha hb ?_ (by omega)
  rw [show 4 * b + n - (4 * a + m) = 4 * (b - a) + (n - m) by omega, Int.add_mul, Int.mul_add, Int.mul_add, Int.mul_assoc, Int.mul_left_comm K 4, Int.mul_left_comm K 4]
  omega
theorem low42 {D K a b m n c : Int} (hK : 0 < K) (h0 : 0 ≤ D) (h1 : D ≤ K) (ha : -c ≤ 4 * a - m) (hb : -c ≤ 4 * b - n) : -c - 5 ≤ 4 * bt D K a b - bt D K m n := by
  obtain ⟨r1, e1, l1, u1⟩ := bt_parts D K a b hK
  obtain ⟨r2, e2, l2, u2⟩ := bt_parts D K m n hK
  refine low_of (r := 4 * r1 - r2) hK h0 h1 ha hb ?_ (by omega)
  rw [show 4 * b - n - (4 * a - m) = 4 * (b - a) - (n - m) by omega, Int.sub_mul, Int.mul_sub, Int.mul_sub, Int.mul_assoc, Int.mul_left_comm K 4, Int.mul_left_comm K 4]
  omega
theorem dist_low {k D K c : Int} {A B : V} (hK : 0 < K) (h0 : 0 ≤ D) (h1 : D ≤ K) (hc : 0 ≤ c) (hA : -c ≤ dist k A) (hB : -c ≤ dist k B) : -c - 5 ≤ dist k (btV D K A B) := by
  unfold dist at hA hB ⊢
  simp only [btV]
  split at hA
  · rename_i hp; subst hp; exact low11 hK h0 h1 hA hB
  split at hA
  · rename_i hp; subst hp; exact low41 hK h0 h1 hA hB
  split at hA
  · rename_i hp; subst hp; exact low42 hK h0 h1 hA hB
  split at hA
  · rename_i hp; subst hp; exact low41 hK h0 h1 hA hB
  split at hA
  · rename_i hp; subst hp; exact low42 hK h0 h1 hA hB
  · rename_i h0 h1 h2 h3 h4
    simp only [h0, h1, h2, h3, h4, if_false]
    omega

theorem poly_far {l : List V} (hl : ∀ v ∈ l, v.ok) : ∀ j, ∀ v ∈ polyK l j, v.ok ∧ ∀ k : Nat, k < j → -(5 * (j : Int)) ≤ dist (k : Int) v
  | 0 => fun v hv => ⟨hl v hv, fun k hk => absurd hk (by omega)⟩
  | j + 1 => fun v hv => by
    have ih := poly_far hl j
    rcases byV_cases (p := (j : Int)) (l := polyK l j) hv with ⟨hm, hd⟩ | ⟨a, b, ha, hb, h0, h1, rfl⟩
    · obtain ⟨h2, h3⟩ := ih v hm
      refine ⟨h2, fun k hk => ?_⟩
      by_cases e : k = j
      · subst e; omega
      · have := h3 k (by omega)
        omega
    · obtain ⟨a2, a3⟩ := ih a ha
      obtain ⟨b2, b3⟩ := ih b hb
      refine ⟨onV_ok a2 b2 h0 h1, fun k hk => ?_⟩
      by_cases e : k = j
      · subst e
        have h := (dist_near (p := (k : Int)) (A := a) (B := b) rfl rfl (by omega)).1
        unfold onV
        omega
      · have h := dist_low (k := (k : Int)) (D := dist j a) (K := dist j a - dist j b) (c := 5 * (j : Int)) (A := a) (B := b) (by omega) h0 (by omega) (by omega) (a3 k (by omega)) (b3 k (by omega))
        unfold onV
        omega
theorem poly_len3 {l : List V} (hl : l.length ≤ 3) : (polyK l 5).length ≤ 24 := by
  have h0 := byV_len3 ((0 : Nat) : Int) (polyK l 0)
  have h1 := byV_len3 ((1 : Nat) : Int) (polyK l 1)
  have h2 := byV_len3 ((2 : Nat) : Int) (polyK l 2)
  have h3 := byV_len3 ((3 : Nat) : Int) (polyK l 3)
  have h4 := byV_len3 ((4 : Nat) : Int) (polyK l 4)
  have e1 : polyK l 1 = byV ((0 : Nat) : Int) (polyK l 0) := rfl
  have e2 : polyK l 2 = byV ((1 : Nat) : Int) (polyK l 1) := rfl
  have e3 : polyK l 3 = byV ((2 : Nat) : Int) (polyK l 2) := rfl
  have e4 : polyK l 4 = byV ((3 : Nat) : Int) (polyK l 3) := rfl
  have e5 : polyK l 5 = byV ((4 : Nat) : Int) (polyK l 4) := rfl
  rw [← e1] at h0
  rw [← e2] at h1
  rw [← e3] at h2
  rw [← e4] at h3
  rw [← e5] at h4
  rw [show polyK l 0 = l from rfl] at h0
  omega
theorem polyV_mem {l : List V} {v : V} (hv : v ∈ polyV l) : v ∈ polyK l 5 := by
  unfold polyV at hv
  split at hv
  · cases hv
  · exact hv
/-- What the law asks of a triangle. -/
theorem few_facts {l : List V} (hl : ∀ v ∈ l, v.ok) (h3 : l.length ≤ 3) :
    (polyV l).length ≤ 24 ∧ (polyV l).length ≠ 1 ∧ (polyV l).length ≠ 2 ∧ ∀ v ∈ polyV l, v.ok ∧ ∀ k : Nat, k < 5 → -25 ≤ dist (k : Int) v := by
  have hlen := poly_len3 h3
  refine ⟨?_, ?_, ?_, fun v hv => ?_⟩
  · unfold polyV; split
    · simp
    · exact hlen
  · unfold polyV; split
    · simp
    · omega
  · unfold polyV; split
    · simp
    · omega
  · obtain ⟨h1, h2⟩ := poly_far hl 5 v (polyV_mem hv)
    exact ⟨h1, fun k hk => by have := h2 k hk; omega⟩
end Go.Proofs.Ytfdlfjecgefgfaa.C
