/-
  The contracts of fixed.Floor and texture.split, of the reference's wrap, and of the statements' small.
-/
import Derived.Test.YtehkcnmjkgelkaaRef
import Derived.Test.YtehkcnmjkgelkaaCRefA
import Derived.Test.YtehkcnmjkgelkaaRw
namespace Go.Proofs.Ytehkcnmjkgelkaa
open Go.RowKit
attribute [local go_sem ↓] Go.wp_at_zero Go.wp_at_succ

/-- Numbers that an int holds. -/
def I64 (n : Int) : Prop := -9223372036854775808 ≤ n ∧ n ≤ 9223372036854775807
theorem sides {s : Int} (h0 : 1 ≤ s) (h1 : s ≤ 16) : s = 1 ∨ s = 2 ∨ s = 3 ∨ s = 4 ∨ s = 5 ∨ s = 6 ∨ s = 7 ∨ s = 8 ∨ s = 9 ∨ s = 10 ∨ s = 11 ∨ s = 12 ∨ s = 13 ∨ s = 14 ∨ s = 15 ∨ s = 16 := by omega
theorem rest_bd {n s t r : Int} (h0 : 1 ≤ s) (h1 : s ≤ 16) (hd : s * t + r = n) (r0 : -s < r) (r1 : r < s) (hneg : n < 0 → r ≤ 0) (hpos : 0 ≤ n → 0 ≤ r) : (n < 0 → n ≤ t ∧ t ≤ 0 ∧ (r ≠ 0 → n < t)) ∧ (0 ≤ n → 0 ≤ t ∧ t ≤ n) := by
  rcases sides h0 h1 with rfl | rfl | rfl | rfl | rfl | rfl | rfl | rfl | rfl | rfl | rfl | rfl | rfl | rfl | rfl | rfl <;> omega
theorem floor_one (n s q : Int) (hn : I64 n) (h0 : 1 ≤ s) (h1 : s ≤ 16) (hq : n / s = q) (w : World) :
    Calls Try.prog 70 #[.int .i64 n, .int .i64 s] w fun e w' => e = .returned (.tuple #[.int .i64 q, .int .i64 0]) ∧ w = w' := by
  obtain ⟨hn0, hn1⟩ := hn
  by_cases h9 : n = -9223372036854775808
  · subst h9
    subst hq
    clear hn0 hn1
    rcases sides h0 h1 with rfl | rfl | rfl | rfl | rfl | rfl | rfl | rfl | rfl | rfl | rfl | rfl | rfl | rfl | rfl | rfl
    all_goals
      clear h0 h1
      go_enter Try.func70, Try.ntmps70
      go_wp2
      go_ret2
      exact ⟨rfl, rfl⟩
  obtain ⟨t, ht⟩ : ∃ t, n.tdiv s = t := ⟨_, rfl⟩
  obtain ⟨r, hr⟩ : ∃ r, n.tmod s = r := ⟨_, rfl⟩
  have hdm := Int.mul_tdiv_add_tmod n s
  have r0 := Int.lt_tmod_of_pos n (show (0 : Int) < s by omega)
  have r1 := Int.tmod_lt_of_pos n (show (0 : Int) < s by omega)
  have rn : n < 0 → r ≤ 0 := fun hneg => by
    have h := Int.tmod_nonneg s (show 0 ≤ -n by omega)
    rw [Int.neg_tmod, hr] at h
    omega
  have rp : 0 ≤ n → 0 ≤ r := fun hneg => by rw [← hr]; exact Int.tmod_nonneg _ hneg
  rw [ht, hr] at hdm
  rw [hr] at r0 r1
  obtain ⟨bn, bp⟩ := rest_bd h0 h1 hdm r0 r1 rn rp
  have qn : n < 0 → (r = 0 → t = q) ∧ (r ≠ 0 → t - 1 = q) := fun hneg => by
    refine ⟨fun h => ?_, fun h => ?_⟩
    · rw [← hq]; exact (C.div_unique (r := 0) (by omega) (by omega) (by omega) (by omega)).symm
    · rw [← hq]; exact (C.div_unique (r := r + s) (by omega) (by rw [Int.mul_sub]; omega) (by have := rn hneg; omega) (by have := rn hneg; omega)).symm
  have qp : 0 ≤ n → t = q := fun hp => by
    rw [← hq]; exact (C.div_unique (r := r) (by omega) (by omega) (rp hp) r1).symm
  have s0 : ¬ s = 0 := by omega
  have s1 : ¬ s = -1 := by omega
  have s2 : decide (s < 0) = false := by simp; omega
  have s3 : decide (s = -1) = false := by simp; omega
  clear hdm hq
  by_cases hneg : n < 0
  · have b := bn hneg
    have r2 := rn hneg
    by_cases hz : r = 0
    · obtain rfl : t = q := (qn hneg).1 hz
      clear bn bp rn rp qn qp
      go_enter Try.func70, Try.ntmps70
      go_wp2
      all_goals (go_ret2; exact ⟨rfl, rfl⟩)
    · obtain rfl : t - 1 = q := (qn hneg).2 hz
      have b2 := b.2.2 hz
      clear bn bp rn rp qn qp
      go_enter Try.func70, Try.ntmps70
      go_wp2
      all_goals (go_ret2; exact ⟨rfl, rfl⟩)
  · have b := bp (by omega)
    obtain rfl : t = q := qp (by omega)
    have d1 : decide (n < 0) = false := by simpa using hneg
    have r2 := rp (by omega)
    clear bn bp rn rp qn qp
    by_cases hz : r = 0
    · go_enter Try.func70, Try.ntmps70
      go_wp2
      all_goals (go_ret2; exact ⟨rfl, rfl⟩)
    · go_enter Try.func70, Try.ntmps70
      go_wp2
      all_goals (go_ret2; exact ⟨rfl, rfl⟩)

theorem split_any (n s : Int) (hn : I64 n) (h0 : 1 ≤ s) (h1 : s ≤ 16) (w : World) :
    Calls Try.prog 52 #[.int .i64 n, .int .i64 s] w fun e w' => e = .returned (.tuple #[.int .i64 (n / s), .int .i64 (n % s)]) ∧ w = w' := by
  obtain ⟨q, hq⟩ : ∃ q, n / s = q := ⟨_, rfl⟩
  obtain ⟨r, hr⟩ : ∃ r, n % s = r := ⟨_, rfl⟩
  have HF := Lib.hid (floor_one n s q hn h0 h1 hq w)
  obtain ⟨hn0, hn1⟩ := hn
  have hd := Int.emod_add_mul_ediv n s
  have r0 := Int.emod_nonneg n (show s ≠ 0 by omega)
  have r1 := Int.emod_lt_of_pos n (show (0 : Int) < s by omega)
  rw [hr, hq] at hd
  rw [hr] at r0 r1
  rw [hq, hr]
  obtain ⟨m, hm⟩ : ∃ m, q * s = m := ⟨_, rfl⟩
  rw [Int.mul_comm, hm] at hd
  obtain ⟨p, hp⟩ : ∃ p, IntKind.i64.wrap (q * s) = p := ⟨_, rfl⟩
  have hl : IntKind.i64.wrap (n - p) = r := by
    rw [← hp, hm, IntKind.wrap_i64, IntKind.wrap_i64]
    omega
  clear hq hr hd hm
  go_enter Try.func52, Try.ntmps52
  go_wp2_with (go_at_call 70; with_reducible refine (HF.out).mono ?_; rintro e w' ⟨rfl, rfl⟩)
  go_ret2
  exact ⟨rfl, rfl⟩

/-- glazierref11.wrap: what is left of a number, from 0 on. -/
theorem wrap_any (n s : Int) (hn : I64 n) (h0 : 1 ≤ s) (h1 : s ≤ 16) (w : World) :
    Calls Try.prog 37 #[.int .i64 n, .int .i64 s] w fun e w' => e = .returned (.int .i64 (n % s)) ∧ w = w' := by
  obtain ⟨hn0, hn1⟩ := hn
  obtain ⟨r, hr⟩ : ∃ r, n.tmod s = r := ⟨_, rfl⟩
  obtain ⟨q, hq⟩ : ∃ q, n % s = q := ⟨_, rfl⟩
  have r0 := Int.lt_tmod_of_pos n (show (0 : Int) < s by omega)
  have r1 := Int.tmod_lt_of_pos n (show (0 : Int) < s by omega)
  have q0 := Int.emod_nonneg n (show s ≠ 0 by omega)
  have q1 := Int.emod_lt_of_pos n (show (0 : Int) < s by omega)
  have h2 := Int.mul_tdiv_add_tmod n s
  have h3 := Int.emod_add_mul_ediv n s
  rw [hr] at h2 r0 r1
  rw [hq] at h3 q0 q1
  have hc : (r < 0 → r + s = q) ∧ (0 ≤ r → r = q) := by
    generalize n.tdiv s = a at *
    generalize n / s = b at *
    rcases sides h0 h1 with rfl | rfl | rfl | rfl | rfl | rfl | rfl | rfl | rfl | rfl | rfl | rfl | rfl | rfl | rfl | rfl <;> omega
  have s0 : ¬ s = 0 := by omega
  have s1 : ¬ s = -1 := by omega
  rw [hq]
  clear hq h2 h3
  by_cases hneg : r < 0
  · obtain rfl := hc.1 hneg
    clear hc
    go_enter Try.func37, Try.ntmps37
    go_wp2
    all_goals (go_ret; exact ⟨rfl, rfl⟩)
  · obtain rfl := hc.2 (by omega)
    clear hc
    go_enter Try.func37, Try.ntmps37
    go_wp2
    all_goals (go_ret; exact ⟨rfl, rfl⟩)

theorem tmod_bd (n m : Int) (hm : 0 < m) : -m < n.tmod m ∧ n.tmod m < m := ⟨Int.lt_tmod_of_pos n hm, Int.tmod_lt_of_pos n hm⟩
end Go.Proofs.Ytehkcnmjkgelkaa
