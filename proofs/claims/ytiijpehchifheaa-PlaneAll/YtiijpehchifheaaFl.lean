/-
  The contracts of fixed.Floor, view.Centre and the reference's Centre.
-/
import Derived.Test.YtiijpehchifheaaNum
namespace Go.Proofs.Ytiijpehchifheaa
open Go.RowKit
attribute [local go_sem ↓] Go.wp_at_zero Go.wp_at_succ

theorem ffloor_any (n c q : Int) (hn0 : -9223372036854775807 < n) (hn1 : n < 9223372036854775807) (hc0 : 0 < c) (hc1 : c < 9223372036854775807) (hq : n / c = q) (w : World) :
    Calls Try.prog 34 #[.int .i64 n, .int .i64 c] w fun e w' => e = .returned (.tuple #[.int .i64 q, .int .i64 0]) ∧ w = w' := by
  have h9 : ¬ n = -9223372036854775808 := by omega
  have hc9 : ¬ c = 0 := by omega
  have hc8 : ¬ c < 0 := by omega
  have d2 : decide (c < 0) = false := by simpa using hc8
  obtain ⟨t, ht⟩ : ∃ t, n.tdiv c = t := ⟨_, rfl⟩
  obtain ⟨r, hr⟩ : ∃ r, n.tmod c = r := ⟨_, rfl⟩
  have hdm := Int.mul_tdiv_add_tmod n c
  have r0 := Int.lt_tmod_of_pos n hc0
  have r1 := Int.tmod_lt_of_pos n hc0
  rw [ht, hr] at hdm
  rw [hr] at r0 r1
  have hqb := ediv_bd (n := n) (B := 9223372036854775806) hc0 (by omega) (by omega) (by omega)
  rw [hq] at hqb
  by_cases hneg : n < 0
  · have r2 : r ≤ 0 := by
      have h := Int.tmod_nonneg c (show 0 ≤ -n by omega)
      rw [Int.neg_tmod, hr] at h
      omega
    have d1 : decide (n < 0) = true := by simpa using hneg
    by_cases h0 : r = 0
    · obtain rfl : t = q := by rw [← hq]; exact (div_is (r := 0) hc0 (by omega) (by omega) hc0).symm
      have e1 : IntKind.i64.wrap t = t := by rw [IntKind.wrap_i64]; omega
      clear hdm hq
      go_enter Try.func34, Try.ntmps34
      go_wp2
      go_ret2
      exact ⟨rfl, rfl⟩
    · obtain rfl : t - 1 = q := by rw [← hq]; exact (div_is (r := r + c) hc0 (by rw [Int.mul_sub]; omega) (by omega) (by omega)).symm
      have e1 : IntKind.i64.wrap t = t := by rw [IntKind.wrap_i64]; omega
      have e2 : IntKind.i64.wrap (t - 1) = t - 1 := by rw [IntKind.wrap_i64]; omega
      clear hdm hq
      go_enter Try.func34, Try.ntmps34
      go_wp2
      go_ret2
      exact ⟨rfl, rfl⟩
  · have r2 : 0 ≤ r := by rw [← hr]; exact Int.tmod_nonneg _ (by omega)
    obtain rfl : t = q := by rw [← hq]; exact (div_is (r := r) hc0 (by omega) (by omega) (by omega)).symm
    have e1 : IntKind.i64.wrap t = t := by rw [IntKind.wrap_i64]; omega
    have d1 : decide (n < 0) = false := by simpa using hneg
    clear hdm hq
    by_cases h0 : r = 0
    · go_enter Try.func34, Try.ntmps34
      go_wp2
      go_ret2
      exact ⟨rfl, rfl⟩
    · go_enter Try.func34, Try.ntmps34
      go_wp2
      go_ret2
      exact ⟨rfl, rfl⟩
theorem centre_any (n k : Int) (hn0 : -100000000000000 ≤ n) (hn1 : n ≤ 100000000000000) (hk : 16 * n + 8 = k) (w : World) :
    Calls Try.prog 28 #[.int .i64 n] w fun e w' => e = .returned (.int .i64 k) ∧ w = w' := by
  have e1 : IntKind.i64.wrap (16 * n) = 16 * n := by rw [IntKind.wrap_i64]; omega
  have e2 : IntKind.i64.wrap (16 * n + 8) = k := by rw [IntKind.wrap_i64]; omega
  clear hk
  go_enter Try.func28, Try.ntmps28
  go_wp2
  go_ret
  exact ⟨rfl, rfl⟩
theorem rcentre_any (n k : Int) (hn0 : -100000000000000 ≤ n) (hn1 : n ≤ 100000000000000) (hk : 16 * n + 8 = k) (w : World) :
    Calls Try.prog 29 #[.int .i64 n] w fun e w' => e = .returned (.int .i64 k) ∧ w = w' := by
  have e1 : IntKind.i64.wrap (16 * n) = 16 * n := by rw [IntKind.wrap_i64]; omega
  have e2 : IntKind.i64.wrap (16 * n + 8) = k := by rw [IntKind.wrap_i64]; omega
  clear hk
  go_enter Try.func29, Try.ntmps29
  go_wp2
  go_ret
  exact ⟨rfl, rfl⟩
end Go.Proofs.Ytiijpehchifheaa
