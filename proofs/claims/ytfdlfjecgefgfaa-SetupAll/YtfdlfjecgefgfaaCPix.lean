/-
  The contracts of the example at the head of all statements, of fixed.Floor, of view.Pixel and view.Centre, and of the reference's.
-/
import Derived.Test.YtfdlfjecgefgfaaCView1
import Derived.Test.YtfdlfjecgefgfaaCRefA
namespace Go.Proofs.Ytfdlfjecgefgfaa.C
open Go.RowKit
attribute [local go_sem ↓] Go.wp_at_zero Go.wp_at_succ
attribute [local go_sem high] eqlP
attribute [local go_sem] guardP sameP_self

def v0 : V := ⟨0, 1, 0, 1, 0, 0, 0, 0⟩
theorem floor16_any (n q : Int) (hn0 : -100000000000000 ≤ n) (hn1 : n ≤ 100000000000000) (hq : n / 16 = q) (w : World) :
    Calls Try.prog 54 #[.int .i64 n, .int .i64 16] w fun e w' => e = .returned (.tuple #[.int .i64 q, .int .i64 0]) ∧ w = w' := by
  have h9 : ¬ n = -9223372036854775808 := by omega
  obtain ⟨t, ht⟩ : ∃ t, n.tdiv 16 = t := ⟨_, rfl⟩
  obtain ⟨r, hr⟩ : ∃ r, n.tmod 16 = r := ⟨_, rfl⟩
  have hdm := Int.mul_tdiv_add_tmod n 16
  have r0 := Int.lt_tmod_of_pos n (show (0 : Int) < 16 by decide)
  have r1 := Int.tmod_lt_of_pos n (show (0 : Int) < 16 by decide)
  rw [ht, hr] at hdm
  rw [hr] at r0 r1
  by_cases hneg : n < 0
  · have r2 : r ≤ 0 := by
      have h := Int.tmod_nonneg 16 (show 0 ≤ -n by omega)
      rw [Int.neg_tmod, hr] at h
      omega
    by_cases h0 : r = 0
    · obtain rfl : t = q := by omega
      go_enter Try.func54, Try.ntmps54
      go_wp2
      go_ret2
      exact ⟨rfl, rfl⟩
    · obtain rfl : t - 1 = q := by omega
      go_enter Try.func54, Try.ntmps54
      go_wp2
      go_ret2
      exact ⟨rfl, rfl⟩
  · have r2 : 0 ≤ r := by rw [← hr]; exact Int.tmod_nonneg _ (by omega)
    obtain rfl : t = q := by omega
    have d1 : decide (n < 0) = false := by simpa using hneg
    by_cases h0 : r = 0
    · go_enter Try.func54, Try.ntmps54
      go_wp2
      go_ret2
      exact ⟨rfl, rfl⟩
    · go_enter Try.func54, Try.ntmps54
      go_wp2
      go_ret2
      exact ⟨rfl, rfl⟩
theorem pixel_any (n q : Int) (hn0 : -100000000000000 ≤ n) (hn1 : n ≤ 100000000000000) (hq : n / 16 = q) (w : World) :
    Calls Try.prog 41 #[.int .i64 n] w fun e w' => e = .returned (.int .i64 q) ∧ w = w' := by
  have HF := Lib.hid (floor16_any n q hn0 hn1 hq w)
  clear hq
  go_enter Try.func41, Try.ntmps41
  go_wp2_with (go_at_call 54; with_reducible refine (HF.out).mono ?_; rintro e w' ⟨rfl, rfl⟩)
  go_ret
  exact ⟨rfl, rfl⟩
theorem rpixel_any (n q : Int) (hn0 : -100000000000000 ≤ n) (hn1 : n ≤ 100000000000000) (hq : n / 16 = q) (w : World) :
    Calls Try.prog 30 #[.int .i64 n] w fun e w' => e = .returned (.int .i64 q) ∧ Below w.heap.size w w' := by
  have HF := Lib.hid (down_any n 16 q (by omega) (by omega) (by omega) (by omega) hq w)
  clear hq
  go_enter Try.func30, Try.ntmps30
  go_wp2_with (go_at_call 42; with_reducible refine (HF.out).mono ?_; rintro e w' ⟨rfl, hb⟩; have HB := Lib.hid hb; clear hb)
  go_ret
  exact ⟨rfl, HB.out⟩
end Go.Proofs.Ytfdlfjecgefgfaa.C
