/-
  The contracts of fixed.Floor and texture.split, of the reference's wrap, and of the statements' small.
-/
import Derived.Test.YtnpcmoeleigpoaaRef
import Derived.Test.YtnpcmoeleigpoaaRw
namespace Go.Proofs.Ytnpcmoeleigpoaa
open Go.RowKit
attribute [local go_sem ↓] Go.wp_at_zero Go.wp_at_succ

/-- Numbers that an int holds. -/
def I64 (n : Int) : Prop := -9223372036854775808 ≤ n ∧ n ≤ 9223372036854775807
theorem sides {s : Int} (h0 : 1 ≤ s) (h1 : s ≤ 16) : s = 1 ∨ s = 2 ∨ s = 3 ∨ s = 4 ∨ s = 5 ∨ s = 6 ∨ s = 7 ∨ s = 8 ∨ s = 9 ∨ s = 10 ∨ s = 11 ∨ s = 12 ∨ s = 13 ∨ s = 14 ∨ s = 15 ∨ s = 16 := by omega
/-- glazierref11.wrap: what is left of a number, from 0 on. -/
theorem wrap_any (n s : Int) (hn : I64 n) (h0 : 1 ≤ s) (h1 : s ≤ 16) (w : World) :
    Calls Try.prog 41 #[.int .i64 n, .int .i64 s] w fun e w' => e = .returned (.int .i64 (n % s)) ∧ w = w' := by
  obtain ⟨hn0, hn1⟩ := hn
  obtain ⟨r, hr⟩ : ∃ r, n.tmod s = r := ⟨_, rfl⟩
  obtain ⟨q, hq⟩ : ∃ q, n % s = q := ⟨_, rfl⟩
  have r0 := Int.lt_tmod_of_pos n (show (0 : Int) < s by omega)
  have r1 := Int.tmod_lt_of_pos n (show (0 : Int) < s by omega)
  have q0 := Int.emod_nonneg n (show s ≠ 0 by omega)
  have q1 := Int.emod_lt_of_pos n (show (0 : Int) < s by omega)
  have h2 := Int.mul_tdiv_add_tmod n s
  have h3 := Int.emod_add_mul_ediv n s
  rw [hr] at h2 r0 r1
  rw [hq] at h3 q0 q1
  have hc : (r < 0 → r + s = q) ∧ (0 ≤ r → r = q) := by
    generalize n.tdiv s = a at *
    generalize n / s = b at *
    rcases sides h0 h1 with rfl | rfl | rfl | rfl | rfl | rfl | rfl | rfl | rfl | rfl | rfl | rfl | rfl | rfl | rfl | rfl <;> omega
  have s0 : ¬ s = 0 := by omega
  have s1 : ¬ s = -1 := by omega
  rw [hq]
  clear hq h2 h3
  by_cases hneg : r < 0
  · obtain rfl := hc.1 hneg
    clear hc
    go_enter Try.func41, Try.ntmps41
    go_wp2
    all_goals (go_ret; exact ⟨rfl, rfl⟩)
  · obtain rfl := hc.2 (by omega)
    clear hc
    go_enter Try.func41, Try.ntmps41
    go_wp2
    all_goals (go_ret; exact ⟨rfl, rfl⟩)

theorem tmod_bd (n m : Int) (hm : 0 < m) : -m < n.tmod m ∧ n.tmod m < m := ⟨Int.lt_tmod_of_pos n hm, Int.tmod_lt_of_pos n hm⟩
end Go.Proofs.Ytnpcmoeleigpoaa
