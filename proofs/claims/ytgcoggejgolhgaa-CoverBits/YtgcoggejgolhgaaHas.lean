/-
  The bits of a mask, and the reference's Has.
-/
import Derived.Test.YtgcoggejgolhgaaSamp
namespace Go.Proofs.Ytgcoggejgolhgaa
open Go.RowKit
attribute [local go_sem ↓] Go.wp_at_zero Go.wp_at_succ

/-- Whether a mask has the sample k. -/
def bt (m : Int) : Nat → Bool
  | 0 => m % 2 == 1
  | 1 => m / 2 % 2 == 1
  | 2 => m / 4 % 2 == 1
  | _ => m / 8 % 2 == 1
def itm : Nat → Fin 4
  | 0 => 0
  | 1 => 1
  | 2 => 2
  | _ => 3
def iv (x : Fin 4) : Int := x.val
/-- The samples of a mask below k, rising. -/
def bl (m : Int) : Nat → List (Fin 4)
  | 0 => []
  | k + 1 => bl m k ++ (if bt m k = true then [itm k] else [])
theorem bl_pre (m : Int) {k n : Nat} (h : k ≤ n) : bl m k <+: bl m n := by
  induction n with
  | zero => obtain rfl : k = 0 := by omega
            exact List.prefix_rfl
  | succ n ih =>
    by_cases hk : k = n + 1
    · subst hk; exact List.prefix_rfl
    · obtain ⟨t, ht⟩ := ih (by omega)
      exact ⟨t ++ (if bt m n = true then [itm n] else []), by rw [← List.append_assoc, ht]; rfl⟩
theorem bl_yes {m : Int} {k : Nat} (h : bt m k = true) : bl m (k + 1) = bl m k ++ [itm k] := by simp [bl, h]
theorem bl_no {m : Int} {k : Nat} (h : bt m k = false) : bl m (k + 1) = bl m k := by simp [bl, h]
theorem bl_lt {m : Int} {k : Nat} (h : bt m k = true) (hk : k < 4) : (bl m k).length < (bl m 4).length := by
  have h1 := (bl_pre m (show k + 1 ≤ 4 by omega)).length_le
  rw [bl_yes h] at h1
  simp at h1
  omega
theorem bl_next {m : Int} {k : Nat} (h : bt m k = true) (hk : k < 4) : bl m k ++ [itm k] <+: bl m 4 := by
  rw [← bl_yes h]
  exact bl_pre m (by omega)
theorem bl_len (m : Int) : (bl m 4).length ≤ 4 := by
  have h : ∀ k, (bl m k).length ≤ k := by
    intro k
    induction k with
    | zero => simp [bl]
    | succ k ih => simp only [bl, List.length_append]; split <;> simp <;> omega
  exact h 4

set_option maxHeartbeats 1000000 in
theorem has_any (m : Int) (i : Nat) (h0 : 0 ≤ m) (h1 : m ≤ 255) (hi : i < 4) (w : World) :
    Calls Try.prog 22 #[.int .u8 m, .int .i64 i] w fun e w' => e = .returned (.bool (bt m i)) ∧ w = w' := by
  obtain rfl | rfl | rfl | rfl : i = 0 ∨ i = 1 ∨ i = 2 ∨ i = 3 := by omega
  all_goals
    go_enter Try.func22, Try.ntmps22
    go_wp2
    go_ret
    exact ⟨rfl, rfl⟩
end Go.Proofs.Ytgcoggejgolhgaa
