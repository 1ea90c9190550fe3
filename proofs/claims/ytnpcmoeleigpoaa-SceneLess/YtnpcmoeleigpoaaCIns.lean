/-
  Instructions; what an Op uses, and the contracts of the program's usesOf, most and numbers.
-/
import Derived.Test.YtnpcmoeleigpoaaRw
namespace Go.Proofs.Ytnpcmoeleigpoaa.C
open Go.RowKit
attribute [local go_sem ↓] Go.wp_at_zero Go.wp_at_succ

abbrev I64 (n : Int) : Prop := -9223372036854775808 ≤ n ∧ n ≤ 9223372036854775807
structure In where
  o : Int
  d : Int
  a : Int
  b : Int
  n : Int
structure In.ok (x : In) : Prop where
  o : 0 ≤ x.o ∧ x.o ≤ 255
  d : 0 ≤ x.d ∧ x.d ≤ 255
  a : 0 ≤ x.a ∧ x.a ≤ 255
  b : 0 ≤ x.b ∧ x.b ≤ 255
  n : I64 x.n
def EI : Elem In where
  t := 57
  size := 5
  cells x := [.int .u8 x.o, .int .u8 x.d, .int .u8 x.a, .int .u8 x.b, .int .i64 x.n]
  pos := by decide
  len _ := rfl
  one x u hu := by
    simp only [List.mem_cons, List.not_mem_nil, or_false] at hu
    rcases hu with rfl | rfl | rfl | rfl | rfl <;> rfl

/-- What an Op uses, a bit each. -/
def us (o : Int) : Int := if o = 0 then 1 else if o = 1 ∨ o = 9 ∨ o = 10 then 3 else if (2 ≤ o ∧ o ≤ 8) ∨ o = 11 then 7 else if o = 12 then 2 else if o = 13 ∨ o = 14 then 15 else 0
theorem ops {o : Int} (h0 : 0 ≤ o) : o = 0 ∨ o = 1 ∨ o = 2 ∨ o = 3 ∨ o = 4 ∨ o = 5 ∨ o = 6 ∨ o = 7 ∨ o = 8 ∨ o = 9 ∨ o = 10 ∨ o = 11 ∨ o = 12 ∨ o = 13 ∨ o = 14 ∨ 14 < o := by omega
set_option maxHeartbeats 1000000 in
theorem uses_any (o : Int) (h0 : 0 ≤ o) (w : World) :
    Calls Try.prog 70 #[.int .u8 o] w fun e w' => e = .returned (.int .u8 (us o)) ∧ w = w' := by
  rcases ops h0 with rfl | rfl | rfl | rfl | rfl | rfl | rfl | rfl | rfl | rfl | rfl | rfl | rfl | rfl | rfl | h
  all_goals try (go_enter Try.func70, Try.ntmps70; go_wp2; go_ret; exact ⟨rfl, rfl⟩)
  have e : us o = 0 := by unfold us; rw [if_neg (by omega), if_neg (by omega), if_neg (by omega), if_neg (by omega), if_neg (by omega)]
  rw [e]
  have k0 : ¬ o = 0 := by omega
  have k1 : ¬ o = 1 := by omega
  have k2 : ¬ o = 2 := by omega
  have k3 : ¬ o = 3 := by omega
  have k4 : ¬ o = 4 := by omega
  have k5 : ¬ o = 5 := by omega
  have k6 : ¬ o = 6 := by omega
  have k7 : ¬ o = 7 := by omega
  have k8 : ¬ o = 8 := by omega
  have k9 : ¬ o = 9 := by omega
  have k10 : ¬ o = 10 := by omega
  have k11 : ¬ o = 11 := by omega
  have k12 : ¬ o = 12 := by omega
  have k13 : ¬ o = 13 := by omega
  have k14 : ¬ o = 14 := by omega
  clear h h0 e
  go_enter Try.func70, Try.ntmps70
  go_wp2
  go_ret
  exact ⟨rfl, rfl⟩

/-- The greatest of a register. -/
def ms (u r : Int) : Int := if r = 1 then (if u = 15 then 4 else if u = 2 then 0 else 7) else if r = 2 then (if u = 1 then 0 else 7) else (if u = 7 ∨ u = 15 then 7 else 0)
set_option maxHeartbeats 1000000 in
theorem most_any (u r : Int) (hu : u = 1 ∨ u = 2 ∨ u = 3 ∨ u = 7 ∨ u = 15) (hr : r = 1 ∨ r = 2 ∨ r = 4) (w : World) :
    Calls Try.prog 72 #[.int .u8 u, .int .u8 r] w fun e w' => e = .returned (.int .u8 (ms u r)) ∧ w = w' := by
  rcases hu with rfl | rfl | rfl | rfl | rfl <;> rcases hr with rfl | rfl | rfl
  all_goals (go_enter Try.func72, Try.ntmps72; go_wp2; go_ret; exact ⟨rfl, rfl⟩)

/-- The least and the greatest N. -/
def lo (o : Int) : Int := if o = 0 then -2147483648 else 0
def hi (o k : Int) : Int := if o = 0 then 2147483647 else if o = 9 ∨ o = 10 then 31 else if o = 12 then k else 0
set_option maxHeartbeats 1000000 in
theorem numbers_any (o k : Int) (w : World) :
    Calls Try.prog 71 #[.int .u8 o, .int .i64 k] w fun e w' => e = .returned (.tuple #[.int .i64 (lo o), .int .i64 (hi o k)]) ∧ w = w' := by
  by_cases k0 : o = 0
  · subst k0
    go_enter Try.func71, Try.ntmps71
    go_wp2
    go_ret2
    exact ⟨rfl, rfl⟩
  by_cases k1 : o = 9
  · subst k1
    go_enter Try.func71, Try.ntmps71
    go_wp2
    go_ret2
    exact ⟨rfl, rfl⟩
  by_cases k2 : o = 10
  · subst k2
    go_enter Try.func71, Try.ntmps71
    go_wp2
    go_ret2
    exact ⟨rfl, rfl⟩
  by_cases k3 : o = 12
  · subst k3
    go_enter Try.func71, Try.ntmps71
    go_wp2
    go_ret2
    exact ⟨rfl, rfl⟩
  have e : lo o = 0 := by unfold lo; rw [if_neg k0]
  have e' : hi o k = 0 := by unfold hi; rw [if_neg k0, if_neg (by omega), if_neg k3]
  rw [e, e']
  clear e e'
  go_enter Try.func71, Try.ntmps71
  go_wp2
  go_ret2
  exact ⟨rfl, rfl⟩
end Go.Proofs.Ytnpcmoeleigpoaa.C
