/-
  The walk of glazierlaw12.CodeOps.
-/
import Derived.Test.YticfllfelbfceaaOpsA
import Derived.Test.YticfllfelbfceaaOpsB
import Derived.Test.YticfllfelbfceaaOpsC
import Derived.Test.YticfllfelbfceaaOpsD
namespace Go.Proofs.Yticfllfelbfceaa
open Go.RowKit

theorem ops_walk (o d a b : Int) (bo : 0 ≤ o ∧ o ≤ 255) (bd : 0 ≤ d ∧ d ≤ 255) (ba : 0 ≤ a ∧ a ≤ 255) (bb : 0 ≤ b ∧ b ≤ 255) (w : World) :
    Calls Try.prog 8 #[.int .u8 o, .agg #[.int .u8 d, .int .u8 a, .int .u8 b]] w fun e w' => e = .returned (.bool true) ∧ Below w.heap.size w w' := by
  have qd := Int.tmod_eq_emod_of_nonneg (b := 8) bd.1
  have qe := Int.tmod_eq_emod_of_nonneg (b := 5) bd.1
  have qa := Int.tmod_eq_emod_of_nonneg (b := 8) ba.1
  have qb := Int.tmod_eq_emod_of_nonneg (b := 8) bb.1
  have kd : 0 ≤ d % 8 ∧ d % 8 ≤ 7 := by omega
  have ke : 0 ≤ d % 5 ∧ d % 5 ≤ 4 := by omega
  have ka : 0 ≤ a % 8 ∧ a % 8 ≤ 7 := by omega
  have kb : 0 ≤ b % 8 ∧ b % 8 ≤ 7 := by omega
  rcases ops bo.1 with rfl | rfl | rfl | rfl | rfl | rfl | rfl | rfl | rfl | rfl | rfl | rfl | rfl | rfl | rfl | h
  · exact ops_0 _ _ _ _ _ _ kd ka kb qd qa qb w
  · exact ops_1 _ _ _ _ _ _ kd ka kb qd qa qb w
  · exact ops_2 _ _ _ _ _ _ kd ka kb qd qa qb w
  · exact ops_3 _ _ _ _ _ _ kd ka kb qd qa qb w
  · exact ops_4 _ _ _ _ _ _ kd ka kb qd qa qb w
  · exact ops_5 _ _ _ _ _ _ kd ka kb qd qa qb w
  · exact ops_6 _ _ _ _ _ _ kd ka kb qd qa qb w
  · exact ops_7 _ _ _ _ _ _ kd ka kb qd qa qb w
  · exact ops_8 _ _ _ _ _ _ kd ka kb qd qa qb w
  · exact ops_9 _ _ _ _ _ _ kd ka kb qd qa qb w
  · exact ops_10 _ _ _ _ _ _ kd ka kb qd qa qb w
  · exact ops_11 _ _ _ _ _ _ kd ka kb qd qa qb w
  · exact ops_12 _ _ _ _ _ _ kd ka kb qd qa qb w
  · exact ops_13 _ _ _ _ _ _ _ kd ka kb ke qd qa qb qe w
  · exact ops_14 _ _ _ _ _ _ _ kd ka kb ke qd qa qb qe w
  · exact ops_15 _ _ _ _ _ _ _ _ ⟨by omega, bo.2⟩ kd ka kb ke qd qa qb qe w
end Go.Proofs.Yticfllfelbfceaa
