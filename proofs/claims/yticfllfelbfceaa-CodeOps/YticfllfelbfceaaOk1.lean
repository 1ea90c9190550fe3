/-
  Lists of one instruction.
-/
import Derived.Test.YticfllfelbfceaaAllW
namespace Go.Proofs.Yticfllfelbfceaa
open Go.RowKit
attribute [local go_sem ↓] Go.wp_at_zero Go.wp_at_succ

theorem ok1 {y : In} (h : y.ok) : ∀ x ∈ [y], x.ok := by
  intro x hx
  obtain rfl : x = y := by simpa using hx
  exact h
end Go.Proofs.Yticfllfelbfceaa
