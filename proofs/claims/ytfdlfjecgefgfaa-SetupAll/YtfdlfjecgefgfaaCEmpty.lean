/-
  The contracts of fit and few: at most eight vertices that may be, or of numbers up to 2^20.
-/
import Derived.Test.YtfdlfjecgefgfaaCVs
import Derived.Test.YtfdlfjecgefgfaaCRefB
namespace Go.Proofs.Ytfdlfjecgefgfaa.C
open Go.RowKit
attribute [local go_sem ↓] Go.wp_at_zero Go.wp_at_succ

theorem ownV_empty (w : World) (base : Nat) (h : base ≤ w.heap.size) : OwnV (w.alloc (.cells #[] 25)) base (.slice (some ⟨w.heap.size, 0, none⟩) 0 0) [] :=
  ⟨rfl, .inr ⟨_, 0, #[], rfl, h, heap_alloc_new _ _, Nat.le_refl _, by unfold maxLen; omega, rfl, rfl⟩⟩

end Go.Proofs.Ytfdlfjecgefgfaa.C
