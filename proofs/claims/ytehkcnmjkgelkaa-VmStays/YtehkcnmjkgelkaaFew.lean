/-
  The statements' few, and the contract of the reference's Fit.
-/
import Derived.Test.YtehkcnmjkgelkaaRSmooth
namespace Go.Proofs.Ytehkcnmjkgelkaa
open Go.RowKit
attribute [local go_sem ↓] Go.wp_at_zero Go.wp_at_succ

theorem Es.take {w : World} {B : Nat} {A : Option Addr} {xs : List Col} (h : Es EC w B A xs) (k : Nat) : Es EC w B A (xs.take k) := fun hne => by
  obtain ⟨b, off, e, hb, hc⟩ := h (by rintro rfl; simp at hne)
  refine ⟨b, off, e, hb, fun j u hj => hc j u ?_⟩
  rw [List.getElem?_take] at hj
  split at hj
  · exact hj
  · cases hj
/-- A picture of at most 300 texels. -/
def fewT (t : Tx) : Tx := ⟨t.w, t.h, t.px.take 300⟩
theorem fewT_ok {t : Tx} (h : t.ok) : (fewT t).ok := fun c hc => h c (List.mem_of_mem_take hc)

end Go.Proofs.Ytehkcnmjkgelkaa
