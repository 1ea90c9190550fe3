/-
  A region that draws its order: its quiet rest, walked in the text's order, in a class of worlds that is narrower than what was held so far.
-/
import Derived.Test.YtopncdeafbpenaaBackW
import Derived.Deep.RegionHeld3
import Derived.BigQuiet
namespace Go.Proofs.Ytopncdeafbpenaa
open Go.RowKit

theorem held_narrow {P : Program} {ops : Array Oper} {md : Region.Mode} {C S : World → Prop} {Q : Exit → Act → World → Prop} (hCS : ∀ w, C w → S w) :
    ∀ (fuel : Nat) (listed : Array Bool) (a : Act) (w : World), wpAnyH P md ops Q C fuel listed a w → wpAnyH P md ops Q S fuel listed a w
  | 0, _, _, _, h => h
  | fuel + 1, _, _, _, h => ⟨h.1, fun i hi => wpOp_mono (fun a' w' h' => ⟨hCS _ h'.1, held_narrow hCS fuel _ a' w' h'.2⟩) (h.2 i hi)⟩
theorem held_rest {P : Program} {ops : Array Oper} {md : Region.Mode} {C : World → Prop} {Q : Act → Prop} {Q' : Exit → Act → World → Prop} (hQ : ∀ a w, C w → Q a → Q' .normal a w) :
    ∀ (fuel : Nat) (listed : Array Bool) (a : Act) (w : World), C w → wpAnyQ P md ops C Q fuel listed a → wpAnyH P md ops Q' C fuel listed a w
  | 0, _, _, _, hw, h => ⟨h.1, hQ _ _ hw h.2⟩
  | fuel + 1, _, _, _, hw, h => ⟨fun h0 => hQ _ _ hw (h.1 h0), fun i hi => wpOp_of_qOp hw (fun a' w' hw' h' => ⟨hw', held_rest hQ fuel _ a' w' hw' h'⟩) (h.2 i hi)⟩
theorem held_from {P : Program} {l : List Oper} {S : World → Prop} {Q' : Exit → Act → World → Prop} {a : Act} {w : World} {listed : Array Bool} {fuel : Nat} (k : Nat) (hs : Region.noSelect l.toArray = true)
    (hB : Region.lexFrom .any l.toArray fuel k listed = true) (hl : (l.drop k).length = fuel) (hS : ∀ w', (∃ n, w' = w.drewN n) → S w')
    (h : wpQuiet P l.toArray (fun w' => ∃ n, w' = w.drewN n) (fun a => ∀ w', (∃ n, w' = w.drewN n) → Q' .normal a w') (l.drop k) a) : wpAnyH P .any l.toArray Q' S fuel listed a w := by
  subst hl
  exact held_narrow hS _ _ _ _ (held_rest (Q := fun a => ∀ w', (∃ n, w' = w.drewN n) → Q' .normal a w') (fun a w hw h => h w hw) _ _ _ _ ⟨0, rfl⟩ (wpAnyQ_lex hs (l.drop k) k listed a (fun j => by simp) hB h))
end Go.Proofs.Ytopncdeafbpenaa
