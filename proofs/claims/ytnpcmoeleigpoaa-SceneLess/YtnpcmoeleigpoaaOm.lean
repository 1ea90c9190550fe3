/-
  Worlds that are as one was but for some blocks, and for what is new.
-/
import Derived.Test.YtnpcmoeleigpoaaApp
namespace Go.Proofs.Ytnpcmoeleigpoaa
open Go.RowKit

def Om (M : Nat → Prop) (Y w : World) : Prop := Y.heap.size ≤ w.heap.size ∧ ∀ b, b < Y.heap.size → ¬ M b → w.heap[b]? = Y.heap[b]?
section
variable {M : Nat → Prop} {Y w w' : World}
theorem om_refl (M : Nat → Prop) (Y : World) : Om M Y Y := ⟨Nat.le_refl _, fun _ _ _ => rfl⟩
theorem om_drew (M : Nat → Prop) (Y : World) : Om M Y Y.drew := ⟨Nat.le_refl _, fun _ _ _ => rfl⟩
theorem Om.bel (h : Om M Y w) (hb : Below Y.heap.size w w') : Om M Y w' := ⟨Nat.le_trans h.1 hb.size, fun b h1 h2 => (hb.block b h1).trans (h.2 b h1 h2)⟩
theorem Om.alloc (h : Om M Y w) (o : Obj) : Om M Y (w.alloc o) := h.bel ((Below.refl _ _).alloc h.1 o)
theorem Om.grown {row : Option Nat} (h : Om M Y w) (hg : w.grownBy w' row) (hr : ∀ r, row = some r → M r ∨ Y.heap.size ≤ r) : Om M Y w' :=
  ⟨Nat.le_trans h.1 hg.size, fun b h1 h2 => (hg.block b (Nat.lt_of_lt_of_le h1 h.1) (fun e => by
    rcases hr b e.symm with h3 | h3
    · exact h2 h3
    · omega)).trans (h.2 b h1 h2)⟩
theorem Om.set {g o : Nat} {u : Value} (h : Om M Y w) (hg : M g ∨ Y.heap.size ≤ g) : Om M Y (w.setCell ⟨g, o, none⟩ u) := ⟨by simpa using h.1, fun b h1 h2 => by
  rw [heap_setCell_other _ _ _ _ (by
    intro e
    have e : b = g := by simpa using e
    subst e
    rcases hg with h3 | h3
    · exact h2 h3
    · omega)]
  exact h.2 b h1 h2⟩
theorem Om.cell {b o : Nat} {v : Value} (h : Om M Y w) (hc : Y.cell? ⟨b, o, none⟩ = some v) (hM : ¬ M b) : w.cell? ⟨b, o, none⟩ = some v := by
  rw [World.cell?_of_block (a := ⟨b, o, none⟩) (h.2 b (World.block_lt_of_cell? _ _ hc) hM), hc]
end
end Go.Proofs.Ytnpcmoeleigpoaa
