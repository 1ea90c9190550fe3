/-
  The contracts of fixed.Sat, and what products are within; worlds that grow.
-/
import Derived.Test.YtnpcmoeleigpoaaRows
import Derived.WalkKit
import Derived.WalkSpells
import Derived.Below
import Derived.Deep.RegionHeld3
import Derived.Deep.DrawnRows
import Derived.Deep.QuietTactic
import Derived.BigQuiet
import Derived.Lib.Hide
import Derived.StillTailTactics
namespace Go.Proofs.Ytnpcmoeleigpoaa
open Go.RowKit
attribute [local go_sem ↓] Go.wp_at_zero Go.wp_at_succ

def dv (n : Int) : Int := (n + 127) / 255
theorem mul_bd {x a : Int} (h0 : 0 ≤ x) (h1 : x ≤ 255) (k0 : 0 ≤ a) (k1 : a ≤ 255) : 0 ≤ x * a ∧ x * a ≤ 65025 :=
  ⟨Int.mul_nonneg h0 k0, Int.le_trans (Int.mul_le_mul h1 k1 k0 (by decide)) (by decide)⟩
theorem dv_bd {n : Int} (h0 : 0 ≤ n) (h1 : n ≤ 65025) : 0 ≤ dv n ∧ dv n ≤ 255 := by unfold dv; omega
theorem bstep {B : Nat} {a b c : World} (h : Below B a b) (hB : B ≤ b.heap.size) (k : Below b.heap.size b c) : Below B a c := h.trans (k.mono hB)
/-- The worlds that are as w was below its own size. -/
def Grow (w : World) : Type := { w' : World // Below w.heap.size w w' }
def Grow.w {w : World} (x : Grow w) : World := x.1
theorem Grow.below {w : World} (x : Grow w) : Below w.heap.size w x.w := x.2
theorem Grow.ne (w : World) : Nonempty (Grow w) := ⟨⟨w, Below.refl _ _⟩⟩
theorem Grow.cell {w : World} (x : Grow w) {b o : Nat} {v : Value} (h : w.cell? ⟨b, o, none⟩ = some v) : x.w.cell? ⟨b, o, none⟩ = some v := by
  rw [x.below.cell (World.block_lt_of_cell? _ _ h), h]
theorem wp_region_grow {P : Program} {id : Nat} {Q : Exit → Act → World → Prop} {a : Act} {w : World} {l : List Oper} (hm : P.follows .mixedOrders = true) (hB : Region.lexB .any l.toArray = true)
    (h : wpQuiet P l.toArray (fun w' => ∃ x : Grow w, w' = x.w) (fun a' => ∀ w', (∃ x : Grow w, w' = x.w) → Q .normal a' w') l a) : (Code.region id l.toArray true).wp P Q a w :=
  wp_region_quiet (C := fun w' => ∃ x : Grow w, w' = x.w) hm hB ⟨⟨_, (Below.refl _ _).drew⟩, rfl⟩ (by simpa using h)
theorem Grow.calls {P : Program} {f : FuncId} {args : Array Value} {w : World} {x : Grow w} {v : Value}
    (h : Calls P f args x.w fun e w' => e = .returned v ∧ Below x.w.heap.size x.w w') : Calls P f args x.w fun e w'' => e = .returned v ∧ ∃ y : Grow w, w'' = y.w :=
  h.mono fun _ _ ⟨he, hb⟩ => ⟨he, ⟨_, x.below.trans (hb.mono x.below.size)⟩, rfl⟩
end Go.Proofs.Ytnpcmoeleigpoaa
