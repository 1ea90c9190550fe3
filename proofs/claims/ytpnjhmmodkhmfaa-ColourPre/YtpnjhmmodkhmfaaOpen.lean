/-
  What an argument that is a colour, or a byte, is opened to.
-/
import Derived.Test.YtpnjhmmodkhmfaaRows
import Derived.WalkKit
import Derived.ProofKit
import Derived.OpenShut
import Derived.ShutString
import Derived.ChangeOld
import Derived.Below
import Derived.Lib.SmallJoins
namespace Go.Proofs.Ytpnjhmmodkhmfaa
open Go.ChangeShapes Go.WideShapes Go.ChangeAt Go.RowKit Go.Joins

theorem own : ownKnob Try.prog.godebug = none := by kernel_rfl
theorem laidOut : laidOutB Try.prog = true := by kernel_rfl
theorem cells23 : Try.prog.cellsOf 23 = 4 := by kernel_rfl

theorem open_colour {H : Type} {enc : TypeId × Value → H} {w : World} {base b0 : Nat} {spare : Nat → Bool} {held : Bool} {r : Reach} {v : Value} {d : DataW H} {p : List MemPlace}
    (hv : Value.okWide Try.prog w r b0 23 v) (h : DataW.Trod enc Try.prog w base spare held 23 v d p) :
    ∃ x y z a : Int, v = .agg #[.int .u8 x, .int .u8 y, .int .u8 z, .int .u8 a] ∧ 0 ≤ x ∧ x ≤ 255 ∧ 0 ≤ y ∧ y ≤ 255 ∧ 0 ≤ z ∧ z ≤ 255 ∧ 0 ≤ a ∧ a ≤ 255 := by
  obtain ⟨c0, c1, c2, c3, y0, y1, y2, y3, m, rfl, _, _, hy0, hy1, hy2, hy3⟩ := open_agg4 Try.underlying23 (by kernel_rfl) cells23 hv h
  obtain ⟨x, e0, _, wx⟩ := DataW.trod_int Try.underlying5 hy0
  obtain ⟨y, e1, _, wy⟩ := DataW.trod_int Try.underlying5 hy1
  obtain ⟨z, e2, _, wz⟩ := DataW.trod_int Try.underlying5 hy2
  obtain ⟨a, e3, _, wa⟩ := DataW.trod_int Try.underlying5 hy3
  simp at e0 e1 e2 e3
  subst e0 e1 e2 e3
  exact ⟨x, y, z, a, rfl, (bounds_u8 wx).1, (bounds_u8 wx).2, (bounds_u8 wy).1, (bounds_u8 wy).2, (bounds_u8 wz).1, (bounds_u8 wz).2, (bounds_u8 wa).1, (bounds_u8 wa).2⟩
end Go.Proofs.Ytpnjhmmodkhmfaa
