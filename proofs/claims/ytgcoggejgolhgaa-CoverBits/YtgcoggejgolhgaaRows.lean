/-
  No cell of these rows narrows 'for every input' (looked for: loops, veiled, ifaces, maps, wideKeys, modest, calm, conditions, laid).
  DERIVED. THE GIVEN ROWS OF THIS SEAT. 4 by the template 'for every input the law returns true; each argument reads behind the call as it read before'; 0 by the template 'total and deterministic' (their statements: YtgcoggejgolhgaaTotals.lean).
  GIVEN WITH THE SEED: the statements are not yours to turn. If you find one false, say at which input.
  Laid BY PROGRAM, IN A SANDBOX (cutbox-rows.mjs): the forced cells as the released guide's own fill.sh prints them over the translation d811c90b7042c565… (all of the seat's roots in one cut). By AI agents, Wed Nov 11 2026. No macro, syntax, notation, axiom, sorry.
-/
import Derived.Test.YtgcoggejgolhgaaChecked
import GoSem.Claim
import GoSem.ClaimJoined
import GoSem.ClaimMapViews
import Derived.JoinedTies
import Derived.KernelRfl
namespace Go.Proofs.Ytgcoggejgolhgaa
/- THE CELL 'sum', in the pinned program and in every row, IS THE sha256 OF THE DUMP (.gsa) THAT YtgcoggejgolhgaaProg.lean LOADS. Nothing in Lean hashes anything: it is a label: what it is worth is what the hold of that sum in a sandbox is worth. -/
noncomputable def Try.pinned : Pinned := { name := "ytgcoggejgolhgaa", sum := "d811c90b7042c565f73eb6b207df97242e00e7f0a2371017adba80665acd9ee4", checked := Try.checked }
namespace Rows
def none {H : Type} : Left H := { results := [], args := [] }

/-- 'glazierlaw08.CoverAll': WHATEVER THE INPUT: true; the input reads as it did. -/
def coverAllSpec : ChangeSpec := { name := "coverAll", fn := fun _ => fun
  | [d1, d2, d3] => { results := [.lit (.bool true)], args := [d1, d2, d3] }
  | _ => none }
def coverAllRow : OpenClaim := { program := "ytgcoggejgolhgaa", sum := "d811c90b7042c565f73eb6b207df97242e00e7f0a2371017adba80665acd9ee4", func := "glazier/glazierlaw08.CoverAll", spec := "coverAll", unfollowed := true, recurses := true, apart := false }
def CoverAllSaid : Prop := coverAllRow.holds Try.pinned (OpenSpec.ofChange coverAllSpec)

/-- ITS FALSE NEIGHBOUR: 'it returns false'. Refute it at one input. -/
def coverAllWrong : ChangeSpec := { name := "coverAll", fn := fun _ => fun
  | [d1, d2, d3] => { results := [.lit (.bool false)], args := [d1, d2, d3] }
  | _ => none }
def CoverAllWrongFalsely : Prop := coverAllRow.holds Try.pinned (OpenSpec.ofChange coverAllWrong)

/-- 'glazierlaw08.CoverOnce': WHATEVER THE INPUT: true; the input reads as it did. -/
def coverOnceSpec : ChangeSpec := { name := "coverOnce", fn := fun _ => fun
  | [d1, d2] => { results := [.lit (.bool true)], args := [d1, d2] }
  | _ => none }
def coverOnceRow : OpenClaim := { program := "ytgcoggejgolhgaa", sum := "d811c90b7042c565f73eb6b207df97242e00e7f0a2371017adba80665acd9ee4", func := "glazier/glazierlaw08.CoverOnce", spec := "coverOnce", unfollowed := true, recurses := true, apart := false }
def CoverOnceSaid : Prop := coverOnceRow.holds Try.pinned (OpenSpec.ofChange coverOnceSpec)

/-- ITS FALSE NEIGHBOUR: 'it returns false'. Refute it at one input. -/
def coverOnceWrong : ChangeSpec := { name := "coverOnce", fn := fun _ => fun
  | [d1, d2] => { results := [.lit (.bool false)], args := [d1, d2] }
  | _ => none }
def CoverOnceWrongFalsely : Prop := coverOnceRow.holds Try.pinned (OpenSpec.ofChange coverOnceWrong)

/-- 'glazierlaw08.CoverBits': WHATEVER THE INPUT: true; the input reads as it did. -/
def coverBitsSpec : ChangeSpec := { name := "coverBits", fn := fun _ => fun
  | [d1, d2, d3] => { results := [.lit (.bool true)], args := [d1, d2, d3] }
  | _ => none }
def coverBitsRow : OpenClaim := { program := "ytgcoggejgolhgaa", sum := "d811c90b7042c565f73eb6b207df97242e00e7f0a2371017adba80665acd9ee4", func := "glazier/glazierlaw08.CoverBits", spec := "coverBits", unfollowed := true, recurses := true, apart := false }
def CoverBitsSaid : Prop := coverBitsRow.holds Try.pinned (OpenSpec.ofChange coverBitsSpec)

/-- ITS FALSE NEIGHBOUR: 'it returns false'. Refute it at one input. -/
def coverBitsWrong : ChangeSpec := { name := "coverBits", fn := fun _ => fun
  | [d1, d2, d3] => { results := [.lit (.bool false)], args := [d1, d2, d3] }
  | _ => none }
def CoverBitsWrongFalsely : Prop := coverBitsRow.holds Try.pinned (OpenSpec.ofChange coverBitsWrong)

/-- 'glazierlaw08.CoverFan': WHATEVER THE INPUT: true; the input reads as it did. -/
def coverFanSpec : ChangeSpec := { name := "coverFan", fn := fun _ => fun
  | [d1, d2, d3] => { results := [.lit (.bool true)], args := [d1, d2, d3] }
  | _ => none }
def coverFanRow : OpenClaim := { program := "ytgcoggejgolhgaa", sum := "d811c90b7042c565f73eb6b207df97242e00e7f0a2371017adba80665acd9ee4", func := "glazier/glazierlaw08.CoverFan", spec := "coverFan", unfollowed := true, recurses := true, apart := false }
def CoverFanSaid : Prop := coverFanRow.holds Try.pinned (OpenSpec.ofChange coverFanSpec)

/-- ITS FALSE NEIGHBOUR: 'it returns false'. Refute it at one input. -/
def coverFanWrong : ChangeSpec := { name := "coverFan", fn := fun _ => fun
  | [d1, d2, d3] => { results := [.lit (.bool false)], args := [d1, d2, d3] }
  | _ => none }
def CoverFanWrongFalsely : Prop := coverFanRow.holds Try.pinned (OpenSpec.ofChange coverFanWrong)

/- THE SECOND FORM. 'bulk': how many values and letters a reading holds, each counted each time it is reached (what is shared counts as often as it is met; a slice's spare places count too). A statement '..UptoSaid' is the law's where the arguments, and the package variables that the reading takes, are together of bulk at most 1048576: NARROWER than '..Said'. Prove '..Said' where nothing that the law and all that it calls make is longer than what came in: it says more and counts as full. Else prove '..UptoSaid'. A law counts once. -/
mutual
def uptoBulk {H : Type} : DataW H → Nat
  | .lit (.string bytes) => bytes.length + 1
  | .lit _ => 1
  | .nil => 1
  | .ptr d => uptoBulk d + 1
  | .slice elems spare => uptoBulkAll elems + uptoBulkAll spare + 1
  | .agg parts => uptoBulkAll parts + 1
  | .iface _ d => uptoBulk d + 1
  | .map entries => uptoBulkEntries entries + 1
  | .held _ => 1
def uptoBulkAll {H : Type} : List (DataW H) → Nat
  | [] => 0
  | d :: r => uptoBulk d + uptoBulkAll r
def uptoBulkEntries {H : Type} : List (Lit × DataW H) → Nat
  | [] => 0
  | x :: r => uptoBulkEntry x + uptoBulkEntries r
def uptoBulkEntry {H : Type} : Lit × DataW H → Nat
  | (.string bytes, d) => bytes.length + uptoBulk d + 1
  | (_, d) => uptoBulk d + 1
 end
def uptoSmall : (H : Type) → List (DataW H) → Bool := fun _ ds => decide (uptoBulkAll ds ≤ 1048576)
def OpenSpec.upto (s : _root_.Go.ChangeSpec) : _root_.Go.OpenSpec := { _root_.Go.OpenSpec.ofChange s with cond := some uptoSmall }

/-- 'glazierlaw08.CoverAll', WHERE WHAT IT READS IS OF BULK AT MOST 1048576: true; the input reads as it did. -/
def coverAllUptoRow : OpenClaim := { program := "ytgcoggejgolhgaa", sum := "d811c90b7042c565f73eb6b207df97242e00e7f0a2371017adba80665acd9ee4", func := "glazier/glazierlaw08.CoverAll", spec := "coverAll", unfollowed := true, recurses := true, apart := false, narrowed := true }
def CoverAllUptoSaid : Prop := coverAllUptoRow.holds Try.pinned (OpenSpec.upto coverAllSpec)

/-- 'glazierlaw08.CoverOnce', WHERE WHAT IT READS IS OF BULK AT MOST 1048576: true; the input reads as it did. -/
def coverOnceUptoRow : OpenClaim := { program := "ytgcoggejgolhgaa", sum := "d811c90b7042c565f73eb6b207df97242e00e7f0a2371017adba80665acd9ee4", func := "glazier/glazierlaw08.CoverOnce", spec := "coverOnce", unfollowed := true, recurses := true, apart := false, narrowed := true }
def CoverOnceUptoSaid : Prop := coverOnceUptoRow.holds Try.pinned (OpenSpec.upto coverOnceSpec)

/-- 'glazierlaw08.CoverBits', WHERE WHAT IT READS IS OF BULK AT MOST 1048576: true; the input reads as it did. -/
def coverBitsUptoRow : OpenClaim := { program := "ytgcoggejgolhgaa", sum := "d811c90b7042c565f73eb6b207df97242e00e7f0a2371017adba80665acd9ee4", func := "glazier/glazierlaw08.CoverBits", spec := "coverBits", unfollowed := true, recurses := true, apart := false, narrowed := true }
def CoverBitsUptoSaid : Prop := coverBitsUptoRow.holds Try.pinned (OpenSpec.upto coverBitsSpec)

/-- 'glazierlaw08.CoverFan', WHERE WHAT IT READS IS OF BULK AT MOST 1048576: true; the input reads as it did. -/
def coverFanUptoRow : OpenClaim := { program := "ytgcoggejgolhgaa", sum := "d811c90b7042c565f73eb6b207df97242e00e7f0a2371017adba80665acd9ee4", func := "glazier/glazierlaw08.CoverFan", spec := "coverFan", unfollowed := true, recurses := true, apart := false, narrowed := true }
def CoverFanUptoSaid : Prop := coverFanUptoRow.holds Try.pinned (OpenSpec.upto coverFanSpec)

end Rows
end Go.Proofs.Ytgcoggejgolhgaa
