/-
  No cell of these rows narrows 'for every input' (looked for: loops, veiled, ifaces, maps, wideKeys, modest, calm, conditions, laid).
  DERIVED. THE GIVEN ROWS OF THIS SEAT. 6 by the template 'for every input the law returns true; each argument reads behind the call as it read before'; 0 by the template 'total and deterministic' (their statements: YtnpcmoeleigpoaaTotals.lean).
  GIVEN WITH THE SEED: the statements are not yours to turn. If you find one false, say at which input.
  Laid BY PROGRAM, IN A SANDBOX (cutbox-rows.mjs): the forced cells as the released guide's own fill.sh prints them over the translation cab3518ae2a14880… (all of the seat's roots in one cut). By AI agents, Wed Nov 11 2026. No macro, syntax, notation, axiom, sorry.
-/
import Derived.Test.YtnpcmoeleigpoaaChecked
import GoSem.Claim
import GoSem.ClaimJoined
import GoSem.ClaimMapViews
import Derived.JoinedTies
import Derived.KernelRfl
namespace Go.Proofs.Ytnpcmoeleigpoaa
/- THE CELL 'sum', in the pinned program and in every row, IS THE sha256 OF THE DUMP (.gsa) THAT YtnpcmoeleigpoaaProg.lean LOADS. Nothing in Lean hashes anything: it is a label: what it is worth is what the hold of that sum in a sandbox is worth. -/
noncomputable def Try.pinned : Pinned := { name := "ytnpcmoeleigpoaa", sum := "cab3518ae2a14880c285ab063cac32344b6293f04cbd5ee745d44ec74ff4810a", checked := Try.checked }
namespace Rows
def none {H : Type} : Left H := { results := [], args := [] }

/-- 'glazierlaw14.SceneAll': WHATEVER THE INPUT: true; the input reads as it did. -/
def sceneAllSpec : ChangeSpec := { name := "sceneAll", fn := fun _ => fun
  | [d] => { results := [.lit (.bool true)], args := [d] }
  | _ => none }
def sceneAllRow : OpenClaim := { program := "ytnpcmoeleigpoaa", sum := "cab3518ae2a14880c285ab063cac32344b6293f04cbd5ee745d44ec74ff4810a", func := "glazier/glazierlaw14.SceneAll", spec := "sceneAll", unfollowed := true, recurses := true, apart := false }
def SceneAllSaid : Prop := sceneAllRow.holds Try.pinned (OpenSpec.ofChange sceneAllSpec)

/-- ITS FALSE NEIGHBOUR: 'it returns false'. Refute it at one input. -/
def sceneAllWrong : ChangeSpec := { name := "sceneAll", fn := fun _ => fun
  | [d] => { results := [.lit (.bool false)], args := [d] }
  | _ => none }
def SceneAllWrongFalsely : Prop := sceneAllRow.holds Try.pinned (OpenSpec.ofChange sceneAllWrong)

/-- 'glazierlaw14.SceneEach': WHATEVER THE INPUT: true; the input reads as it did. -/
def sceneEachSpec : ChangeSpec := { name := "sceneEach", fn := fun _ => fun
  | [d1, d2] => { results := [.lit (.bool true)], args := [d1, d2] }
  | _ => none }
def sceneEachRow : OpenClaim := { program := "ytnpcmoeleigpoaa", sum := "cab3518ae2a14880c285ab063cac32344b6293f04cbd5ee745d44ec74ff4810a", func := "glazier/glazierlaw14.SceneEach", spec := "sceneEach", unfollowed := true, recurses := true, apart := false }
def SceneEachSaid : Prop := sceneEachRow.holds Try.pinned (OpenSpec.ofChange sceneEachSpec)

/-- ITS FALSE NEIGHBOUR: 'it returns false'. Refute it at one input. -/
def sceneEachWrong : ChangeSpec := { name := "sceneEach", fn := fun _ => fun
  | [d1, d2] => { results := [.lit (.bool false)], args := [d1, d2] }
  | _ => none }
def SceneEachWrongFalsely : Prop := sceneEachRow.holds Try.pinned (OpenSpec.ofChange sceneEachWrong)

/-- 'glazierlaw14.SceneOrder': WHATEVER THE INPUT: true; the input reads as it did. -/
def sceneOrderSpec : ChangeSpec := { name := "sceneOrder", fn := fun _ => fun
  | [d1, d2] => { results := [.lit (.bool true)], args := [d1, d2] }
  | _ => none }
def sceneOrderRow : OpenClaim := { program := "ytnpcmoeleigpoaa", sum := "cab3518ae2a14880c285ab063cac32344b6293f04cbd5ee745d44ec74ff4810a", func := "glazier/glazierlaw14.SceneOrder", spec := "sceneOrder", unfollowed := true, recurses := true, apart := false }
def SceneOrderSaid : Prop := sceneOrderRow.holds Try.pinned (OpenSpec.ofChange sceneOrderSpec)

/-- ITS FALSE NEIGHBOUR: 'it returns false'. Refute it at one input. -/
def sceneOrderWrong : ChangeSpec := { name := "sceneOrder", fn := fun _ => fun
  | [d1, d2] => { results := [.lit (.bool false)], args := [d1, d2] }
  | _ => none }
def SceneOrderWrongFalsely : Prop := sceneOrderRow.holds Try.pinned (OpenSpec.ofChange sceneOrderWrong)

/-- 'glazierlaw14.SceneRefuses': WHATEVER THE INPUT: true; the input reads as it did. -/
def sceneRefusesSpec : ChangeSpec := { name := "sceneRefuses", fn := fun _ => fun
  | [d1, d2] => { results := [.lit (.bool true)], args := [d1, d2] }
  | _ => none }
def sceneRefusesRow : OpenClaim := { program := "ytnpcmoeleigpoaa", sum := "cab3518ae2a14880c285ab063cac32344b6293f04cbd5ee745d44ec74ff4810a", func := "glazier/glazierlaw14.SceneRefuses", spec := "sceneRefuses", unfollowed := true, recurses := true, apart := false }
def SceneRefusesSaid : Prop := sceneRefusesRow.holds Try.pinned (OpenSpec.ofChange sceneRefusesSpec)

/-- ITS FALSE NEIGHBOUR: 'it returns false'. Refute it at one input. -/
def sceneRefusesWrong : ChangeSpec := { name := "sceneRefuses", fn := fun _ => fun
  | [d1, d2] => { results := [.lit (.bool false)], args := [d1, d2] }
  | _ => none }
def SceneRefusesWrongFalsely : Prop := sceneRefusesRow.holds Try.pinned (OpenSpec.ofChange sceneRefusesWrong)

/-- 'glazierlaw14.SceneLess': WHATEVER THE INPUT: true; the input reads as it did. -/
def sceneLessSpec : ChangeSpec := { name := "sceneLess", fn := fun _ => fun
  | [d1, d2] => { results := [.lit (.bool true)], args := [d1, d2] }
  | _ => none }
def sceneLessRow : OpenClaim := { program := "ytnpcmoeleigpoaa", sum := "cab3518ae2a14880c285ab063cac32344b6293f04cbd5ee745d44ec74ff4810a", func := "glazier/glazierlaw14.SceneLess", spec := "sceneLess", unfollowed := true, recurses := true, apart := false }
def SceneLessSaid : Prop := sceneLessRow.holds Try.pinned (OpenSpec.ofChange sceneLessSpec)

/-- ITS FALSE NEIGHBOUR: 'it returns false'. Refute it at one input. -/
def sceneLessWrong : ChangeSpec := { name := "sceneLess", fn := fun _ => fun
  | [d1, d2] => { results := [.lit (.bool false)], args := [d1, d2] }
  | _ => none }
def SceneLessWrongFalsely : Prop := sceneLessRow.holds Try.pinned (OpenSpec.ofChange sceneLessWrong)

/-- 'glazierlaw14.SceneIds': WHATEVER THE INPUT: true; the input reads as it did. -/
def sceneIdsSpec : ChangeSpec := { name := "sceneIds", fn := fun _ => fun
  | [d1, d2] => { results := [.lit (.bool true)], args := [d1, d2] }
  | _ => none }
def sceneIdsRow : OpenClaim := { program := "ytnpcmoeleigpoaa", sum := "cab3518ae2a14880c285ab063cac32344b6293f04cbd5ee745d44ec74ff4810a", func := "glazier/glazierlaw14.SceneIds", spec := "sceneIds", unfollowed := true, recurses := true, apart := false }
def SceneIdsSaid : Prop := sceneIdsRow.holds Try.pinned (OpenSpec.ofChange sceneIdsSpec)

/-- ITS FALSE NEIGHBOUR: 'it returns false'. Refute it at one input. -/
def sceneIdsWrong : ChangeSpec := { name := "sceneIds", fn := fun _ => fun
  | [d1, d2] => { results := [.lit (.bool false)], args := [d1, d2] }
  | _ => none }
def SceneIdsWrongFalsely : Prop := sceneIdsRow.holds Try.pinned (OpenSpec.ofChange sceneIdsWrong)

/- THE SECOND FORM. 'bulk': how many values and letters a reading holds, each counted each time it is reached (what is shared counts as often as it is met; a slice's spare places count too). A statement '..UptoSaid' is the law's where the arguments, and the package variables that the reading takes, are together of bulk at most 1048576: NARROWER than '..Said'. Prove '..Said' where nothing that the law and all that it calls make is longer than what came in: it says more and counts as full. Else prove '..UptoSaid'. A law counts once. -/
mutual
def uptoBulk {H : Type} : DataW H → Nat
  | .lit (.string bytes) => bytes.length + 1
  | .lit _ => 1
  | .nil => 1
  | .ptr d => uptoBulk d + 1
  | .slice elems spare => uptoBulkAll elems + uptoBulkAll spare + 1
  | .agg parts => uptoBulkAll parts + 1
  | .iface _ d => uptoBulk d + 1
  | .map entries => uptoBulkEntries entries + 1
  | .held _ => 1
def uptoBulkAll {H : Type} : List (DataW H) → Nat
  | [] => 0
  | d :: r => uptoBulk d + uptoBulkAll r
def uptoBulkEntries {H : Type} : List (Lit × DataW H) → Nat
  | [] => 0
  | x :: r => uptoBulkEntry x + uptoBulkEntries r
def uptoBulkEntry {H : Type} : Lit × DataW H → Nat
  | (.string bytes, d) => bytes.length + uptoBulk d + 1
  | (_, d) => uptoBulk d + 1
 end
def uptoSmall : (H : Type) → List (DataW H) → Bool := fun _ ds => decide (uptoBulkAll ds ≤ 1048576)
def OpenSpec.upto (s : _root_.Go.ChangeSpec) : _root_.Go.OpenSpec := { _root_.Go.OpenSpec.ofChange s with cond := some uptoSmall }

/-- 'glazierlaw14.SceneAll', WHERE WHAT IT READS IS OF BULK AT MOST 1048576: true; the input reads as it did. -/
def sceneAllUptoRow : OpenClaim := { program := "ytnpcmoeleigpoaa", sum := "cab3518ae2a14880c285ab063cac32344b6293f04cbd5ee745d44ec74ff4810a", func := "glazier/glazierlaw14.SceneAll", spec := "sceneAll", unfollowed := true, recurses := true, apart := false, narrowed := true }
def SceneAllUptoSaid : Prop := sceneAllUptoRow.holds Try.pinned (OpenSpec.upto sceneAllSpec)

/-- 'glazierlaw14.SceneEach', WHERE WHAT IT READS IS OF BULK AT MOST 1048576: true; the input reads as it did. -/
def sceneEachUptoRow : OpenClaim := { program := "ytnpcmoeleigpoaa", sum := "cab3518ae2a14880c285ab063cac32344b6293f04cbd5ee745d44ec74ff4810a", func := "glazier/glazierlaw14.SceneEach", spec := "sceneEach", unfollowed := true, recurses := true, apart := false, narrowed := true }
def SceneEachUptoSaid : Prop := sceneEachUptoRow.holds Try.pinned (OpenSpec.upto sceneEachSpec)

/-- 'glazierlaw14.SceneOrder', WHERE WHAT IT READS IS OF BULK AT MOST 1048576: true; the input reads as it did. -/
def sceneOrderUptoRow : OpenClaim := { program := "ytnpcmoeleigpoaa", sum := "cab3518ae2a14880c285ab063cac32344b6293f04cbd5ee745d44ec74ff4810a", func := "glazier/glazierlaw14.SceneOrder", spec := "sceneOrder", unfollowed := true, recurses := true, apart := false, narrowed := true }
def SceneOrderUptoSaid : Prop := sceneOrderUptoRow.holds Try.pinned (OpenSpec.upto sceneOrderSpec)

/-- 'glazierlaw14.SceneRefuses', WHERE WHAT IT READS IS OF BULK AT MOST 1048576: true; the input reads as it did. -/
def sceneRefusesUptoRow : OpenClaim := { program := "ytnpcmoeleigpoaa", sum := "cab3518ae2a14880c285ab063cac32344b6293f04cbd5ee745d44ec74ff4810a", func := "glazier/glazierlaw14.SceneRefuses", spec := "sceneRefuses", unfollowed := true, recurses := true, apart := false, narrowed := true }
def SceneRefusesUptoSaid : Prop := sceneRefusesUptoRow.holds Try.pinned (OpenSpec.upto sceneRefusesSpec)

/-- 'glazierlaw14.SceneLess', WHERE WHAT IT READS IS OF BULK AT MOST 1048576: true; the input reads as it did. -/
def sceneLessUptoRow : OpenClaim := { program := "ytnpcmoeleigpoaa", sum := "cab3518ae2a14880c285ab063cac32344b6293f04cbd5ee745d44ec74ff4810a", func := "glazier/glazierlaw14.SceneLess", spec := "sceneLess", unfollowed := true, recurses := true, apart := false, narrowed := true }
def SceneLessUptoSaid : Prop := sceneLessUptoRow.holds Try.pinned (OpenSpec.upto sceneLessSpec)

/-- 'glazierlaw14.SceneIds', WHERE WHAT IT READS IS OF BULK AT MOST 1048576: true; the input reads as it did. -/
def sceneIdsUptoRow : OpenClaim := { program := "ytnpcmoeleigpoaa", sum := "cab3518ae2a14880c285ab063cac32344b6293f04cbd5ee745d44ec74ff4810a", func := "glazier/glazierlaw14.SceneIds", spec := "sceneIds", unfollowed := true, recurses := true, apart := false, narrowed := true }
def SceneIdsUptoSaid : Prop := sceneIdsUptoRow.holds Try.pinned (OpenSpec.upto sceneIdsSpec)

end Rows
end Go.Proofs.Ytnpcmoeleigpoaa
