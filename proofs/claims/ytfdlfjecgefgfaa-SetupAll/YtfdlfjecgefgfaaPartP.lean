/-
  Which parts a row of points becomes.
-/
import Derived.Test.YtfdlfjecgefgfaaBig
namespace Go.Proofs.Ytfdlfjecgefgfaa
open Go.RowKit

/-- The triangle of the first point and those at i and i + 1, turned; or none. -/
def triQ (L : List P) (i : Nat) : List Q :=
  if trO (L.getD 0 zP) (L.getD i zP) (L.getD (i + 1) zP) = true then
    [⟨(i : Int) - 1, tr1 (L.getD 0 zP) (L.getD i zP) (L.getD (i + 1) zP), tr2 (L.getD 0 zP) (L.getD i zP) (L.getD (i + 1) zP), tr3 (L.getD 0 zP) (L.getD i zP) (L.getD (i + 1) zP)⟩]
  else []
/-- Those of the triangles below i. -/
def partsK (L : List P) : Nat → List Q
  | 0 => []
  | 1 => []
  | i + 2 => partsK L (i + 1) ++ triQ L (i + 1)
def partsV (L : List P) : List Q := partsK L (L.length - 1)
theorem partsK_succ (L : List P) {i : Nat} (h : 1 ≤ i) : partsK L (i + 1) = partsK L i ++ triQ L i := by
  obtain ⟨j, rfl⟩ : ∃ j, i = j + 1 := ⟨i - 1, by omega⟩
  rfl
theorem triQ_eq {L : List P} {i : Nat} {a b c : P} (h0 : L[0]? = some a) (h1 : L[i]? = some b) (h2 : L[i + 1]? = some c) :
    triQ L i = if trO a b c = true then [⟨(i : Int) - 1, tr1 a b c, tr2 a b c, tr3 a b c⟩] else [] := by
  unfold triQ
  simp only [List.getD_eq_getElem?_getD, h0, h1, h2, Option.getD_some]
theorem triQ_len (L : List P) (i : Nat) : (triQ L i).length ≤ 1 := by unfold triQ; split <;> simp
theorem partsK_len (L : List P) : ∀ i, (partsK L i).length ≤ i
  | 0 => by simp [partsK]
  | 1 => by simp [partsK]
  | i + 2 => by
    have h := partsK_len L (i + 1)
    have h' := triQ_len L (i + 1)
    simp only [partsK, List.length_append]
    omega
theorem at7_range {w : World} {b o : Nat} {v : P} (h : C.At7 w b o v) : w.rangeAt b o [.int .i64 v.x, .int .i64 v.y, .int .i64 v.z, .int .i64 v.a, .int .i64 v.b, .int .i64 v.c, .int .i64 v.d] := fun j u hj => h.cells j u hj
end Go.Proofs.Ytfdlfjecgefgfaa
