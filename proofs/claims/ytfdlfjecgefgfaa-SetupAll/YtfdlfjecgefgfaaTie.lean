/-
  The geometry of what lies in triangles, said of masks.
-/
import Derived.Test.YtfdlfjecgefgfaaMsk
import Derived.Test.YtfdlfjecgefgfaaGeo
namespace Go.Proofs.Ytfdlfjecgefgfaa
open Go.RowKit

def gp (v : P) : Geo.Pt := ⟨v.x, v.y⟩

theorem wth_iff (a b : P) (x y : Int) : wth a b x y = true ↔ Geo.W (gp a) (gp b) ⟨x, y⟩ := by
  have h : Geo.cr (gp a) (gp b) ⟨x, y⟩ = crs a b x y := rfl
  unfold Geo.W Geo.pos wth fst
  rw [h]
  generalize crs a b x y = m at *
  simp only [gp, Bool.or_eq_true, Bool.and_eq_true, decide_eq_true_eq]
  omega

theorem inn_iff (a b c : P) (x y : Int) : inn a b c x y = true ↔ Geo.In (gp a) (gp b) (gp c) ⟨x, y⟩ := by
  unfold inn Geo.In
  simp only [Bool.and_eq_true, decide_eq_true_eq, wth_iff]
  rfl

theorem area_eq (a b c : P) : Geo.cr (gp a) (gp b) (gp c) = area a b c := rfl

theorem msk_and (a0 a1 a2 a3 b0 b1 b2 b3 : Bool) : bits .and .u8 (msk a0 a1 a2 a3) (msk b0 b1 b2 b3) = msk (a0 && b0) (a1 && b1) (a2 && b2) (a3 && b3) := by
  revert a0 a1 a2 a3 b0 b1 b2 b3
  decide +kernel

theorem msk_or (a0 a1 a2 a3 b0 b1 b2 b3 : Bool) : bits .or .u8 (msk a0 a1 a2 a3) (msk b0 b1 b2 b3) = msk (a0 || b0) (a1 || b1) (a2 || b2) (a3 || b3) := by
  revert a0 a1 a2 a3 b0 b1 b2 b3
  decide +kernel

theorem mask_and0 {a b c a' b' c' : P} {x y : Int} (h : ∀ i, inS a b c x y i = true → inS a' b' c' x y i = true → False) : bits .and .u8 (mask a b c x y) (mask a' b' c' x y) = 0 := by
  have k : ∀ i, (inS a b c x y i && inS a' b' c' x y i) = false := fun i => by
    cases e : inS a b c x y i with
    | false => rfl
    | true => cases e' : inS a' b' c' x y i with
      | false => rfl
      | true => exact (h i e e').elim
  unfold mask
  rw [msk_and, k 0, k 1, k 2, k 3]
  rfl

end Go.Proofs.Ytfdlfjecgefgfaa
