/-
  The geometry of what lies in triangles that are cut, said of masks.
-/
import Derived.Test.YtgcoggejgolhgaaMask
import Derived.Test.YtgcoggejgolhgaaGeo
namespace Go.Proofs.Ytgcoggejgolhgaa
open Go.RowKit

def pt (v : P) : Geo.Pt := ⟨v.x, v.y⟩
theorem wth_iff (a b : P) (x y : Int) : wth a b x y = true ↔ Geo.W (pt a) (pt b) ⟨x, y⟩ := by
  have h : Geo.cr (pt a) (pt b) ⟨x, y⟩ = crs a b x y := rfl
  unfold Geo.W Geo.pos wth fst
  rw [h]
  generalize crs a b x y = m at *
  simp only [pt, Bool.or_eq_true, Bool.and_eq_true, decide_eq_true_eq]
  omega
theorem inn_iff (a b c : P) (x y : Int) : inn a b c x y = true ↔ Geo.In (pt a) (pt b) (pt c) ⟨x, y⟩ := by
  unfold inn Geo.In
  simp only [Bool.and_eq_true, decide_eq_true_eq, wth_iff]
  rfl
theorem area_eq (a b c : P) : Geo.cr (pt a) (pt b) (pt c) = area a b c := rfl
theorem msk_and (a0 a1 a2 a3 b0 b1 b2 b3 : Bool) : bits .and .u8 (msk a0 a1 a2 a3) (msk b0 b1 b2 b3) = msk (a0 && b0) (a1 && b1) (a2 && b2) (a3 && b3) := by
  revert a0 a1 a2 a3 b0 b1 b2 b3
  decide +kernel
theorem msk_or (a0 a1 a2 a3 b0 b1 b2 b3 : Bool) : bits .or .u8 (msk a0 a1 a2 a3) (msk b0 b1 b2 b3) = msk (a0 || b0) (a1 || b1) (a2 || b2) (a3 || b3) := by
  revert a0 a1 a2 a3 b0 b1 b2 b3
  decide +kernel
theorem mask_and0 {a b c a' b' c' : P} {x y : Int} (h : ∀ i, inS a b c x y i = true → inS a' b' c' x y i = true → False) : bits .and .u8 (mask a b c x y) (mask a' b' c' x y) = 0 := by
  have k : ∀ i, (inS a b c x y i && inS a' b' c' x y i) = false := fun i => by
    cases e : inS a b c x y i with
    | false => rfl
    | true => cases e' : inS a' b' c' x y i with
      | false => rfl
      | true => exact (h i e e').elim
  unfold mask
  rw [msk_and, k 0, k 1, k 2, k 3]
  rfl
/-- Two triangles on both sides of an edge have no sample in common. -/
theorem once_apart (p q r t : P) (x y : Int) : bits .and .u8 (mask p q r x y) (mask q p t x y) = 0 :=
  mask_and0 fun _ h h' => Geo.apart ((inn_iff ..).1 h) ((inn_iff ..).1 h')
/-- Cut either way a figure has the same samples. -/
theorem once_either {p q r t : P} (x y : Int) (h1 : 0 < area p q r) (h2 : 0 < area q p t) (h3 : 0 < area r t q) (h4 : 0 < area t r p) :
    bits .or .u8 (mask p q r x y) (mask q p t x y) = bits .or .u8 (mask r t q x y) (mask t r p x y) := by
  have k : ∀ i, (inS p q r x y i || inS q p t x y i) = (inS r t q x y i || inS t r p x y i) := fun i => by
    rw [Bool.eq_iff_iff, Bool.or_eq_true, Bool.or_eq_true]
    unfold inS
    rw [inn_iff, inn_iff, inn_iff, inn_iff]
    exact Geo.either h1 h2 h3 h4
  unfold mask
  rw [msk_or, msk_or, k 0, k 1, k 2, k 3]
end Go.Proofs.Ytgcoggejgolhgaa
