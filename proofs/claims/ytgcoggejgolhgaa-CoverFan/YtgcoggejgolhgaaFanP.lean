/-
  A triangle that is cut in three has the samples of these; the place at which it is cut.
-/
import Derived.Test.YtgcoggejgolhgaaQuad
namespace Go.Proofs.Ytgcoggejgolhgaa
open Go.RowKit

theorem in_next {a b c : P} {x y : Int} (h : Geo.In (pt a) (pt b) (pt c) ⟨x, y⟩) : Geo.In (pt b) (pt c) (pt a) ⟨x, y⟩ := Geo.in_next h
theorem or0 (k0 k1 k2 k3 : Bool) : bits .or .u8 0 (msk k0 k1 k2 k3) = msk k0 k1 k2 k3 := by
  revert k0 k1 k2 k3
  decide +kernel
theorem and0 (k0 k1 k2 k3 : Bool) : bits .and .u8 (msk k0 k1 k2 k3) 0 = 0 := by
  revert k0 k1 k2 k3
  decide +kernel
theorem fan1 (a b p : P) (x y : Int) : bits .and .u8 (mask a b p x y) 0 = 0 ∧ bits .or .u8 0 (mask a b p x y) = mask a b p x y := ⟨and0 _ _ _ _, or0 _ _ _ _⟩
theorem fan2 (a b c p : P) (x y : Int) : bits .and .u8 (mask b c p x y) (mask a b p x y) = 0 :=
  mask_and0 fun _ h h' => Geo.parts_apart ((inn_iff ..).1 h') ((inn_iff ..).1 h)
theorem fan3 (a b c p : P) (x y : Int) : bits .and .u8 (mask c a p x y) (bits .or .u8 (mask a b p x y) (mask b c p x y)) = 0 := by
  have k : ∀ i, (inS c a p x y i && (inS a b p x y i || inS b c p x y i)) = false := fun i => by
    cases e : inS c a p x y i with
    | false => rfl
    | true =>
      have h := (inn_iff ..).1 e
      cases e1 : inS a b p x y i with
      | true => exact (Geo.parts_apart h ((inn_iff ..).1 e1)).elim
      | false => cases e2 : inS b c p x y i with
        | true => exact (Geo.parts_apart ((inn_iff ..).1 e2) h).elim
        | false => rfl
  unfold mask
  rw [msk_or, msk_and, k 0, k 1, k 2, k 3]
  rfl
theorem fan4 {a b c p : P} (x y : Int) (hA : 0 < area a b c) (h0 : ¬ area a b p < 0) (h1 : ¬ area b c p < 0) (h2 : ¬ area c a p < 0) :
    bits .or .u8 (bits .or .u8 (mask a b p x y) (mask b c p x y)) (mask c a p x y) = mask a b c x y := by
  have g0 : 0 ≤ Geo.cr (pt a) (pt b) (pt p) := by rw [area_eq]; omega
  have g1 : 0 ≤ Geo.cr (pt b) (pt c) (pt p) := by rw [area_eq]; omega
  have g2 : 0 ≤ Geo.cr (pt c) (pt a) (pt p) := by rw [area_eq]; omega
  have gA : 0 < Geo.cr (pt a) (pt b) (pt c) := by rw [area_eq]; omega
  have gB : 0 < Geo.cr (pt b) (pt c) (pt a) := by rw [show Geo.cr (pt b) (pt c) (pt a) = Geo.cr (pt a) (pt b) (pt c) by unfold Geo.cr; grind]; exact gA
  have gC : 0 < Geo.cr (pt c) (pt a) (pt b) := by rw [show Geo.cr (pt c) (pt a) (pt b) = Geo.cr (pt a) (pt b) (pt c) by unfold Geo.cr; grind]; exact gA
  have k : ∀ i, ((inS a b p x y i || inS b c p x y i) || inS c a p x y i) = inS a b c x y i := fun i => by
    rw [Bool.eq_iff_iff, Bool.or_eq_true, Bool.or_eq_true]
    unfold inS
    rw [inn_iff, inn_iff, inn_iff, inn_iff]
    constructor
    · rintro ((h | h) | h)
      · exact Geo.part_in gA g1 g2 h
      · exact Geo.in_next (Geo.in_next (Geo.part_in gB g2 g0 h))
      · exact Geo.in_next (Geo.part_in gC g0 g1 h)
    · intro h
      rcases Geo.in_part g0 g1 g2 h with h | h | h
      · exact .inl (.inl h)
      · exact .inl (.inr h)
      · exact .inr h
  unfold mask
  rw [msk_or, msk_or, k 0, k 1, k 2, k 3]

theorem tdiv_bd {n s B : Int} (hs : 0 < s) (h0 : -(B * s) ≤ n) (h1 : n ≤ B * s) : -B ≤ n.tdiv s ∧ n.tdiv s ≤ B := by
  have e := Int.tmod_add_mul_tdiv n s
  have l := Int.lt_tmod_of_pos n hs
  have u := Int.tmod_lt_of_pos n hs
  generalize n.tmod s = r at *
  generalize n.tdiv s = q at *
  constructor
  · rcases (show -B ≤ q ∨ q + 1 ≤ -B by omega) with h | h
    · exact h
    · have k := Int.mul_le_mul_of_nonneg_left h (Int.le_of_lt hs)
      have : s * (q + 1) = s * q + s := by grind
      have : s * -B = -(B * s) := by grind
      omega
  · rcases (show q ≤ B ∨ B + 1 ≤ q by omega) with h | h
    · exact h
    · have k := Int.mul_le_mul_of_nonneg_left h (Int.le_of_lt hs)
      have : s * (B + 1) = B * s + s := by grind
      omega

theorem P.ok.zero : zP.ok := ⟨by decide, by decide⟩
theorem tr_ok {a b c : P} (ha : a.ok) (hb : b.ok) (hc : c.ok) : (tr1 a b c).ok ∧ (tr2 a b c).ok ∧ (tr3 a b c).ok := by
  unfold tr1 tr2 tr3
  refine ⟨?_, ?_, ?_⟩
  all_goals
    repeat' split
  all_goals first | exact P.ok.zero | assumption
theorem tr_area {a b c : P} (h : trO a b c = true) : 0 < area (tr1 a b c) (tr2 a b c) (tr3 a b c) := by
  have h' : ¬ area a b c = 0 := by simpa [trO] using h
  unfold tr1 tr2 tr3
  rw [if_neg h', if_neg h', if_neg h']
  by_cases k : area a b c < 0
  · rw [if_pos k, if_pos k]
    have : area a c b = -area a b c := by unfold area crs; grind
    omega
  · rw [if_neg k, if_neg k]
    omega
/-- One of the numbers of the place at which a triangle is cut, and what the machine makes on the way. -/
theorem mid_bd {A B C u v z : Int} (hA : 1 ≤ A ∧ A ≤ 256) (hB : 1 ≤ B ∧ B ≤ 256) (hC : 1 ≤ C ∧ C ≤ 256) (hu : -16384 ≤ u ∧ u ≤ 16384) (hv : -16384 ≤ v ∧ v ≤ 16384) (hz : -16384 ≤ z ∧ z ≤ 16384) :
    IntKind.i64.wrap (A * u) = A * u ∧ IntKind.i64.wrap (B * v) = B * v ∧ IntKind.i64.wrap (C * z) = C * z ∧ IntKind.i64.wrap (A * u + B * v) = A * u + B * v ∧ IntKind.i64.wrap (A * u + B * v + C * z) = A * u + B * v + C * z ∧
    (-16384 ≤ (A * u + B * v + C * z).tdiv (A + B + C) ∧ (A * u + B * v + C * z).tdiv (A + B + C) ≤ 16384) ∧ IntKind.i64.wrap ((A * u + B * v + C * z).tdiv (A + B + C)) = (A * u + B * v + C * z).tdiv (A + B + C) := by
  have a1 := mul_bd (B := 256) (C := 16384) (m := A) (n := u) (by omega) (by omega) (by omega) (by omega)
  have b1 := mul_bd (B := 256) (C := 16384) (m := B) (n := v) (by omega) (by omega) (by omega) (by omega)
  have c1 := mul_bd (B := 256) (C := 16384) (m := C) (n := z) (by omega) (by omega) (by omega) (by omega)
  have lo : ∀ {D w : Int}, 1 ≤ D → -16384 ≤ w → w ≤ 16384 → -(16384 * D) ≤ D * w ∧ D * w ≤ 16384 * D := fun {D w} hD h0 h1 => by
    have k0 : 0 ≤ D * (w + 16384) := Int.mul_nonneg (by omega) (by omega)
    have k1 : 0 ≤ D * (16384 - w) := Int.mul_nonneg (by omega) (by omega)
    rw [Int.mul_add] at k0
    rw [Int.mul_sub] at k1
    omega
  have a2 := lo hA.1 hu.1 hu.2
  have b2 := lo hB.1 hv.1 hv.2
  have c2 := lo hC.1 hz.1 hz.2
  have t := tdiv_bd (n := A * u + B * v + C * z) (s := A + B + C) (B := 16384) (by omega) (by omega) (by omega)
  refine ⟨?_, ?_, ?_, ?_, ?_, t, ?_⟩ <;> rw [IntKind.wrap_i64] <;> omega
end Go.Proofs.Ytgcoggejgolhgaa
