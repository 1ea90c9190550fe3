/-
  What follows of a number over a triangle: at its points, within, one more, sums, turning about, held; pure.
-/
import Derived.Test.YtiijpehchifheaaAttrs
namespace Go.Proofs.Ytiijpehchifheaa
open Go.RowKit

/-- A point that may be asked: its place within 2^14, its depth and attributes within 2^31. -/
structure P.good (v : P) : Prop where
  ok : v.ok
  z : Ask v.z
  att : v.at
theorem smallP_good (v : P) : (smallP v).good := by
  have hz := tmod_bd v.z 1073741825 (by decide)
  have ha := tmod_bd v.a 4097 (by decide)
  have hb := tmod_bd v.b 4097 (by decide)
  have hc := tmod_bd v.c 4097 (by decide)
  have hd := tmod_bd v.d 4097 (by decide)
  refine ⟨smallP_ok v, ?_, ⟨?_, ?_, ?_, ?_⟩⟩ <;> unfold Ask <;> simp only [smallP] <;> omega
theorem zP_good : zP.good := by
  refine ⟨by constructor <;> decide, ?_, ⟨?_, ?_, ?_, ?_⟩⟩ <;> constructor <;> decide
theorem tr_good {a b c : P} (ha : a.good) (hb : b.good) (hc : c.good) : (tr1 a b c).good ∧ (tr2 a b c).good ∧ (tr3 a b c).good := by
  unfold tr1 tr2 tr3
  split
  · exact ⟨zP_good, zP_good, zP_good⟩
  · split
    · exact ⟨ha, hc, hb⟩
    · exact ⟨ha, hb, hc⟩
theorem area_back (a b c : P) : area a c b = -area a b c := by
  unfold area crs
  grind
theorem tr_area {a b c : P} (h : trO a b c = true) : 0 < area (tr1 a b c) (tr2 a b c) (tr3 a b c) := by
  unfold trO at h
  have h0 : area a b c ≠ 0 := by simpa using h
  unfold tr1 tr2 tr3
  rw [if_neg h0, if_neg h0, if_neg h0]
  split
  · rw [area_back]; omega
  · omega

theorem wsum_more (a b c : P) (l m n x y d : Int) : wsum a b c (l + d) (m + d) (n + d) x y = wsum a b c l m n x y + area a b c * d := by
  rw [← crs_sum a b c x y]
  unfold wsum
  grind
theorem num_more {a b c : P} (h : 0 < area a b c) (l m n x y d : Int) : num a b c (l + d) (m + d) (n + d) x y = num a b c l m n x y + d := by
  rw [num_pos h, num_pos h, wsum_more, Int.add_mul_ediv_left _ _ (by omega)]
theorem num_same {a b c : P} (h : 0 < area a b c) (l x y : Int) : num a b c l l l x y = l := by
  have k := num_more h 0 0 0 x y l
  have z : num a b c 0 0 0 x y = 0 := by
    rw [num_pos h]
    unfold wsum
    simp
  rw [z] at k
  simpa using k
theorem inn_crs {a b c : P} {x y : Int} (h : inn a b c x y = true) : 0 ≤ crs a b x y ∧ 0 ≤ crs b c x y ∧ 0 ≤ crs c a x y := by
  unfold inn at h
  simp only [Bool.and_eq_true] at h
  obtain ⟨-, h1, h2, h3⟩ := h
  have k : ∀ a b : P, wth a b x y = true → 0 ≤ crs a b x y := by
    intro a b h
    unfold wth at h
    simp only [Bool.or_eq_true, Bool.and_eq_true, decide_eq_true_eq] at h
    rcases h with h | ⟨h, -⟩ <;> omega
  exact ⟨k _ _ h1, k _ _ h2, k _ _ h3⟩
theorem le_num {a b c : P} {x y l m n k : Int} (h : 0 < area a b c) (h1 : 0 ≤ crs a b x y) (h2 : 0 ≤ crs b c x y) (h3 : 0 ≤ crs c a x y) (kl : k ≤ l) (km : k ≤ m) (kn : k ≤ n) : k ≤ num a b c l m n x y := by
  rw [num_pos h, Int.le_ediv_iff_mul_le h, ← crs_sum a b c x y]
  unfold wsum
  have e1 := Int.mul_le_mul_of_nonneg_right kl h2
  have e2 := Int.mul_le_mul_of_nonneg_right km h3
  have e3 := Int.mul_le_mul_of_nonneg_right kn h1
  rw [Int.mul_add, Int.mul_add]
  omega
theorem num_le {a b c : P} {x y l m n k : Int} (h : 0 < area a b c) (h1 : 0 ≤ crs a b x y) (h2 : 0 ≤ crs b c x y) (h3 : 0 ≤ crs c a x y) (kl : l ≤ k) (km : m ≤ k) (kn : n ≤ k) : num a b c l m n x y ≤ k := by
  have e : wsum a b c l m n x y ≤ k * area a b c := by
    rw [← crs_sum a b c x y]
    unfold wsum
    have e1 := Int.mul_le_mul_of_nonneg_right kl h2
    have e2 := Int.mul_le_mul_of_nonneg_right km h3
    have e3 := Int.mul_le_mul_of_nonneg_right kn h1
    rw [Int.mul_add, Int.mul_add]
    omega
  rw [num_pos h]
  have := Int.ediv_le_ediv h e
  rwa [Int.mul_ediv_cancel _ (by omega)] at this
theorem wsum_bd {a b c : P} {l m n x y : Int} (ha : a.ok) (hb : b.ok) (hc : c.ok) (hl : Ask l) (hm : Ask m) (hn : Ask n) (hx : In14 x) (hy : In14 y) : -6917529027641081856 ≤ wsum a b c l m n x y ∧ wsum a b c l m n x y ≤ 6917529027641081856 := by
  have k1 := crs_in hb hc hx.1 hx.2 hy.1 hy.2
  have k2 := crs_in hc ha hx.1 hx.2 hy.1 hy.2
  have k3 := crs_in ha hb hx.1 hx.2 hy.1 hy.2
  have e1 := mul_in hl.1 hl.2 k1.1 k1.2
  have e2 := mul_in hm.1 hm.2 k2.1 k2.2
  have e3 := mul_in hn.1 hn.2 k3.1 k3.2
  unfold wsum
  omega
theorem num_bd {a b c : P} {l m n x y : Int} (ha : a.ok) (hb : b.ok) (hc : c.ok) (hl : Ask l) (hm : Ask m) (hn : Ask n) (hx : In14 x) (hy : In14 y) : -6917529027641081856 ≤ num a b c l m n x y ∧ num a b c l m n x y ≤ 6917529027641081856 := by
  rcases Int.lt_or_le 0 (area a b c) with h | h
  · rw [num_pos h]
    have k := wsum_bd ha hb hc hl hm hn hx hy
    exact ediv_bd h k.1 k.2 (by decide)
  · rw [num_neg h]
    decide
theorem wsum_add (a b c : P) (l m n l' m' n' x y : Int) : wsum a b c (l + l') (m + m') (n + n') x y = wsum a b c l m n x y + wsum a b c l' m' n' x y := by
  unfold wsum
  grind
theorem num_sums {a b c : P} (h : 0 < area a b c) (l m n l' m' n' x y : Int) :
    num a b c (l + l') (m + m') (n + n') x y - num a b c l m n x y - num a b c l' m' n' x y = 0 ∨ num a b c (l + l') (m + m') (n + n') x y - num a b c l m n x y - num a b c l' m' n' x y = 1 := by
  rw [num_pos h, num_pos h, num_pos h, wsum_add]
  generalize wsum a b c l m n x y = s
  generalize wsum a b c l' m' n' x y = t
  generalize area a b c = k at *
  have e1 := Int.mul_ediv_add_emod s k
  have e2 := Int.mul_ediv_add_emod t k
  have s0 := Int.emod_nonneg s (show k ≠ 0 by omega)
  have s1 := Int.emod_lt_of_pos s h
  have t0 := Int.emod_nonneg t (show k ≠ 0 by omega)
  have t1 := Int.emod_lt_of_pos t h
  by_cases g : s % k + t % k < k
  · have e : (s + t) / k = s / k + t / k := div_is (r := s % k + t % k) h (by rw [Int.mul_add]; omega) (by omega) g
    left
    omega
  · have e : (s + t) / k = s / k + t / k + 1 := div_is (r := s % k + t % k - k) h (by rw [Int.mul_add, Int.mul_add]; omega) (by omega) (by omega)
    right
    omega
theorem num_area {a b c : P} (h : 0 < area a b c) (x y : Int) : num a b c 0 0 (area a b c) x y = crs a b x y := by
  rw [num_pos h]
  unfold wsum
  simp only [Int.zero_mul, Int.zero_add]
  exact Int.mul_ediv_cancel_left _ (by omega)
theorem crs_self1 (a b : P) : crs a b a.x a.y = 0 := by unfold crs; grind
theorem crs_self2 (a b : P) : crs a b b.x b.y = 0 := by unfold crs; grind
theorem area_next (a b c : P) : area b c a = area a b c := by unfold area crs; grind
theorem num_at1 {a b c : P} (h : 0 < area a b c) (l m n : Int) : num a b c l m n a.x a.y = l := by
  rw [num_pos h]
  unfold wsum
  rw [crs_self2, crs_self1, show crs b c a.x a.y = area a b c from area_next a b c]
  simp only [Int.mul_zero, Int.add_zero]
  exact Int.mul_ediv_cancel _ (by omega)
theorem num_next (a b c : P) (l m n x y : Int) : num b c a m n l x y = num a b c l m n x y := by
  have e : wsum b c a m n l x y = wsum a b c l m n x y := by unfold wsum; omega
  unfold num
  rw [area_next, e]
theorem num_at2 {a b c : P} (h : 0 < area a b c) (l m n : Int) : num a b c l m n b.x b.y = m := by
  rw [← num_next]
  exact num_at1 (by rw [area_next]; exact h) _ _ _
theorem num_at3 {a b c : P} (h : 0 < area a b c) (l m n : Int) : num a b c l m n c.x c.y = n := by
  rw [← num_next, ← num_next]
  exact num_at1 (by rw [area_next, area_next]; exact h) _ _ _

theorem hld_bd (z l m n : Int) : min l (min m n) ≤ hld z l m n ∧ hld z l m n ≤ max l (max m n) := by
  unfold hld
  omega
theorem hld_in {z l m n : Int} (h0 : min l (min m n) ≤ z) (h1 : z ≤ max l (max m n)) : hld z l m n = z := by
  unfold hld
  omega
theorem dep_pos {a b c : P} {x y : Int} (h : 0 < area a b c) : dep a b c x y = hld (num a b c a.z b.z c.z (16 * x + 8) (16 * y + 8)) a.z b.z c.z := by
  unfold dep
  rw [if_neg (by omega)]
theorem dep_in {a b c : P} {x y : Int} (h : 0 < area a b c) (hi : inn a b c (16 * x + 8) (16 * y + 8) = true) : dep a b c x y = num a b c a.z b.z c.z (16 * x + 8) (16 * y + 8) := by
  obtain ⟨h1, h2, h3⟩ := inn_crs hi
  rw [dep_pos h]
  exact hld_in (le_num h h1 h2 h3 (by omega) (by omega) (by omega)) (num_le h h1 h2 h3 (by omega) (by omega) (by omega))
theorem dep_next (a b c : P) (x y : Int) : dep b c a x y = dep a b c x y := by
  unfold dep
  rw [area_next, num_next]
  have e : ∀ z, hld z b.z c.z a.z = hld z a.z b.z c.z := by
    intro z
    unfold hld
    omega
  rw [e]
/-- Numbers hang on places alone. -/
structure P.here (v u : P) : Prop where
  x : v.x = u.x
  y : v.y = u.y
theorem crs_here {a b a' b' : P} (ha : a'.here a) (hb : b'.here b) (x y : Int) : crs a' b' x y = crs a b x y := by
  unfold crs
  rw [ha.x, ha.y, hb.x, hb.y]
theorem num_here {a b c a' b' c' : P} (ha : a'.here a) (hb : b'.here b) (hc : c'.here c) (l m n x y : Int) : num a' b' c' l m n x y = num a b c l m n x y := by
  unfold num wsum area
  rw [crs_here ha hb, crs_here hb hc, crs_here hc ha, hc.x, hc.y, crs_here ha hb]
theorem area_here {a b c a' b' c' : P} (ha : a'.here a) (hb : b'.here b) (hc : c'.here c) : area a' b' c' = area a b c := by
  unfold area
  rw [crs_here ha hb, hc.x, hc.y]
theorem dep_flat {a b c : P} {x y : Int} (h : 0 < area a b c) (z : Int) (h1 : a.z = z) (h2 : b.z = z) (h3 : c.z = z) : dep a b c x y = z := by
  rw [dep_pos h, h1, h2, h3, num_same h]
  unfold hld
  omega
end Go.Proofs.Ytiijpehchifheaa
