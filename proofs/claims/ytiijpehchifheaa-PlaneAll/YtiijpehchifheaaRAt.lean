/-
  The contract of the reference's At: piece by piece, the same number.
-/
import Derived.Test.YtiijpehchifheaaRefA
import Derived.Test.YtiijpehchifheaaPure
namespace Go.Proofs.Ytiijpehchifheaa
open Go.RowKit
attribute [local go_sem ↓] Go.wp_at_zero Go.wp_at_succ

/-- Two pieces, each rounded down, and what is left of both. -/
theorem pieces {l d d' p q s k k' r r' m m' : Int} (hs : 0 < s) (hr : p - k * s = r) (hr' : q - k' * s = r') (hm : d * r / s = m) (hm' : d' * r' / s = m') :
    (l * s + d * p + d' * q) / s = l + d * k + m + d' * k' + m' + (if s ≤ d * r - m * s + (d' * r' - m' * s) then 1 else 0) := by
  have e1 := Int.mul_ediv_add_emod (d * r) s
  have e2 := Int.mul_ediv_add_emod (d' * r') s
  have a0 := Int.emod_nonneg (d * r) (show s ≠ 0 by omega)
  have a1 := Int.emod_lt_of_pos (d * r) hs
  have b0 := Int.emod_nonneg (d' * r') (show s ≠ 0 by omega)
  have b1 := Int.emod_lt_of_pos (d' * r') hs
  rw [hm] at e1
  rw [hm'] at e2
  have g1 : d * p = d * r + s * (d * k) := by rw [← hr]; grind
  have g2 : d' * q = d' * r' + s * (d' * k') := by rw [← hr']; grind
  have c1 : m * s = s * m := Int.mul_comm _ _
  have c2 : m' * s = s * m' := Int.mul_comm _ _
  have c3 : l * s = s * l := Int.mul_comm _ _
  rw [c1, c2, c3, g1, g2]
  generalize d * r % s = A at *
  generalize d' * r' % s = B at *
  generalize d * k = D at *
  generalize d' * k' = D' at *
  split
  · rename_i h
    refine div_is (r := A + B - s) hs ?_ (by omega) (by omega)
    simp only [Int.mul_add, Int.mul_one]
    omega
  · rename_i h
    refine div_is (r := A + B) hs ?_ (by omega) (by omega)
    simp only [Int.mul_add, Int.add_zero]
    omega
theorem wsum_pieces (a b c : P) (l m n x y : Int) : wsum a b c l m n x y = l * area a b c + (m - l) * crs c a x y + (n - l) * crs a b x y := by
  rw [← crs_sum a b c x y]
  unfold wsum
  grind
theorem abs_bd {n B : Int} (h0 : -B ≤ n) (h1 : n ≤ B) (hB : 0 ≤ B) : n.natAbs ≤ B.natAbs := by omega

theorem rat_none (a b c : P) (l m n x y : Int) (ha : a.sm) (hb : b.sm) (hc : c.sm) (hs : area a b c ≤ 0) (w : World) :
    Calls Try.prog 13 #[.agg #[.int .i64 a.x, .int .i64 a.y, .int .i64 a.z, .int .i64 a.a, .int .i64 a.b, .int .i64 a.c, .int .i64 a.d, .int .i64 b.x, .int .i64 b.y, .int .i64 b.z, .int .i64 b.a, .int .i64 b.b, .int .i64 b.c, .int .i64 b.d, .int .i64 c.x, .int .i64 c.y, .int .i64 c.z, .int .i64 c.a, .int .i64 c.b, .int .i64 c.c, .int .i64 c.d], .agg #[.int .i64 l, .int .i64 m, .int .i64 n], .int .i64 x, .int .i64 y] w fun e w' => e = .returned (.int .i64 0) ∧ Below w.heap.size w w' := by
  have HK := Lib.hid fun o o' => (((Below.refl w.heap.size w).alloc (Nat.le_refl _) o).alloc (by simp) o')
  have HA := Lib.hid (rarea_any a b c ha hb hc)
  generalize area a b c = s at *
  clear ha hb hc
  go_enter Try.func13, Try.ntmps13
  go_wp2_with (refine wp_loadT _ rfl rfl rfl (new_two _ _).1 ?_)
  with_reducible refine (HA.out _).mono ?_
  rintro e w1 ⟨rfl, hb⟩
  have K1 := Lib.hid (bstep (HK.out _ _) (by simp; omega) hb)
  clear hb
  go_wp2
  go_ret
  exact ⟨rfl, K1.out⟩

set_option maxRecDepth 100000 in
set_option maxHeartbeats 4000000 in
theorem rat_some (a b c : P) (l m n x y : Int) (ha : a.ok) (hb : b.ok) (hc : c.ok) (hl : -1073741824 ≤ l ∧ l ≤ 1073741824) (hm : -1073741824 ≤ m ∧ m ≤ 1073741824) (hn : -1073741824 ≤ n ∧ n ≤ 1073741824) (hx : In14 x) (hy : In14 y) (hs : 0 < area a b c) (v : Int) (hv : wsum a b c l m n x y / area a b c = v) (w : World) :
    Calls Try.prog 13 #[.agg #[.int .i64 a.x, .int .i64 a.y, .int .i64 a.z, .int .i64 a.a, .int .i64 a.b, .int .i64 a.c, .int .i64 a.d, .int .i64 b.x, .int .i64 b.y, .int .i64 b.z, .int .i64 b.a, .int .i64 b.b, .int .i64 b.c, .int .i64 b.d, .int .i64 c.x, .int .i64 c.y, .int .i64 c.z, .int .i64 c.a, .int .i64 c.b, .int .i64 c.c, .int .i64 c.d], .agg #[.int .i64 l, .int .i64 m, .int .i64 n], .int .i64 x, .int .i64 y] w fun e w' => e = .returned (.int .i64 v) ∧ Below w.heap.size w w' := by
  obtain ⟨x0, x1⟩ := hx
  obtain ⟨y0, y1⟩ := hy
  have HK := Lib.hid fun o o' => (((Below.refl w.heap.size w).alloc (Nat.le_refl _) o).alloc (by simp) o')
  have HA := Lib.hid (rarea_any a b c ha.sm hb.sm hc.sm)
  have H1 := Lib.hid (fun w => rcross_any c a x y hc.sm ha.sm (by omega) (by omega) (by omega) (by omega) w)
  have H2 := Lib.hid (fun w => rcross_any a b x y ha.sm hb.sm (by omega) (by omega) (by omega) (by omega) w)
  have hs1 := (area_in ha hb hc).2
  have p0 := crs_in hc ha x0 x1 y0 y1
  have q0 := crs_in ha hb x0 x1 y0 y1
  rw [wsum_pieces] at hv
  clear ha hb hc x0 x1 y0 y1
  generalize area a b c = s at *
  generalize crs c a x y = p at *
  generalize crs a b x y = q at *
  obtain ⟨d, hd⟩ : ∃ d, m - l = d := ⟨_, rfl⟩
  obtain ⟨d', hd'⟩ : ∃ d, n - l = d := ⟨_, rfl⟩
  rw [hd, hd'] at hv
  have dB : -2147483648 ≤ d ∧ d ≤ 2147483648 := by omega
  have dB' : -2147483648 ≤ d' ∧ d' ≤ 2147483648 := by omega
  have w1 : IntKind.i64.wrap (m - l) = d := by rw [hd, IntKind.wrap_i64]; omega
  have w2 : IntKind.i64.wrap (n - l) = d' := by rw [hd', IntKind.wrap_i64]; omega
  obtain ⟨k, hk⟩ : ∃ k, p / s = k := ⟨_, rfl⟩
  obtain ⟨k', hk'⟩ : ∃ k, q / s = k := ⟨_, rfl⟩
  have kB := ediv_bd (B := 1073741824) hs p0.1 p0.2 (by decide)
  have kB' := ediv_bd (B := 1073741824) hs q0.1 q0.2 (by decide)
  rw [hk] at kB
  rw [hk'] at kB'
  obtain ⟨r, hr⟩ : ∃ r, p - k * s = r := ⟨_, rfl⟩
  obtain ⟨r', hr'⟩ : ∃ r, q - k' * s = r := ⟨_, rfl⟩
  have rB : 0 ≤ r ∧ r < s := by
    have e1 := Int.mul_ediv_add_emod p s
    have a0 := Int.emod_nonneg p (show s ≠ 0 by omega)
    have a1 := Int.emod_lt_of_pos p hs
    rw [hk, Int.mul_comm] at e1
    omega
  have rB' : 0 ≤ r' ∧ r' < s := by
    have e1 := Int.mul_ediv_add_emod q s
    have a0 := Int.emod_nonneg q (show s ≠ 0 by omega)
    have a1 := Int.emod_lt_of_pos q hs
    rw [hk', Int.mul_comm] at e1
    omega
  have DK := mul_in dB.1 dB.2 kB.1 kB.2
  have DK' := mul_in dB'.1 dB'.2 kB'.1 kB'.2
  have DR := mul_in (m := d) (n := r) dB.1 dB.2 (by omega) (by omega)
  have DR' := mul_in (m := d') (n := r') dB'.1 dB'.2 (by omega) (by omega)
  have nd : d.natAbs * r.natAbs < 9223372036854775807 := by rw [← Int.natAbs_mul]; omega
  have nd' : d'.natAbs * r'.natAbs < 9223372036854775807 := by rw [← Int.natAbs_mul]; omega
  obtain ⟨z, hz⟩ : ∃ z, d * r / s = z := ⟨_, rfl⟩
  obtain ⟨z', hz'⟩ : ∃ z, d' * r' / s = z := ⟨_, rfl⟩
  have hp := pieces (l := l) hs hr hr' hz hz'
  rw [hv] at hp
  have M1 := Lib.hid (fun w => rmuldiv_any d r s (by omega) (by omega) rB.1 (by omega) hs (by omega) nd w)
  have M2 := Lib.hid (fun w => rmuldiv_any d' r' s (by omega) (by omega) rB'.1 (by omega) hs (by omega) nd' w)
  rw [hz] at M1
  rw [hz'] at M2
  have N1 := Lib.hid (fun w => down_any p s k (by omega) (by omega) hs (by omega) hk w)
  have N2 := Lib.hid (fun w => down_any q s k' (by omega) (by omega) hs (by omega) hk' w)
  have zB : -2147483648 ≤ z ∧ z ≤ 2147483648 ∧ d * r - s < z * s ∧ z * s ≤ d * r := by
    have e1 := Int.mul_ediv_add_emod (d * r) s
    have a0 := Int.emod_nonneg (d * r) (show s ≠ 0 by omega)
    have a1 := Int.emod_lt_of_pos (d * r) hs
    rw [hz, Int.mul_comm] at e1
    have h1 : d * r ≤ 2147483648 * s := Int.le_trans (Int.mul_le_mul_of_nonneg_right dB.2 rB.1) (Int.mul_le_mul_of_nonneg_left (by omega) (by decide))
    have h2 : -2147483648 * s ≤ d * r := Int.le_trans (by rw [Int.neg_mul, Int.neg_mul]; exact Int.neg_le_neg (Int.mul_le_mul_of_nonneg_left (by omega) (by decide))) (Int.mul_le_mul_of_nonneg_right dB.1 rB.1)
    refine ⟨?_, ?_, by omega, by omega⟩
    · rw [← hz, Int.le_ediv_iff_mul_le hs]; exact h2
    · rw [← hz]
      have := Int.ediv_le_ediv hs h1
      rwa [Int.mul_ediv_cancel _ (by omega)] at this
  have zB' : -2147483648 ≤ z' ∧ z' ≤ 2147483648 ∧ d' * r' - s < z' * s ∧ z' * s ≤ d' * r' := by
    have e1 := Int.mul_ediv_add_emod (d' * r') s
    have a0 := Int.emod_nonneg (d' * r') (show s ≠ 0 by omega)
    have a1 := Int.emod_lt_of_pos (d' * r') hs
    rw [hz', Int.mul_comm] at e1
    have h1 : d' * r' ≤ 2147483648 * s := Int.le_trans (Int.mul_le_mul_of_nonneg_right dB'.2 rB'.1) (Int.mul_le_mul_of_nonneg_left (by omega) (by decide))
    have h2 : -2147483648 * s ≤ d' * r' := Int.le_trans (by rw [Int.neg_mul, Int.neg_mul]; exact Int.neg_le_neg (Int.mul_le_mul_of_nonneg_left (by omega) (by decide))) (Int.mul_le_mul_of_nonneg_right dB'.1 rB'.1)
    refine ⟨?_, ?_, by omega, by omega⟩
    · rw [← hz', Int.le_ediv_iff_mul_le hs]; exact h2
    · rw [← hz']
      have := Int.ediv_le_ediv hs h1
      rwa [Int.mul_ediv_cancel _ (by omega)] at this
  obtain ⟨ks, hks⟩ : ∃ t, k * s = t := ⟨_, rfl⟩
  obtain ⟨ks', hks'⟩ : ∃ t, k' * s = t := ⟨_, rfl⟩
  obtain ⟨dk, hdk⟩ : ∃ t, d * k = t := ⟨_, rfl⟩
  obtain ⟨dk', hdk'⟩ : ∃ t, d' * k' = t := ⟨_, rfl⟩
  obtain ⟨dr, hdr⟩ : ∃ t, d * r = t := ⟨_, rfl⟩
  obtain ⟨dr', hdr'⟩ : ∃ t, d' * r' = t := ⟨_, rfl⟩
  obtain ⟨zs, hzs⟩ : ∃ t, z * s = t := ⟨_, rfl⟩
  obtain ⟨zs', hzs'⟩ : ∃ t, z' * s = t := ⟨_, rfl⟩
  rw [hks] at hr
  rw [hks'] at hr'
  rw [hdk, hdk', hdr, hdr', hzs, hzs'] at hp
  rw [hdk] at DK
  rw [hdk'] at DK'
  rw [hdr] at DR
  rw [hdr'] at DR'
  rw [hdr, hzs] at zB
  rw [hdr', hzs'] at zB'
  obtain ⟨q1, hq1⟩ : ∃ t, l + dk = t := ⟨_, rfl⟩
  obtain ⟨q2, hq2⟩ : ∃ t, q1 + z = t := ⟨_, rfl⟩
  obtain ⟨q3, hq3⟩ : ∃ t, q2 + dk' = t := ⟨_, rfl⟩
  obtain ⟨q4, hq4⟩ : ∃ t, q3 + z' = t := ⟨_, rfl⟩
  obtain ⟨f1, hf1⟩ : ∃ t, dr - zs = t := ⟨_, rfl⟩
  obtain ⟨f2, hf2⟩ : ∃ t, f1 + dr' = t := ⟨_, rfl⟩
  obtain ⟨f3, hf3⟩ : ∃ t, f2 - zs' = t := ⟨_, rfl⟩
  have a1 : IntKind.i64.wrap (k * s) = ks := by rw [hks, IntKind.wrap_i64]; omega
  have a2 : IntKind.i64.wrap (k' * s) = ks' := by rw [hks', IntKind.wrap_i64]; omega
  have a3 : IntKind.i64.wrap (p - ks) = r := by rw [hr, IntKind.wrap_i64]; omega
  have a4 : IntKind.i64.wrap (q - ks') = r' := by rw [hr', IntKind.wrap_i64]; omega
  have a5 : IntKind.i64.wrap (d * k) = dk := by rw [hdk, IntKind.wrap_i64]; omega
  have a6 : IntKind.i64.wrap (d' * k') = dk' := by rw [hdk', IntKind.wrap_i64]; omega
  have a7 : IntKind.i64.wrap (d * r) = dr := by rw [hdr, IntKind.wrap_i64]; omega
  have a8 : IntKind.i64.wrap (d' * r') = dr' := by rw [hdr', IntKind.wrap_i64]; omega
  have a9 : IntKind.i64.wrap (z * s) = zs := by rw [hzs, IntKind.wrap_i64]; omega
  have b1 : IntKind.i64.wrap (z' * s) = zs' := by rw [hzs', IntKind.wrap_i64]; omega
  have b2 : IntKind.i64.wrap (l + dk) = q1 := by rw [hq1, IntKind.wrap_i64]; omega
  have b3 : IntKind.i64.wrap (q1 + z) = q2 := by rw [hq2, IntKind.wrap_i64]; omega
  have b4 : IntKind.i64.wrap (q2 + dk') = q3 := by rw [hq3, IntKind.wrap_i64]; omega
  have b5 : IntKind.i64.wrap (q3 + z') = q4 := by rw [hq4, IntKind.wrap_i64]; omega
  have b6 : IntKind.i64.wrap (dr - zs) = f1 := by rw [hf1, IntKind.wrap_i64]; omega
  have b7 : IntKind.i64.wrap (f1 + dr') = f2 := by rw [hf2, IntKind.wrap_i64]; omega
  have b8 : IntKind.i64.wrap (f2 - zs') = f3 := by rw [hf3, IntKind.wrap_i64]; omega
  have b9 : IntKind.i64.wrap (q4 + 1) = q4 + 1 := by rw [IntKind.wrap_i64]; omega
  have c0 : IntKind.i64.wrap dr = dr := by rw [IntKind.wrap_i64]; omega
  have HE := Lib.hid (show (s ≤ f3 ∧ q4 + 1 = v) ∨ (¬ s ≤ f3 ∧ q4 = v) by
    by_cases h : s ≤ f3
    · left
      rw [if_pos (by omega)] at hp
      exact ⟨h, by omega⟩
    · right
      rw [if_neg (by omega)] at hp
      exact ⟨h, by omega⟩)
  clear hp hv hks hks' hdk hdk' hdr hdr' hzs hzs' hq1 hq2 hq3 hq4 hf1 hf2 hf3 hr hr' hz hz' hk hk' hd hd' nd nd' zB zB' rB rB' DK DK' DR DR' dB dB' kB kB' p0 q0 hs1 hl hm hn
  have v1 : IntKind.i64.wrap 1 = 1 := by decide
  have v2 : IntKind.i64.wrap 2 = 2 := by decide
  go_enter Try.func13, Try.ntmps13
  go_wp2_with (refine wp_loadT _ rfl rfl rfl (new_two _ _).1 ?_)
  with_reducible refine (HA.out _).mono ?_
  rintro e w1 ⟨rfl, hb⟩
  have K1 := Lib.hid (bstep (HK.out _ _) (by simp; omega) hb)
  have T1 := Lib.hid (show w1.heap[w.heap.size]? = some (tB a b c) from tB_grow (new_two _ _).1 hb)
  have L1 := Lib.hid (show w1.heap[w.heap.size + 1]? = some (nB l m n) from nB_grow (new_two _ _).2 hb)
  clear hb
  obtain ⟨⟨c0, c1, c2, c3, c4, c5, c6⟩, ⟨c7, c8, c9, c10, c11, c12, c13⟩, ⟨c14, c15, c16, c17, c18, c19, c20⟩⟩ := tB_cell T1.out
  go_wp2_with fail
  with_reducible refine (H1.out _).mono ?_
  rintro e w2 ⟨rfl, hb⟩
  have K2 := Lib.hid (bstep K1.out K1.out.size hb)
  have T2 := Lib.hid (tB_grow T1.out hb)
  have L2 := Lib.hid (nB_grow L1.out hb)
  clear hb c0 c1 c2 c3 c4 c5 c6 c7 c8 c9 c10 c11 c12 c13 c14 c15 c16 c17 c18 c19 c20 T1 L1 K1
  obtain ⟨⟨c0, c1, c2, c3, c4, c5, c6⟩, ⟨c7, c8, c9, c10, c11, c12, c13⟩, ⟨c14, c15, c16, c17, c18, c19, c20⟩⟩ := tB_cell T2.out
  go_wp2_with fail
  with_reducible refine (H2.out _).mono ?_
  rintro e w3 ⟨rfl, hb⟩
  have K3 := Lib.hid (bstep K2.out K2.out.size hb)
  have L3 := Lib.hid (nB_grow L2.out hb)
  clear hb c0 c1 c2 c3 c4 c5 c6 c7 c8 c9 c10 c11 c12 c13 c14 c15 c16 c17 c18 c19 c20 T2 L2 K2
  obtain ⟨n0, n1, n2⟩ := nB_cell L3.out
  go_wp2
  refine wp_loop_rounds 3 ?_
  rw [rounds_succ]
  go_wp2_with fail
  with_reducible refine (N1.out _).mono ?_
  rintro e w4 ⟨rfl, hb⟩
  have K4 := Lib.hid (bstep K3.out K3.out.size hb)
  have L4 := Lib.hid (nB_grow L3.out hb)
  clear hb n0 n1 n2 L3 K3
  go_wp2_with fail
  with_reducible refine (M1.out _).mono ?_
  rintro e w5 ⟨rfl, hb⟩
  have K5 := Lib.hid (bstep K4.out K4.out.size hb)
  have L5 := Lib.hid (nB_grow L4.out hb)
  clear hb L4 K4
  obtain ⟨n0, n1, n2⟩ := nB_cell L5.out
  go_wp2
  rw [rounds_succ]
  go_wp2_with fail
  with_reducible refine (N2.out _).mono ?_
  rintro e w6 ⟨rfl, hb⟩
  have K6 := Lib.hid (bstep K5.out K5.out.size hb)
  clear hb n0 n1 n2 L5 K5
  go_wp2_with fail
  with_reducible refine (M2.out _).mono ?_
  rintro e w7 ⟨rfl, hb⟩
  have K7 := Lib.hid (bstep K6.out K6.out.size hb)
  clear hb K6
  go_wp2
  rw [rounds_succ]
  rcases HE.out with ⟨h, rfl⟩ | ⟨h, rfl⟩
  all_goals
    go_wp2
    go_ret
    exact ⟨rfl, K7.out⟩

theorem rat_any (a b c : P) (l m n x y v : Int) (ha : a.ok) (hb : b.ok) (hc : c.ok) (hl : -1073741824 ≤ l ∧ l ≤ 1073741824) (hm : -1073741824 ≤ m ∧ m ≤ 1073741824) (hn : -1073741824 ≤ n ∧ n ≤ 1073741824) (hx : In14 x) (hy : In14 y) (hv : num a b c l m n x y = v) (w : World) :
    Calls Try.prog 13 #[.agg #[.int .i64 a.x, .int .i64 a.y, .int .i64 a.z, .int .i64 a.a, .int .i64 a.b, .int .i64 a.c, .int .i64 a.d, .int .i64 b.x, .int .i64 b.y, .int .i64 b.z, .int .i64 b.a, .int .i64 b.b, .int .i64 b.c, .int .i64 b.d, .int .i64 c.x, .int .i64 c.y, .int .i64 c.z, .int .i64 c.a, .int .i64 c.b, .int .i64 c.c, .int .i64 c.d], .agg #[.int .i64 l, .int .i64 m, .int .i64 n], .int .i64 x, .int .i64 y] w fun e w' => e = .returned (.int .i64 v) ∧ Below w.heap.size w w' := by
  subst hv
  rcases Int.lt_or_le 0 (area a b c) with h | h
  · exact rat_some a b c l m n x y ha hb hc hl hm hn hx hy h _ (num_pos h).symm w
  · rw [num_neg h]
    exact rat_none a b c l m n x y ha.sm hb.sm hc.sm h w
end Go.Proofs.Ytiijpehchifheaa
