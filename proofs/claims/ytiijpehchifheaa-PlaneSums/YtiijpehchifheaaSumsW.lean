/-
  PlaneSums' walk.
-/
import Derived.Test.YtiijpehchifheaaPure
import Derived.Test.YtiijpehchifheaaTw
namespace Go.Proofs.Ytiijpehchifheaa
open Go.RowKit
attribute [local go_sem ↓] Go.wp_at_zero Go.wp_at_succ
attribute [local go_sem high] run_min3 run_max3

theorem oth {w : World} {g k o : Nat} {v : Value} (h : g ≠ k) : (w.setCell ⟨k, o, none⟩ v).heap[g]? = w.heap[g]? := heap_setCell_other _ _ _ _ (by simpa using h)
theorem nB_set0 {w : World} {g : Nat} {l m n : Int} (v : Int) (h : w.heap[g]? = some (nB l m n)) : (w.setCell ⟨g, 0, none⟩ (.int .i64 v)).heap[g]? = some (nB v m n) := (heap_setCell_same w g 0 _ _ (.int .i64 v) h).trans (by kernel_rfl)
theorem nB_set1 {w : World} {g : Nat} {l m n : Int} (v : Int) (h : w.heap[g]? = some (nB l m n)) : (w.setCell ⟨g, 1, none⟩ (.int .i64 v)).heap[g]? = some (nB l v n) := (heap_setCell_same w g 1 _ _ (.int .i64 v) h).trans (by kernel_rfl)
theorem nB_set2 {w : World} {g : Nat} {l m n : Int} (v : Int) (h : w.heap[g]? = some (nB l m n)) : (w.setCell ⟨g, 2, none⟩ (.int .i64 v)).heap[g]? = some (nB l m v) := (heap_setCell_same w g 2 _ _ (.int .i64 v) h).trans (by kernel_rfl)
theorem num_bd29 {a b c : P} {l m n x y : Int} (ha : a.ok) (hb : b.ok) (hc : c.ok) (hl : -536870912 ≤ l ∧ l ≤ 536870912) (hm : -536870912 ≤ m ∧ m ≤ 536870912) (hn : -536870912 ≤ n ∧ n ≤ 536870912) (hx : In14 x) (hy : In14 y) (h : 0 < area a b c) :
    -1729382256910270464 ≤ num a b c l m n x y ∧ num a b c l m n x y ≤ 1729382256910270464 := by
  have k1 := crs_in hb hc hx.1 hx.2 hy.1 hy.2
  have k2 := crs_in hc ha hx.1 hx.2 hy.1 hy.2
  have k3 := crs_in ha hb hx.1 hx.2 hy.1 hy.2
  have e1 := mul_bd (B := 536870912) (C := 1073741824) hl.1 hl.2 k1.1 k1.2
  have e2 := mul_bd (B := 536870912) (C := 1073741824) hm.1 hm.2 k2.1 k2.2
  have e3 := mul_bd (B := 536870912) (C := 1073741824) hn.1 hn.2 k3.1 k3.2
  have e : (536870912 : Int) * 1073741824 = 576460752303423488 := by decide
  rw [num_pos h]
  refine ediv_bd h ?_ ?_ (by decide) <;> unfold wsum <;> omega

set_option maxRecDepth 100000 in
set_option maxHeartbeats 4000000 in
theorem sums_walk (a b c : P) (l m n l' m' n' e f : Int) (w : World) :
    Calls Try.prog 7 #[.agg #[.int .i64 a.x, .int .i64 a.y, .int .i64 a.z, .int .i64 a.a, .int .i64 a.b, .int .i64 a.c, .int .i64 a.d, .int .i64 b.x, .int .i64 b.y, .int .i64 b.z, .int .i64 b.a, .int .i64 b.b, .int .i64 b.c, .int .i64 b.d, .int .i64 c.x, .int .i64 c.y, .int .i64 c.z, .int .i64 c.a, .int .i64 c.b, .int .i64 c.c, .int .i64 c.d], .agg #[.int .i64 l, .int .i64 m, .int .i64 n, .int .i64 l', .int .i64 m', .int .i64 n'], .agg #[.int .i64 e, .int .i64 f]] w fun e w' => e = .returned (.bool true) ∧ Below w.heap.size w w' := by
  have HS := Lib.hid shown_any
  have HT := Lib.hid (three_any a b c)
  obtain ⟨u1, h1⟩ : ∃ u, smallP a = u := ⟨_, rfl⟩
  obtain ⟨u2, h2⟩ : ∃ u, smallP b = u := ⟨_, rfl⟩
  obtain ⟨u3, h3⟩ : ∃ u, smallP c = u := ⟨_, rfl⟩
  rw [h1, h2, h3] at HT
  have g1 : u1.good := h1 ▸ smallP_good a
  have g2 : u2.good := h2 ▸ smallP_good b
  have g3 : u3.good := h3 ▸ smallP_good c
  have HR := Lib.hid (rturned_any u1 u2 u3 g1.ok.sm g2.ok.sm g3.ok.sm)
  have ha := @tr_area u1 u2 u3
  obtain ⟨o1, o2, o3⟩ := tr_good g1 g2 g3
  clear h1 h2 h3 g1 g2 g3
  generalize tr1 u1 u2 u3 = t1 at *
  generalize tr2 u1 u2 u3 = t2 at *
  generalize tr3 u1 u2 u3 = t3 at *
  generalize trO u1 u2 u3 = o at *
  have hx := tmod_bd e 16385 (by decide)
  have hy := tmod_bd f 16385 (by decide)
  obtain ⟨x, ex⟩ : ∃ x, e.tmod 16385 = x := ⟨_, rfl⟩
  obtain ⟨y, ey⟩ : ∃ y, f.tmod 16385 = y := ⟨_, rfl⟩
  rw [ex] at hx
  rw [ey] at hy
  replace hx : In14 x := by unfold In14; omega
  replace hy : In14 y := by unfold In14; omega
  have kp1 := tmod_bd l 536870912 (by decide)
  obtain ⟨p1, Ep1⟩ : ∃ p, l.tmod 536870912 = p := ⟨_, rfl⟩
  rw [Ep1] at kp1
  have kp2 := tmod_bd m 536870912 (by decide)
  obtain ⟨p2, Ep2⟩ : ∃ p, m.tmod 536870912 = p := ⟨_, rfl⟩
  rw [Ep2] at kp2
  have kp3 := tmod_bd n 536870912 (by decide)
  obtain ⟨p3, Ep3⟩ : ∃ p, n.tmod 536870912 = p := ⟨_, rfl⟩
  rw [Ep3] at kp3
  have kq1 := tmod_bd l' 536870912 (by decide)
  obtain ⟨q1, Eq1⟩ : ∃ p, l'.tmod 536870912 = p := ⟨_, rfl⟩
  rw [Eq1] at kq1
  have kq2 := tmod_bd m' 536870912 (by decide)
  obtain ⟨q2, Eq2⟩ : ∃ p, m'.tmod 536870912 = p := ⟨_, rfl⟩
  rw [Eq2] at kq2
  have kq3 := tmod_bd n' 536870912 (by decide)
  obtain ⟨q3, Eq3⟩ : ∃ p, n'.tmod 536870912 = p := ⟨_, rfl⟩
  rw [Eq3] at kq3
  obtain ⟨s1, d1⟩ : ∃ s, p1 + q1 = s := ⟨_, rfl⟩
  have e1 : IntKind.i64.wrap (p1 + q1) = s1 := by rw [d1, IntKind.wrap_i64]; omega
  obtain ⟨s2, d2⟩ : ∃ s, p2 + q2 = s := ⟨_, rfl⟩
  have e2 : IntKind.i64.wrap (p2 + q2) = s2 := by rw [d2, IntKind.wrap_i64]; omega
  obtain ⟨s3, d3⟩ : ∃ s, p3 + q3 = s := ⟨_, rfl⟩
  have e3 : IntKind.i64.wrap (p3 + q3) = s3 := by rw [d3, IntKind.wrap_i64]; omega
  obtain ⟨v0, hv0⟩ : ∃ v, num t1 t2 t3 s1 s2 s3 x y = v := ⟨_, rfl⟩
  obtain ⟨v1, hv1⟩ : ∃ v, num t1 t2 t3 p1 p2 p3 x y = v := ⟨_, rfl⟩
  obtain ⟨v2, hv2⟩ : ∃ v, num t1 t2 t3 q1 q2 q3 x y = v := ⟨_, rfl⟩
  obtain ⟨d, hd⟩ : ∃ d, v0 - v1 - v2 = d := ⟨_, rfl⟩
  obtain ⟨m1, hm1⟩ : ∃ d, v0 - v1 = d := ⟨_, rfl⟩
  have HD0 : o = true → (d = 0 ∨ d = 1) ∧ (-1729382256910270464 ≤ v1 ∧ v1 ≤ 1729382256910270464) ∧ (-1729382256910270464 ≤ v2 ∧ v2 ≤ 1729382256910270464) := by
    intro h
    have k := num_sums (ha h) p1 p2 p3 q1 q2 q3 x y
    rw [d1, d2, d3, hv0, hv1, hv2, hd] at k
    refine ⟨k, ?_, ?_⟩
    · rw [← hv1]; exact num_bd29 o1.ok o2.ok o3.ok (by omega) (by omega) (by omega) hx hy (ha h)
    · rw [← hv2]; exact num_bd29 o1.ok o2.ok o3.ok (by omega) (by omega) (by omega) hx hy (ha h)
  have A := Lib.hid (rarea_any t1 t2 t3 o1.ok.sm o2.ok.sm o3.ok.sm)
  have hs0 := (area_in o1.ok o2.ok o3.ok).2
  have V0 := Lib.hid (at_any t1 t2 t3 s1 s2 s3 x y v0 o1.ok o2.ok o3.ok (by unfold Ask; omega) (by unfold Ask; omega) (by unfold Ask; omega) hx hy hv0)
  have V1 := Lib.hid (at_any t1 t2 t3 p1 p2 p3 x y v1 o1.ok o2.ok o3.ok (by unfold Ask; omega) (by unfold Ask; omega) (by unfold Ask; omega) hx hy hv1)
  have V2 := Lib.hid (at_any t1 t2 t3 q1 q2 q3 x y v2 o1.ok o2.ok o3.ok (by unfold Ask; omega) (by unfold Ask; omega) (by unfold Ask; omega) hx hy hv2)
  have HC := Lib.hid (fun (h : o = true) => (⟨V0, V1, V2, A, Lib.hid (fun (hlt : ¬ 1073741824 ≤ area t1 t2 t3) => (⟨Lib.hid (at_any t1 t2 t3 0 0 (area t1 t2 t3) x y (crs t1 t2 x y) o1.ok o2.ok o3.ok (by constructor <;> decide) (by constructor <;> decide) (by have := ha h; unfold Ask; omega) hx hy (num_area (ha h) x y)),
      Lib.hid (rcross_any t1 t2 x y o1.ok.sm o2.ok.sm (by have := hx.1; omega) (by have := hx.2; omega) (by have := hy.1; omega) (by have := hy.2; omega))⟩ : Hid _ ∧ Hid _))⟩ : Hid _ ∧ Hid _ ∧ Hid _ ∧ Hid _ ∧ Hid _))
  have HZ := Lib.hid (fun (h : o = true) => show IntKind.i64.wrap (v0 - v1) = m1 ∧ IntKind.i64.wrap (m1 - v2) = d from by
    obtain ⟨h0, h1, h2⟩ := HD0 h
    rw [IntKind.wrap_i64, IntKind.wrap_i64]
    omega)
  have HDD := Lib.hid (fun (h : o = true) => (HD0 h).1)
  generalize area t1 t2 t3 = s at *
  generalize crs t1 t2 x y = r at *
  clear V0 V1 V2 A HD0 ha o1 o2 o3 hx hy hv0 hv1 hv2 hd hm1 hs0 kp1 kp2 kp3 kq1 kq2 kq3 d1 d2 d3
  go_enter Try.func7, Try.ntmps7
  go_wp2_with fail
  obtain ⟨w0, hX⟩ : ∃ X, X = (((w.alloc (Obj.cells #[.int .i64 a.x, .int .i64 a.y, .int .i64 a.z, .int .i64 a.a, .int .i64 a.b, .int .i64 a.c, .int .i64 a.d, .int .i64 b.x, .int .i64 b.y, .int .i64 b.z, .int .i64 b.a, .int .i64 b.b, .int .i64 b.c, .int .i64 b.d, .int .i64 c.x, .int .i64 c.y, .int .i64 c.z, .int .i64 c.a, .int .i64 c.b, .int .i64 c.c, .int .i64 c.d] 25)).alloc (Obj.cells #[.int .i64 l, .int .i64 m, .int .i64 n, .int .i64 l', .int .i64 m', .int .i64 n'] 40)).alloc (Obj.cells #[.int .i64 e, .int .i64 f] 27)) := ⟨_, rfl⟩
  rw [← hX]
  have K0 := Lib.hid (show Below w.heap.size w w0 by rw [hX]; exact ((((Below.refl w.heap.size w).alloc (Nat.le_refl _) _).alloc (by simp) _).alloc (by simp; omega) _))
  have T0 := Lib.hid (show w0.heap[w.heap.size]? = some (tB a b c) by rw [hX]; exact tB_alloc _ (tB_alloc _ (new_at rfl)))
  have S0 := Lib.hid (show w0.heap[w.heap.size + 1]? = some (sxB l m n l' m' n') by rw [hX]; exact sxB_alloc _ (new_at (by simp)))
  have E0 := Lib.hid (show w0.heap[w.heap.size + 2]? = some (twB e f) by rw [hX]; exact new_at (by simp))
  clear hX
  with_reducible refine (HS.out _).mono ?_
  rintro e w1 ⟨rfl, hb⟩
  have K1 := Lib.hid (bstep K0.out K0.out.size hb)
  have T1 := Lib.hid (show w1.heap[w.heap.size]? = some (tB a b c) from tB_grow T0.out hb)
  have S1 := Lib.hid (show w1.heap[w.heap.size + 1]? = some (sxB l m n l' m' n') from sxB_grow S0.out hb)
  have E1 := Lib.hid (show w1.heap[w.heap.size + 2]? = some (twB e f) from twB_grow E0.out hb)
  clear T0 S0 E0
  clear hb
  go_wp2_with (first | (refine wp_loadT _ rfl rfl rfl T1.out ?_))
  with_reducible refine (HT.out _).mono ?_
  rintro e w2 ⟨rfl, hb⟩
  have K2 := Lib.hid (bstep K1.out K1.out.size hb)
  have T2 := Lib.hid (show w2.heap[w.heap.size]? = some (tB a b c) from tB_grow T1.out hb)
  have S2 := Lib.hid (show w2.heap[w.heap.size + 1]? = some (sxB l m n l' m' n') from sxB_grow S1.out hb)
  have E2 := Lib.hid (show w2.heap[w.heap.size + 2]? = some (twB e f) from twB_grow E1.out hb)
  clear T1 S1 E1
  clear hb
  clear T2
  go_wp2_with fail
  with_reducible refine (HR.out _).mono ?_
  rintro e w3 ⟨rfl, hb⟩
  have K3 := Lib.hid (bstep K2.out K2.out.size hb)
  have S3 := Lib.hid (show w3.heap[w.heap.size + 1]? = some (sxB l m n l' m' n') from sxB_grow S2.out hb)
  have E3 := Lib.hid (show w3.heap[w.heap.size + 2]? = some (twB e f) from twB_grow E2.out hb)
  clear S2 E2
  clear hb
  obtain ⟨cE0, cE1⟩ := twB_cell E3.out
  have lE := twB_lt E3.out
  cases o
  · go_wp2_with (refine wp_newT (a := t1) (b := t2) (c := t3) _ rfl rfl rfl rfl rfl rfl rfl rfl ?_)
    go_ret
    exact ⟨rfl, (K3.out.alloc K3.out.size _)⟩
  obtain ⟨V0, V1, V2, A, C⟩ := HC.out rfl
  obtain ⟨e8, e9⟩ := HZ.out rfl
  have HD := Lib.hid (HDD.out rfl)
  clear HZ HDD
  clear HC
  go_wp2_with (first | (refine wp_newT (a := t1) (b := t2) (c := t3) _ rfl rfl rfl rfl rfl rfl rfl rfl ?_))
  obtain ⟨Y0, hY⟩ : ∃ Y, Y = (((w3.alloc (Obj.cells #[.int .i64 t1.x, .int .i64 t1.y, .int .i64 t1.z, .int .i64 t1.a, .int .i64 t1.b, .int .i64 t1.c, .int .i64 t1.d, .int .i64 t2.x, .int .i64 t2.y, .int .i64 t2.z, .int .i64 t2.a, .int .i64 t2.b, .int .i64 t2.c, .int .i64 t2.d, .int .i64 t3.x, .int .i64 t3.y, .int .i64 t3.z, .int .i64 t3.a, .int .i64 t3.b, .int .i64 t3.c, .int .i64 t3.d] 25)).alloc (Obj.cells #[.int .i64 0, .int .i64 0, .int .i64 0] 26)).alloc (Obj.cells #[.int .i64 0, .int .i64 0, .int .i64 0] 26)).alloc (Obj.cells #[.int .i64 0, .int .i64 0, .int .i64 0] 26) := ⟨_, rfl⟩
  rw [← hY]
  have KY0 := Lib.hid (show Below w.heap.size w Y0 by rw [hY]; exact (((K3.out.alloc K3.out.size _).alloc (by have := K3.out.size; simp; omega) _).alloc (by have := K3.out.size; simp; omega) _).alloc (by have := K3.out.size; simp; omega) _)
  have TY0 := Lib.hid (show Y0.heap[w3.heap.size]? = some (tB t1 t2 t3) by rw [hY]; exact tB_alloc _ (tB_alloc _ (tB_alloc _ (new_at rfl))))
  have AY0 := Lib.hid (show Y0.heap[w3.heap.size + 1]? = some (nB 0 0 0) by rw [hY]; exact nB_alloc _ (nB_alloc _ (new_at (by simp))))
  have BY0 := Lib.hid (show Y0.heap[w3.heap.size + 1 + 1]? = some (nB 0 0 0) by rw [hY]; exact nB_alloc _ (new_at (by simp)))
  have SY0 := Lib.hid (show Y0.heap[w3.heap.size + 1 + 1 + 1]? = some (nB 0 0 0) by rw [hY]; exact new_at (by simp))
  have XY0 := Lib.hid (show Y0.heap[w.heap.size + 1]? = some (sxB l m n l' m' n') by rw [hY]; exact sxB_alloc _ (sxB_alloc _ (sxB_alloc _ (sxB_alloc _ S3.out))))
  have lx := sxB_lt S3.out
  have lw := K3.out.size
  obtain ⟨gt, hgt⟩ : ∃ g, w3.heap.size = g := ⟨_, rfl⟩
  obtain ⟨gx, hgx⟩ : ∃ g, w.heap.size + 1 = g := ⟨_, rfl⟩
  obtain ⟨ga, hga⟩ : ∃ g, gt + 1 = g := ⟨_, rfl⟩
  obtain ⟨gb, hgb⟩ : ∃ g, ga + 1 = g := ⟨_, rfl⟩
  obtain ⟨gs, hgs⟩ : ∃ g, gb + 1 = g := ⟨_, rfl⟩
  rw [hgt] at TY0 AY0 BY0 SY0 lx lw
  rw [hgx] at XY0 lx
  rw [hga] at AY0 BY0 SY0
  rw [hgb] at BY0 SY0
  rw [hgs] at SY0
  simp only [hgt, hgx, hga, hgb, hgs]
  have n1 : gx ≠ ga := by omega
  have n2 : gx ≠ gb := by omega
  have n3 : gx ≠ gs := by omega
  have n4 : ga ≠ gb := by omega
  have n5 : ga ≠ gs := by omega
  have n6 : gb ≠ gs := by omega
  have n7 : gt ≠ ga := by omega
  have n8 : gt ≠ gb := by omega
  have n9 : gt ≠ gs := by omega
  have n4' := n4.symm
  have n5' := n5.symm
  have n6' := n6.symm
  have ca := Lib.hid (show w.heap.size ≤ ga by omega)
  have cb := Lib.hid (show w.heap.size ≤ gb by omega)
  have cs := Lib.hid (show w.heap.size ≤ gs by omega)
  clear cE0 cE1 lE
  clear hY K3 S3 E3 hgt hgx hga hgb hgs lx lw
  refine wp_loop_rounds 4 ?_
  rw [rounds_succ]
  obtain ⟨x0, x1, x2, x3, x4, x5⟩ := sxB_cell XY0.out
  obtain ⟨a0, a1, a2⟩ := nB_cell AY0.out
  obtain ⟨b0, b1, b2⟩ := nB_cell BY0.out
  have fa := nB_free AY0.out 0
  have fb := nB_free BY0.out 0
  go_wp2_with fail
  obtain ⟨Z0, hZ⟩ : ∃ Z, Z = ((Y0.setCell ⟨ga, 0, none⟩ (.int .i64 p1)).setCell ⟨gb, 0, none⟩ (.int .i64 q1)) := ⟨_, rfl⟩
  rw [← hZ]
  have KZ := Lib.hid (show Below w.heap.size w Z0 by rw [hZ]; exact (KY0.out.setCell ca.out _).setCell cb.out _)
  have AZ := Lib.hid (show Z0.heap[ga]? = some (nB p1 0 0) by rw [hZ]; exact (oth n4).trans (nB_set0 _ AY0.out))
  have BZ := Lib.hid (show Z0.heap[gb]? = some (nB q1 0 0) by rw [hZ]; exact nB_set0 _ ((oth n4').trans BY0.out))
  have SZ := Lib.hid (show Z0.heap[gs]? = some (nB 0 0 0) by rw [hZ]; exact (oth n6').trans ((oth n5').trans SY0.out))
  have XZ := Lib.hid (show Z0.heap[gx]? = some (sxB l m n l' m' n') by rw [hZ]; exact (oth n2).trans ((oth n1).trans XY0.out))
  have TZ := Lib.hid (show Z0.heap[gt]? = some (tB t1 t2 t3) by rw [hZ]; exact (oth n8).trans ((oth n7).trans TY0.out))
  clear hZ x0 x1 x2 x3 x4 x5 a0 a1 a2 b0 b1 b2 fa fb KY0 AY0 BY0 SY0 XY0 TY0
  obtain ⟨a0, a1, a2⟩ := nB_cell AZ.out
  obtain ⟨b0, b1, b2⟩ := nB_cell BZ.out
  obtain ⟨d0, d1, d2⟩ := nB_cell SZ.out
  have fs := nB_free SZ.out 0
  go_still_tail 9, (by kernel_rfl)
  change wpList _ _ _ _ _ Z0.drew
  go_wp2
  obtain ⟨Y1, hY⟩ : ∃ Y, Y = World.drew (Z0.setCell ⟨gs, 0, none⟩ (.int .i64 s1)) := ⟨_, rfl⟩
  rw [← hY]
  have KY1 := Lib.hid (show Below w.heap.size w Y1 by rw [hY]; exact (KZ.out.setCell cs.out _).drew)
  have AY1 := Lib.hid (show Y1.heap[ga]? = some (nB p1 0 0) by rw [hY]; exact (oth (w := Z0) n5).trans AZ.out)
  have BY1 := Lib.hid (show Y1.heap[gb]? = some (nB q1 0 0) by rw [hY]; exact (oth (w := Z0) n6).trans BZ.out)
  have SY1 := Lib.hid (show Y1.heap[gs]? = some (nB s1 0 0) by rw [hY]; exact nB_set0 (w := Z0) _ SZ.out)
  have XY1 := Lib.hid (show Y1.heap[gx]? = some (sxB l m n l' m' n') by rw [hY]; exact (oth (w := Z0) n3).trans XZ.out)
  have TY1 := Lib.hid (show Y1.heap[gt]? = some (tB t1 t2 t3) by rw [hY]; exact (oth (w := Z0) n9).trans TZ.out)
  clear hY a0 a1 a2 b0 b1 b2 d0 d1 d2 fs KZ AZ BZ SZ XZ TZ
  rw [rounds_succ]
  obtain ⟨x0, x1, x2, x3, x4, x5⟩ := sxB_cell XY1.out
  obtain ⟨a0, a1, a2⟩ := nB_cell AY1.out
  obtain ⟨b0, b1, b2⟩ := nB_cell BY1.out
  have fa := nB_free AY1.out 1
  have fb := nB_free BY1.out 1
  go_wp2_with fail
  obtain ⟨Z1, hZ⟩ : ∃ Z, Z = ((Y1.setCell ⟨ga, 1, none⟩ (.int .i64 p2)).setCell ⟨gb, 1, none⟩ (.int .i64 q2)) := ⟨_, rfl⟩
  rw [← hZ]
  have KZ := Lib.hid (show Below w.heap.size w Z1 by rw [hZ]; exact (KY1.out.setCell ca.out _).setCell cb.out _)
  have AZ := Lib.hid (show Z1.heap[ga]? = some (nB p1 p2 0) by rw [hZ]; exact (oth n4).trans (nB_set1 _ AY1.out))
  have BZ := Lib.hid (show Z1.heap[gb]? = some (nB q1 q2 0) by rw [hZ]; exact nB_set1 _ ((oth n4').trans BY1.out))
  have SZ := Lib.hid (show Z1.heap[gs]? = some (nB s1 0 0) by rw [hZ]; exact (oth n6').trans ((oth n5').trans SY1.out))
  have XZ := Lib.hid (show Z1.heap[gx]? = some (sxB l m n l' m' n') by rw [hZ]; exact (oth n2).trans ((oth n1).trans XY1.out))
  have TZ := Lib.hid (show Z1.heap[gt]? = some (tB t1 t2 t3) by rw [hZ]; exact (oth n8).trans ((oth n7).trans TY1.out))
  clear hZ x0 x1 x2 x3 x4 x5 a0 a1 a2 b0 b1 b2 fa fb KY1 AY1 BY1 SY1 XY1 TY1
  obtain ⟨a0, a1, a2⟩ := nB_cell AZ.out
  obtain ⟨b0, b1, b2⟩ := nB_cell BZ.out
  obtain ⟨d0, d1, d2⟩ := nB_cell SZ.out
  have fs := nB_free SZ.out 1
  go_still_tail 9, (by kernel_rfl)
  change wpList _ _ _ _ _ Z1.drew
  go_wp2
  obtain ⟨Y2, hY⟩ : ∃ Y, Y = World.drew (Z1.setCell ⟨gs, 1, none⟩ (.int .i64 s2)) := ⟨_, rfl⟩
  rw [← hY]
  have KY2 := Lib.hid (show Below w.heap.size w Y2 by rw [hY]; exact (KZ.out.setCell cs.out _).drew)
  have AY2 := Lib.hid (show Y2.heap[ga]? = some (nB p1 p2 0) by rw [hY]; exact (oth (w := Z1) n5).trans AZ.out)
  have BY2 := Lib.hid (show Y2.heap[gb]? = some (nB q1 q2 0) by rw [hY]; exact (oth (w := Z1) n6).trans BZ.out)
  have SY2 := Lib.hid (show Y2.heap[gs]? = some (nB s1 s2 0) by rw [hY]; exact nB_set1 (w := Z1) _ SZ.out)
  have XY2 := Lib.hid (show Y2.heap[gx]? = some (sxB l m n l' m' n') by rw [hY]; exact (oth (w := Z1) n3).trans XZ.out)
  have TY2 := Lib.hid (show Y2.heap[gt]? = some (tB t1 t2 t3) by rw [hY]; exact (oth (w := Z1) n9).trans TZ.out)
  clear hY a0 a1 a2 b0 b1 b2 d0 d1 d2 fs KZ AZ BZ SZ XZ TZ
  rw [rounds_succ]
  obtain ⟨x0, x1, x2, x3, x4, x5⟩ := sxB_cell XY2.out
  obtain ⟨a0, a1, a2⟩ := nB_cell AY2.out
  obtain ⟨b0, b1, b2⟩ := nB_cell BY2.out
  have fa := nB_free AY2.out 2
  have fb := nB_free BY2.out 2
  go_wp2_with fail
  obtain ⟨Z2, hZ⟩ : ∃ Z, Z = ((Y2.setCell ⟨ga, 2, none⟩ (.int .i64 p3)).setCell ⟨gb, 2, none⟩ (.int .i64 q3)) := ⟨_, rfl⟩
  rw [← hZ]
  have KZ := Lib.hid (show Below w.heap.size w Z2 by rw [hZ]; exact (KY2.out.setCell ca.out _).setCell cb.out _)
  have AZ := Lib.hid (show Z2.heap[ga]? = some (nB p1 p2 p3) by rw [hZ]; exact (oth n4).trans (nB_set2 _ AY2.out))
  have BZ := Lib.hid (show Z2.heap[gb]? = some (nB q1 q2 q3) by rw [hZ]; exact nB_set2 _ ((oth n4').trans BY2.out))
  have SZ := Lib.hid (show Z2.heap[gs]? = some (nB s1 s2 0) by rw [hZ]; exact (oth n6').trans ((oth n5').trans SY2.out))
  have XZ := Lib.hid (show Z2.heap[gx]? = some (sxB l m n l' m' n') by rw [hZ]; exact (oth n2).trans ((oth n1).trans XY2.out))
  have TZ := Lib.hid (show Z2.heap[gt]? = some (tB t1 t2 t3) by rw [hZ]; exact (oth n8).trans ((oth n7).trans TY2.out))
  clear hZ x0 x1 x2 x3 x4 x5 a0 a1 a2 b0 b1 b2 fa fb KY2 AY2 BY2 SY2 XY2 TY2
  obtain ⟨a0, a1, a2⟩ := nB_cell AZ.out
  obtain ⟨b0, b1, b2⟩ := nB_cell BZ.out
  obtain ⟨d0, d1, d2⟩ := nB_cell SZ.out
  have fs := nB_free SZ.out 2
  go_still_tail 9, (by kernel_rfl)
  change wpList _ _ _ _ _ Z2.drew
  go_wp2
  obtain ⟨Y3, hY⟩ : ∃ Y, Y = World.drew (Z2.setCell ⟨gs, 2, none⟩ (.int .i64 s3)) := ⟨_, rfl⟩
  rw [← hY]
  have KY3 := Lib.hid (show Below w.heap.size w Y3 by rw [hY]; exact (KZ.out.setCell cs.out _).drew)
  have AY3 := Lib.hid (show Y3.heap[ga]? = some (nB p1 p2 p3) by rw [hY]; exact (oth (w := Z2) n5).trans AZ.out)
  have BY3 := Lib.hid (show Y3.heap[gb]? = some (nB q1 q2 q3) by rw [hY]; exact (oth (w := Z2) n6).trans BZ.out)
  have SY3 := Lib.hid (show Y3.heap[gs]? = some (nB s1 s2 s3) by rw [hY]; exact nB_set2 (w := Z2) _ SZ.out)
  have XY3 := Lib.hid (show Y3.heap[gx]? = some (sxB l m n l' m' n') by rw [hY]; exact (oth (w := Z2) n3).trans XZ.out)
  have TY3 := Lib.hid (show Y3.heap[gt]? = some (tB t1 t2 t3) by rw [hY]; exact (oth (w := Z2) n9).trans TZ.out)
  clear hY a0 a1 a2 b0 b1 b2 d0 d1 d2 fs KZ AZ BZ SZ XZ TZ
  clear n1 n2 n3 n4 n5 n6 n7 n8 n9 n4' n5' n6' XY3
  rw [rounds_succ]
  go_wp2_with fail
  have g1 := fun x : Grow Y3 => nB_cell (nB_grow AY3.out x.below)
  have g2 := fun x : Grow Y3 => nB_cell (nB_grow BY3.out x.below)
  have g3 := fun x : Grow Y3 => nB_cell (nB_grow SY3.out x.below)
  have ne1 := Grow.ne Y3
  refine wp_region_grow (by kernel_rfl) (by kernel_rfl) ?_
  repeat (first | (refine quiet_loadT _ rfl rfl rfl TY3.out ?_; simp only [Act.put, List.setIfInBounds_toArray, List.set_cons_zero, List.set_cons_succ]) | (go_big_quiet_step (with_reducible first | exact Grow.calls (V0.out _) | exact Grow.calls (V1.out _) | exact Grow.calls (V2.out _))))
  refine wpQuiet_nil ?_
  rintro _ ⟨x, rfl⟩
  have K1 := Lib.hid (bstep KY3.out KY3.out.size x.below)
  have T1 := Lib.hid (tB_grow TY3.out x.below)
  generalize x.w = v1 at *
  clear g1 g2 g3 ne1 x KY3 TY3 AY3 BY3 SY3 V0 V1 V2 e8 e9
  go_wp2_with (refine wp_loadT _ rfl rfl rfl T1.out ?_)
  with_reducible refine (A.out _).mono ?_
  rintro e v2 ⟨rfl, hb⟩
  have K2 := Lib.hid (bstep K1.out K1.out.size hb)
  have T2 := Lib.hid (tB_grow T1.out hb)
  clear hb K1 T1
  by_cases z1 : 1073741824 ≤ s
  · rcases HD.out with rfl | rfl
    all_goals
      go_wp2
      go_ret
      exact ⟨by simp, K2.out⟩
  · obtain ⟨C1, C2⟩ := C.out (by omega)
    clear C
    have g1 := fun x : Grow v2 => tB_cell (tB_grow T2.out x.below)
    have ne1 := Grow.ne v2
    rcases HD.out with rfl | rfl
    all_goals
      go_wp2_with fail
      refine wp_region_grow (by kernel_rfl) (by kernel_rfl) ?_
      repeat (first | (refine quiet_loadT _ rfl rfl rfl T2.out ?_; simp only [Act.put, List.setIfInBounds_toArray, List.set_cons_zero, List.set_cons_succ]) | (go_big_quiet_step (with_reducible first | exact Grow.calls (C1.out _) | exact Grow.calls (C2.out _))))
      refine wpQuiet_nil ?_
      rintro _ ⟨x, rfl⟩
      go_wp2
      go_ret
      exact ⟨by simp, bstep K2.out K2.out.size x.below⟩
end Go.Proofs.Ytiijpehchifheaa
