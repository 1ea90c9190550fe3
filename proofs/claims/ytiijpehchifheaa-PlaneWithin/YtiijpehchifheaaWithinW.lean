/-
  PlaneWithin's walk.
-/
import Derived.Test.YtiijpehchifheaaPure
import Derived.Test.YtiijpehchifheaaRIn
import Derived.Test.YtiijpehchifheaaTw
namespace Go.Proofs.Ytiijpehchifheaa
open Go.RowKit
attribute [local go_sem ↓] Go.wp_at_zero Go.wp_at_succ
attribute [local go_sem high] run_min3 run_max3

set_option maxRecDepth 100000 in
set_option maxHeartbeats 4000000 in
theorem within_walk (a b c : P) (l m n e f : Int) (w : World) :
    Calls Try.prog 5 #[.agg #[.int .i64 a.x, .int .i64 a.y, .int .i64 a.z, .int .i64 a.a, .int .i64 a.b, .int .i64 a.c, .int .i64 a.d, .int .i64 b.x, .int .i64 b.y, .int .i64 b.z, .int .i64 b.a, .int .i64 b.b, .int .i64 b.c, .int .i64 b.d, .int .i64 c.x, .int .i64 c.y, .int .i64 c.z, .int .i64 c.a, .int .i64 c.b, .int .i64 c.c, .int .i64 c.d], .agg #[.int .i64 l, .int .i64 m, .int .i64 n], .agg #[.int .i64 e, .int .i64 f]] w fun e w' => e = .returned (.bool true) ∧ Below w.heap.size w w' := by
  have HS := Lib.hid shown_any
  have HT := Lib.hid (three_any a b c)
  obtain ⟨u1, h1⟩ : ∃ u, smallP a = u := ⟨_, rfl⟩
  obtain ⟨u2, h2⟩ : ∃ u, smallP b = u := ⟨_, rfl⟩
  obtain ⟨u3, h3⟩ : ∃ u, smallP c = u := ⟨_, rfl⟩
  rw [h1, h2, h3] at HT
  have g1 : u1.good := h1 ▸ smallP_good a
  have g2 : u2.good := h2 ▸ smallP_good b
  have g3 : u3.good := h3 ▸ smallP_good c
  have HR := Lib.hid (rturned_any u1 u2 u3 g1.ok.sm g2.ok.sm g3.ok.sm)
  have ha := @tr_area u1 u2 u3
  obtain ⟨o1, o2, o3⟩ := tr_good g1 g2 g3
  clear h1 h2 h3 g1 g2 g3
  generalize tr1 u1 u2 u3 = t1 at *
  generalize tr2 u1 u2 u3 = t2 at *
  generalize tr3 u1 u2 u3 = t3 at *
  generalize trO u1 u2 u3 = o at *
  have hx := tmod_bd e 16385 (by decide)
  have hy := tmod_bd f 16385 (by decide)
  obtain ⟨x, ex⟩ : ∃ x, e.tmod 16385 = x := ⟨_, rfl⟩
  obtain ⟨y, ey⟩ : ∃ y, f.tmod 16385 = y := ⟨_, rfl⟩
  rw [ex] at hx
  rw [ey] at hy
  replace hx : In14 x := by unfold In14; omega
  replace hy : In14 y := by unfold In14; omega
  have HN := Lib.hid (lawsmall_any l m n)
  have q1 := sm_bd l
  have q2 := sm_bd m
  have q3 := sm_bd n
  generalize sm l = k1 at *
  generalize sm m = k2 at *
  generalize sm n = k3 at *
  have r1 : Ask k1 := by unfold Ask; omega
  have r2 : Ask k2 := by unfold Ask; omega
  have r3 : Ask k3 := by unfold Ask; omega
  obtain ⟨i0, i1⟩ := hx
  obtain ⟨j0, j1⟩ := hy
  obtain ⟨v, hv⟩ : ∃ v, num t1 t2 t3 k1 k2 k3 x y = v := ⟨_, rfl⟩
  obtain ⟨r, hr⟩ : ∃ r, inn t1 t2 t3 x y = r := ⟨_, rfl⟩
  have b1 := num_bd o1.ok o2.ok o3.ok r1 r2 r3 ⟨i0, i1⟩ ⟨j0, j1⟩
  rw [hv] at b1
  have v1 : IntKind.i64.wrap (k1 + 1) = k1 + 1 := by rw [IntKind.wrap_i64]; omega
  have v2 : IntKind.i64.wrap (k2 + 1) = k2 + 1 := by rw [IntKind.wrap_i64]; omega
  have v3 : IntKind.i64.wrap (k3 + 1) = k3 + 1 := by rw [IntKind.wrap_i64]; omega
  have v4 : IntKind.i64.wrap (v + 1) = v + 1 := by rw [IntKind.wrap_i64]; omega
  have V := Lib.hid (at_any t1 t2 t3 k1 k2 k3 x y v o1.ok o2.ok o3.ok r1 r2 r3 ⟨i0, i1⟩ ⟨j0, j1⟩ hv)
  have M := fun (h : o = true) => Lib.hid (at_any t1 t2 t3 (k1 + 1) (k2 + 1) (k3 + 1) x y (v + 1) o1.ok o2.ok o3.ok (by unfold Ask; omega) (by unfold Ask; omega) (by unfold Ask; omega) ⟨i0, i1⟩ ⟨j0, j1⟩ (by rw [num_more (ha h), hv]))
  have I := Lib.hid (rin_any t1 t2 t3 x y o1.ok.sm o2.ok.sm o3.ok.sm (by omega) (by omega) (by omega) (by omega))
  rw [hr] at I
  have HW : o = true → r = true → min k1 (min k2 k3) ≤ v ∧ v ≤ max k1 (max k2 k3) := by
    intro h h'
    obtain ⟨c1, c2, c3⟩ := inn_crs (hr.trans h')
    rw [← hv]
    exact ⟨le_num (ha h) c1 c2 c3 (by omega) (by omega) (by omega), num_le (ha h) c1 c2 c3 (by omega) (by omega) (by omega)⟩
  have HC := Lib.hid (fun (h : o = true) => (⟨V, M h, I, Lib.hid True.intro, Lib.hid True.intro, Lib.hid (HW h)⟩ : Hid _ ∧ Hid _ ∧ Hid _ ∧ Hid True ∧ Hid True ∧ Hid _))
  clear V M I HW ha o1 o2 o3 r1 r2 r3 i0 i1 j0 j1 hv hr b1 q1 q2 q3
  go_enter Try.func5, Try.ntmps5
  go_wp2_with fail
  obtain ⟨w0, hX⟩ : ∃ X, X = (((w.alloc (Obj.cells #[.int .i64 a.x, .int .i64 a.y, .int .i64 a.z, .int .i64 a.a, .int .i64 a.b, .int .i64 a.c, .int .i64 a.d, .int .i64 b.x, .int .i64 b.y, .int .i64 b.z, .int .i64 b.a, .int .i64 b.b, .int .i64 b.c, .int .i64 b.d, .int .i64 c.x, .int .i64 c.y, .int .i64 c.z, .int .i64 c.a, .int .i64 c.b, .int .i64 c.c, .int .i64 c.d] 25)).alloc (Obj.cells #[.int .i64 l, .int .i64 m, .int .i64 n] 26)).alloc (Obj.cells #[.int .i64 e, .int .i64 f] 27)) := ⟨_, rfl⟩
  rw [← hX]
  have K0 := Lib.hid (show Below w.heap.size w w0 by rw [hX]; exact ((((Below.refl w.heap.size w).alloc (Nat.le_refl _) _).alloc (by simp) _).alloc (by simp; omega) _))
  have T0 := Lib.hid (show w0.heap[w.heap.size]? = some (tB a b c) by rw [hX]; exact tB_alloc _ (tB_alloc _ (new_at rfl)))
  have N0 := Lib.hid (show w0.heap[w.heap.size + 1]? = some (nB l m n) by rw [hX]; exact nB_alloc _ (new_at (by simp)))
  have E0 := Lib.hid (show w0.heap[w.heap.size + 2]? = some (twB e f) by rw [hX]; exact new_at (by simp))
  clear hX
  with_reducible refine (HS.out _).mono ?_
  rintro e w1 ⟨rfl, hb⟩
  have K1 := Lib.hid (bstep K0.out K0.out.size hb)
  have T1 := Lib.hid (show w1.heap[w.heap.size]? = some (tB a b c) from tB_grow T0.out hb)
  have N1 := Lib.hid (show w1.heap[w.heap.size + 1]? = some (nB l m n) from nB_grow N0.out hb)
  have E1 := Lib.hid (show w1.heap[w.heap.size + 2]? = some (twB e f) from twB_grow E0.out hb)
  clear T0 N0 E0
  clear hb
  go_wp2_with (first | (refine wp_loadT _ rfl rfl rfl T1.out ?_))
  with_reducible refine (HT.out _).mono ?_
  rintro e w2 ⟨rfl, hb⟩
  have K2 := Lib.hid (bstep K1.out K1.out.size hb)
  have T2 := Lib.hid (show w2.heap[w.heap.size]? = some (tB a b c) from tB_grow T1.out hb)
  have N2 := Lib.hid (show w2.heap[w.heap.size + 1]? = some (nB l m n) from nB_grow N1.out hb)
  have E2 := Lib.hid (show w2.heap[w.heap.size + 2]? = some (twB e f) from twB_grow E1.out hb)
  clear T1 N1 E1
  clear hb
  clear T2
  go_wp2_with fail
  with_reducible refine (HR.out _).mono ?_
  rintro e w3 ⟨rfl, hb⟩
  have K3 := Lib.hid (bstep K2.out K2.out.size hb)
  have N3 := Lib.hid (show w3.heap[w.heap.size + 1]? = some (nB l m n) from nB_grow N2.out hb)
  have E3 := Lib.hid (show w3.heap[w.heap.size + 2]? = some (twB e f) from twB_grow E2.out hb)
  clear N2 E2
  clear hb
  obtain ⟨cN0, cN1, cN2⟩ := nB_cell N3.out
  have lN := nB_lt N3.out
  go_wp2_with (first | (refine wp_newT (a := t1) (b := t2) (c := t3) _ rfl rfl rfl rfl rfl rfl rfl rfl ?_))
  with_reducible refine (HN.out _).mono ?_
  rintro e w4 ⟨rfl, hb⟩
  have K4 := Lib.hid (bstep (K3.out.alloc K3.out.size _) (by have := K3.out.size; simp; omega) hb)
  have N4 := Lib.hid (show w4.heap[w.heap.size + 1]? = some (nB l m n) from nB_grow (nB_alloc _ N3.out) hb)
  have E4 := Lib.hid (show w4.heap[w.heap.size + 2]? = some (twB e f) from twB_grow (twB_alloc _ E3.out) hb)
  clear N3 E3
  have T4 := Lib.hid (show w4.heap[w3.heap.size]? = some (tB t1 t2 t3) from tB_grow (new_at rfl) hb)
  clear cN0 cN1 cN2 lN
  clear hb
  clear N4
  obtain ⟨cE0, cE1⟩ := twB_cell E4.out
  have lE := twB_lt E4.out
  cases o
  · go_wp2
    go_ret
    exact ⟨rfl, (K4.out.alloc K4.out.size _)⟩
  obtain ⟨V, M, I, W1, W2, W3⟩ := HC.out rfl
  clear HC
  go_wp2_with (first | (refine wp_loadT _ rfl rfl rfl (tB_alloc _ T4.out) ?_))
  with_reducible refine (V.out _).mono ?_
  rintro e w5 ⟨rfl, hb⟩
  have K5 := Lib.hid (bstep (K4.out.alloc K4.out.size _) (by have := K4.out.size; simp; omega) hb)
  have E5 := Lib.hid (show w5.heap[w.heap.size + 2]? = some (twB e f) from twB_grow (twB_alloc _ E4.out) hb)
  have T5 := Lib.hid (show w5.heap[w3.heap.size]? = some (tB t1 t2 t3) from tB_grow (tB_alloc _ T4.out) hb)
  clear E4 T4
  have N5 := Lib.hid (show w5.heap[w4.heap.size]? = some (nB k1 k2 k3) from nB_grow (new_at rfl) hb)
  clear cE0 cE1 lE
  clear hb
  clear E5
  obtain ⟨cN0, cN1, cN2⟩ := nB_cell N5.out
  have lN := nB_lt N5.out
  go_wp2_with (first | (refine wp_loadT _ rfl rfl rfl T5.out ?_))
  with_reducible refine (M.out _).mono ?_
  rintro e w6 ⟨rfl, hb⟩
  have K6 := Lib.hid (bstep K5.out K5.out.size hb)
  have T6 := Lib.hid (show w6.heap[w3.heap.size]? = some (tB t1 t2 t3) from tB_grow T5.out hb)
  have N6 := Lib.hid (show w6.heap[w4.heap.size]? = some (nB k1 k2 k3) from nB_grow N5.out hb)
  clear T5 N5
  clear cN0 cN1 cN2 lN
  clear hb
  go_wp2_with (first | (refine wp_loadT _ rfl rfl rfl T6.out ?_))
  with_reducible refine (I.out _).mono ?_
  rintro e w7 ⟨rfl, hb⟩
  have K7 := Lib.hid (bstep K6.out K6.out.size hb)
  have T7 := Lib.hid (show w7.heap[w3.heap.size]? = some (tB t1 t2 t3) from tB_grow T6.out hb)
  have N7 := Lib.hid (show w7.heap[w4.heap.size]? = some (nB k1 k2 k3) from nB_grow N6.out hb)
  clear T6 N6
  clear hb
  obtain ⟨cN0, cN1, cN2⟩ := nB_cell N7.out
  have lN := nB_lt N7.out
  cases r
  · go_wp2
    go_ret
    exact ⟨by simp, K7.out⟩
  · have W4 := W3.out rfl
    obtain ⟨z1, z2⟩ := W4
    go_wp2
    go_ret
    exact ⟨by simp, K7.out⟩
end Go.Proofs.Ytiijpehchifheaa
