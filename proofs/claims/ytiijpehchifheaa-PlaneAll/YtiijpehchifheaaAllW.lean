/-
  PlaneAll's walk.
-/
import Derived.Test.YtiijpehchifheaaRAttrs
import Derived.Test.YtiijpehchifheaaTw
import Derived.Test.YtiijpehchifheaaEq4
namespace Go.Proofs.Ytiijpehchifheaa
open Go.RowKit
attribute [local go_sem ↓] Go.wp_at_zero Go.wp_at_succ
attribute [local go_sem high] eqlAA
attribute [local go_sem] guardA sameA_self

theorem smallP_z (v : P) : -1073741824 ≤ (smallP v).z ∧ (smallP v).z ≤ 1073741824 := by
  have h := tmod_bd v.z 1073741825 (by decide)
  simp only [smallP]
  omega
theorem smallP_at30 (v : P) : (smallP v).at30 := by
  have ha := tmod_bd v.a 4097 (by decide)
  have hb := tmod_bd v.b 4097 (by decide)
  have hc := tmod_bd v.c 4097 (by decide)
  have hd := tmod_bd v.d 4097 (by decide)
  refine ⟨?_, ?_, ?_, ?_⟩ <;> simp only [smallP] <;> omega

set_option maxRecDepth 100000 in
set_option maxHeartbeats 4000000 in
theorem all_walk (a b c : P) (l m n e f : Int) (w : World) :
    Calls Try.prog 3 #[.agg #[.int .i64 a.x, .int .i64 a.y, .int .i64 a.z, .int .i64 a.a, .int .i64 a.b, .int .i64 a.c, .int .i64 a.d, .int .i64 b.x, .int .i64 b.y, .int .i64 b.z, .int .i64 b.a, .int .i64 b.b, .int .i64 b.c, .int .i64 b.d, .int .i64 c.x, .int .i64 c.y, .int .i64 c.z, .int .i64 c.a, .int .i64 c.b, .int .i64 c.c, .int .i64 c.d], .agg #[.int .i64 l, .int .i64 m, .int .i64 n], .agg #[.int .i64 e, .int .i64 f]] w fun e w' => e = .returned (.bool true) ∧ Below w.heap.size w w' := by
  have HS := Lib.hid shown_any
  have HT := Lib.hid (three_any a b c)
  obtain ⟨u1, h1⟩ : ∃ u, smallP a = u := ⟨_, rfl⟩
  obtain ⟨u2, h2⟩ : ∃ u, smallP b = u := ⟨_, rfl⟩
  obtain ⟨u3, h3⟩ : ∃ u, smallP c = u := ⟨_, rfl⟩
  rw [h1, h2, h3] at HT
  have g1 : u1.good := h1 ▸ smallP_good a
  have g2 : u2.good := h2 ▸ smallP_good b
  have g3 : u3.good := h3 ▸ smallP_good c
  have i1 := smallP_z a
  have i2 := smallP_z b
  have i3 := smallP_z c
  have j1 := smallP_at30 a
  have j2 := smallP_at30 b
  have j3 := smallP_at30 c
  rw [h1] at i1 j1
  rw [h2] at i2 j2
  rw [h3] at i3 j3
  clear h1 h2 h3
  have hx := tmod_bd e 16385 (by decide)
  have hy := tmod_bd f 16385 (by decide)
  obtain ⟨x, ex⟩ : ∃ x, e.tmod 16385 = x := ⟨_, rfl⟩
  obtain ⟨y, ey⟩ : ∃ y, f.tmod 16385 = y := ⟨_, rfl⟩
  rw [ex] at hx
  rw [ey] at hy
  replace hx : In14 x := by unfold In14; omega
  replace hy : In14 y := by unfold In14; omega
  have HN := Lib.hid (lawsmall_any l m n)
  have q1 := sm_bd l
  have q2 := sm_bd m
  have q3 := sm_bd n
  generalize sm l = k1 at *
  generalize sm m = k2 at *
  generalize sm n = k3 at *
  have r1 : Ask k1 := by unfold Ask; omega
  have r2 : Ask k2 := by unfold Ask; omega
  have r3 : Ask k3 := by unfold Ask; omega
  have hp0 := tmod_bd x 513 (by decide)
  have hq0 := tmod_bd y 513 (by decide)
  obtain ⟨px, ep⟩ : ∃ p, x.tmod 513 = p := ⟨_, rfl⟩
  obtain ⟨py, eq⟩ : ∃ p, y.tmod 513 = p := ⟨_, rfl⟩
  rw [ep] at hp0
  rw [eq] at hq0
  replace hp0 : Pxl px := by unfold Pxl; omega
  replace hq0 : Pxl py := by unfold Pxl; omega
  obtain ⟨v, hv⟩ : ∃ v, num u1 u2 u3 k1 k2 k3 x y = v := ⟨_, rfl⟩
  obtain ⟨d, hd⟩ : ∃ d, dep u1 u2 u3 px py = d := ⟨_, rfl⟩
  obtain ⟨p, hp⟩ : ∃ p, num u1 u2 u3 u1.a u2.a u3.a (16 * px + 8) (16 * py + 8) = p := ⟨_, rfl⟩
  obtain ⟨q, hq⟩ : ∃ p, num u1 u2 u3 u1.b u2.b u3.b (16 * px + 8) (16 * py + 8) = p := ⟨_, rfl⟩
  obtain ⟨r, hr⟩ : ∃ p, num u1 u2 u3 u1.c u2.c u3.c (16 * px + 8) (16 * py + 8) = p := ⟨_, rfl⟩
  obtain ⟨s, hs⟩ : ∃ p, num u1 u2 u3 u1.d u2.d u3.d (16 * px + 8) (16 * py + 8) = p := ⟨_, rfl⟩
  have V0 := Lib.hid (at_any u1 u2 u3 k1 k2 k3 x y v g1.ok g2.ok g3.ok r1 r2 r3 hx hy hv)
  have V1 := Lib.hid (rat_any u1 u2 u3 k1 k2 k3 x y v g1.ok g2.ok g3.ok q1 q2 q3 hx hy hv)
  have D0 := Lib.hid (depth_any u1 u2 u3 px py d g1.ok g2.ok g3.ok g1.z g2.z g3.z hp0 hq0 hd)
  have D1 := Lib.hid (rdepth_any u1 u2 u3 px py d g1.ok g2.ok g3.ok i1 i2 i3 hp0 hq0 hd)
  have A0 := Lib.hid (attrs_any u1 u2 u3 px py p q r s g1.ok g2.ok g3.ok g1.att g2.att g3.att hp0 hq0 hp hq hr hs)
  have A1 := Lib.hid (rattrs_any u1 u2 u3 px py p q r s g1.ok g2.ok g3.ok j1 j2 j3 hp0 hq0 hp hq hr hs)
  clear g1 g2 g3 i1 i2 i3 j1 j2 j3 hx hy hp0 hq0 hv hd hp hq hr hs q1 q2 q3 r1 r2 r3
  go_enter Try.func3, Try.ntmps3
  go_wp2_with fail
  obtain ⟨w0, hX⟩ : ∃ X, X = (((w.alloc (Obj.cells #[.int .i64 a.x, .int .i64 a.y, .int .i64 a.z, .int .i64 a.a, .int .i64 a.b, .int .i64 a.c, .int .i64 a.d, .int .i64 b.x, .int .i64 b.y, .int .i64 b.z, .int .i64 b.a, .int .i64 b.b, .int .i64 b.c, .int .i64 b.d, .int .i64 c.x, .int .i64 c.y, .int .i64 c.z, .int .i64 c.a, .int .i64 c.b, .int .i64 c.c, .int .i64 c.d] 25)).alloc (Obj.cells #[.int .i64 l, .int .i64 m, .int .i64 n] 26)).alloc (Obj.cells #[.int .i64 e, .int .i64 f] 27)) := ⟨_, rfl⟩
  rw [← hX]
  have K0 := Lib.hid (show Below w.heap.size w w0 by rw [hX]; exact ((((Below.refl w.heap.size w).alloc (Nat.le_refl _) _).alloc (by simp) _).alloc (by simp; omega) _))
  have T0 := Lib.hid (show w0.heap[w.heap.size]? = some (tB a b c) by rw [hX]; exact tB_alloc _ (tB_alloc _ (new_at rfl)))
  have N0 := Lib.hid (show w0.heap[w.heap.size + 1]? = some (nB l m n) by rw [hX]; exact nB_alloc _ (new_at (by simp)))
  have E0 := Lib.hid (show w0.heap[w.heap.size + 2]? = some (twB e f) by rw [hX]; exact new_at (by simp))
  clear hX
  with_reducible refine (HS.out _).mono ?_
  rintro e w1 ⟨rfl, hb⟩
  have K1 := Lib.hid (bstep K0.out K0.out.size hb)
  have T1 := Lib.hid (show w1.heap[w.heap.size]? = some (tB a b c) from tB_grow T0.out hb)
  have N1 := Lib.hid (show w1.heap[w.heap.size + 1]? = some (nB l m n) from nB_grow N0.out hb)
  have E1 := Lib.hid (show w1.heap[w.heap.size + 2]? = some (twB e f) from twB_grow E0.out hb)
  clear T0 N0 E0
  clear hb
  go_wp2_with (first | (refine wp_loadT _ rfl rfl rfl T1.out ?_))
  with_reducible refine (HT.out _).mono ?_
  rintro e w2 ⟨rfl, hb⟩
  have K2 := Lib.hid (bstep K1.out K1.out.size hb)
  have T2 := Lib.hid (show w2.heap[w.heap.size]? = some (tB a b c) from tB_grow T1.out hb)
  have N2 := Lib.hid (show w2.heap[w.heap.size + 1]? = some (nB l m n) from nB_grow N1.out hb)
  have E2 := Lib.hid (show w2.heap[w.heap.size + 2]? = some (twB e f) from twB_grow E1.out hb)
  clear T1 N1 E1
  clear hb
  clear T2
  obtain ⟨cN0, cN1, cN2⟩ := nB_cell N2.out
  have lN := nB_lt N2.out
  go_wp2_with (first | (refine wp_newT (a := u1) (b := u2) (c := u3) _ rfl rfl rfl rfl rfl rfl rfl rfl ?_))
  with_reducible refine (HN.out _).mono ?_
  rintro e w3 ⟨rfl, hb⟩
  have K3 := Lib.hid (bstep (K2.out.alloc K2.out.size _) (by have := K2.out.size; simp; omega) hb)
  have N3 := Lib.hid (show w3.heap[w.heap.size + 1]? = some (nB l m n) from nB_grow (nB_alloc _ N2.out) hb)
  have E3 := Lib.hid (show w3.heap[w.heap.size + 2]? = some (twB e f) from twB_grow (twB_alloc _ E2.out) hb)
  clear N2 E2
  have T3 := Lib.hid (show w3.heap[w2.heap.size]? = some (tB u1 u2 u3) from tB_grow (new_at rfl) hb)
  clear cN0 cN1 cN2 lN
  clear hb
  clear N3
  obtain ⟨cE0, cE1⟩ := twB_cell E3.out
  have lE := twB_lt E3.out
  go_wp2_with fail
  obtain ⟨Y, hY⟩ : ∃ Y, Y = w3.alloc (Obj.cells #[.int .i64 k1, .int .i64 k2, .int .i64 k3] 26) := ⟨_, rfl⟩
  rw [← hY]
  have KY := Lib.hid (show Below w.heap.size w Y by rw [hY]; exact K3.out.alloc K3.out.size _)
  have TY := Lib.hid (show Y.heap[w2.heap.size]? = some (tB u1 u2 u3) by rw [hY]; exact tB_alloc _ T3.out)
  have NY := Lib.hid (show Y.heap[w3.heap.size]? = some (nB k1 k2 k3) by rw [hY]; exact new_at rfl)
  clear cE0 cE1 lE
  clear hY K3 T3 E3
  have g1 := fun x : Grow Y => nB_cell (nB_grow NY.out x.below)
  have ne1 := Grow.ne Y
  try simp only [List.append]
  refine wp_region_grow (by kernel_rfl) (by kernel_rfl) ?_
  repeat (first | (refine quiet_loadT _ rfl rfl rfl TY.out ?_; simp only [Act.put, List.setIfInBounds_toArray, List.set_cons_zero, List.set_cons_succ]) | (go_big_quiet_step (with_reducible first | exact Grow.calls (V0.out _) | exact Grow.calls (V1.out _) | exact Grow.calls (D0.out _) | exact Grow.calls (D1.out _) | exact Grow.calls (A0.out _) | exact Grow.calls (A1.out _))))
  refine wpQuiet_nil ?_
  rintro _ ⟨x, rfl⟩
  go_wp2
  go_ret
  exact ⟨by simp, bstep KY.out KY.out.size x.below⟩
end Go.Proofs.Ytiijpehchifheaa
