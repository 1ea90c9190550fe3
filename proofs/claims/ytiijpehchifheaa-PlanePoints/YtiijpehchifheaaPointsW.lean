/-
  PlanePoints' walk.
-/
import Derived.Test.YtiijpehchifheaaPure
import Derived.Test.YtiijpehchifheaaTw
namespace Go.Proofs.Ytiijpehchifheaa
open Go.RowKit
attribute [local go_sem ↓] Go.wp_at_zero Go.wp_at_succ
attribute [local go_sem high] run_min3 run_max3

set_option maxRecDepth 100000 in
set_option maxHeartbeats 4000000 in
theorem points_walk (a b c : P) (l m n e f : Int) (w : World) :
    Calls Try.prog 4 #[.agg #[.int .i64 a.x, .int .i64 a.y, .int .i64 a.z, .int .i64 a.a, .int .i64 a.b, .int .i64 a.c, .int .i64 a.d, .int .i64 b.x, .int .i64 b.y, .int .i64 b.z, .int .i64 b.a, .int .i64 b.b, .int .i64 b.c, .int .i64 b.d, .int .i64 c.x, .int .i64 c.y, .int .i64 c.z, .int .i64 c.a, .int .i64 c.b, .int .i64 c.c, .int .i64 c.d], .agg #[.int .i64 l, .int .i64 m, .int .i64 n], .agg #[.int .i64 e, .int .i64 f]] w fun e w' => e = .returned (.bool true) ∧ Below w.heap.size w w' := by
  have HS := Lib.hid shown_any
  have HT := Lib.hid (three_any a b c)
  obtain ⟨u1, h1⟩ : ∃ u, smallP a = u := ⟨_, rfl⟩
  obtain ⟨u2, h2⟩ : ∃ u, smallP b = u := ⟨_, rfl⟩
  obtain ⟨u3, h3⟩ : ∃ u, smallP c = u := ⟨_, rfl⟩
  rw [h1, h2, h3] at HT
  have g1 : u1.good := h1 ▸ smallP_good a
  have g2 : u2.good := h2 ▸ smallP_good b
  have g3 : u3.good := h3 ▸ smallP_good c
  clear h1 h2 h3
  have hx := tmod_bd e 16385 (by decide)
  have hy := tmod_bd f 16385 (by decide)
  obtain ⟨x, ex⟩ : ∃ x, e.tmod 16385 = x := ⟨_, rfl⟩
  obtain ⟨y, ey⟩ : ∃ y, f.tmod 16385 = y := ⟨_, rfl⟩
  rw [ex] at hx
  rw [ey] at hy
  replace hx : In14 x := by unfold In14; omega
  replace hy : In14 y := by unfold In14; omega
  have HN := Lib.hid (lawsmall_any l m n)
  have q1 := sm_bd l
  have q2 := sm_bd m
  have q3 := sm_bd n
  generalize sm l = k1 at *
  generalize sm m = k2 at *
  generalize sm n = k3 at *
  have r1 : Ask k1 := by unfold Ask; omega
  have r2 : Ask k2 := by unfold Ask; omega
  have r3 : Ask k3 := by unfold Ask; omega
  have HA := Lib.hid (rarea_any u1 u2 u3 g1.ok.sm g2.ok.sm g3.ok.sm)
  have HC0 := Lib.hid (fun (h : area u1 u2 u3 ≤ 0) => (⟨Lib.hid (at_any u1 u2 u3 k1 k2 k3 x y 0 g1.ok g2.ok g3.ok r1 r2 r3 hx hy (num_neg h)), Lib.hid (depth_any u1 u2 u3 3 4 0 g1.ok g2.ok g3.ok g1.z g2.z g3.z (by constructor <;> decide) (by constructor <;> decide) (by unfold dep; rw [if_pos h]))⟩ : Hid _ ∧ Hid _))
  have HC1 := Lib.hid (fun (h : 0 < area u1 u2 u3) => (⟨Lib.hid (at_any u1 u2 u3 k1 k2 k3 u1.x u1.y k1 g1.ok g2.ok g3.ok r1 r2 r3 g1.ok.x g1.ok.y (num_at1 h _ _ _)), Lib.hid (at_any u1 u2 u3 k1 k2 k3 u2.x u2.y k2 g1.ok g2.ok g3.ok r1 r2 r3 g2.ok.x g2.ok.y (num_at2 h _ _ _)),
    Lib.hid (at_any u1 u2 u3 k1 k2 k3 u3.x u3.y k3 g1.ok g2.ok g3.ok r1 r2 r3 g3.ok.x g3.ok.y (num_at3 h _ _ _)), Lib.hid (at_any u1 u2 u3 k1 k1 k1 x y k1 g1.ok g2.ok g3.ok r1 r1 r1 hx hy (num_same h _ _ _))⟩ : Hid _ ∧ Hid _ ∧ Hid _ ∧ Hid _))
  have HM := Lib.hid (show area u1 u2 u3 ≤ 0 ∨ (¬ area u1 u2 u3 ≤ 0 ∧ 0 < area u1 u2 u3) by omega)
  generalize area u1 u2 u3 = s at *
  clear g1 g2 g3 hx hy q1 q2 q3 r1 r2 r3
  have v1 : IntKind.i64.wrap 1 = 1 := by decide
  have v2 : IntKind.i64.wrap 2 = 2 := by decide
  have v3 : IntKind.i64.wrap 3 = 3 := by decide
  go_enter Try.func4, Try.ntmps4
  go_wp2_with fail
  obtain ⟨w0, hX⟩ : ∃ X, X = (((w.alloc (Obj.cells #[.int .i64 a.x, .int .i64 a.y, .int .i64 a.z, .int .i64 a.a, .int .i64 a.b, .int .i64 a.c, .int .i64 a.d, .int .i64 b.x, .int .i64 b.y, .int .i64 b.z, .int .i64 b.a, .int .i64 b.b, .int .i64 b.c, .int .i64 b.d, .int .i64 c.x, .int .i64 c.y, .int .i64 c.z, .int .i64 c.a, .int .i64 c.b, .int .i64 c.c, .int .i64 c.d] 25)).alloc (Obj.cells #[.int .i64 l, .int .i64 m, .int .i64 n] 26)).alloc (Obj.cells #[.int .i64 e, .int .i64 f] 27)) := ⟨_, rfl⟩
  rw [← hX]
  have K0 := Lib.hid (show Below w.heap.size w w0 by rw [hX]; exact ((((Below.refl w.heap.size w).alloc (Nat.le_refl _) _).alloc (by simp) _).alloc (by simp; omega) _))
  have T0 := Lib.hid (show w0.heap[w.heap.size]? = some (tB a b c) by rw [hX]; exact tB_alloc _ (tB_alloc _ (new_at rfl)))
  have N0 := Lib.hid (show w0.heap[w.heap.size + 1]? = some (nB l m n) by rw [hX]; exact nB_alloc _ (new_at (by simp)))
  have E0 := Lib.hid (show w0.heap[w.heap.size + 2]? = some (twB e f) by rw [hX]; exact new_at (by simp))
  clear hX
  with_reducible refine (HS.out _).mono ?_
  rintro e w1 ⟨rfl, hb⟩
  have K1 := Lib.hid (bstep K0.out K0.out.size hb)
  have T1 := Lib.hid (show w1.heap[w.heap.size]? = some (tB a b c) from tB_grow T0.out hb)
  have N1 := Lib.hid (show w1.heap[w.heap.size + 1]? = some (nB l m n) from nB_grow N0.out hb)
  have E1 := Lib.hid (show w1.heap[w.heap.size + 2]? = some (twB e f) from twB_grow E0.out hb)
  clear T0 N0 E0
  clear hb
  go_wp2_with (first | (refine wp_loadT _ rfl rfl rfl T1.out ?_))
  with_reducible refine (HT.out _).mono ?_
  rintro e w2 ⟨rfl, hb⟩
  have K2 := Lib.hid (bstep K1.out K1.out.size hb)
  have T2 := Lib.hid (show w2.heap[w.heap.size]? = some (tB a b c) from tB_grow T1.out hb)
  have N2 := Lib.hid (show w2.heap[w.heap.size + 1]? = some (nB l m n) from nB_grow N1.out hb)
  have E2 := Lib.hid (show w2.heap[w.heap.size + 2]? = some (twB e f) from twB_grow E1.out hb)
  clear T1 N1 E1
  clear hb
  clear T2
  obtain ⟨cN0, cN1, cN2⟩ := nB_cell N2.out
  have lN := nB_lt N2.out
  go_wp2_with (first | (refine wp_newT (a := u1) (b := u2) (c := u3) _ rfl rfl rfl rfl rfl rfl rfl rfl ?_))
  with_reducible refine (HN.out _).mono ?_
  rintro e w3 ⟨rfl, hb⟩
  have K3 := Lib.hid (bstep (K2.out.alloc K2.out.size _) (by have := K2.out.size; simp; omega) hb)
  have N3 := Lib.hid (show w3.heap[w.heap.size + 1]? = some (nB l m n) from nB_grow (nB_alloc _ N2.out) hb)
  have E3 := Lib.hid (show w3.heap[w.heap.size + 2]? = some (twB e f) from twB_grow (twB_alloc _ E2.out) hb)
  clear N2 E2
  have T3 := Lib.hid (show w3.heap[w2.heap.size]? = some (tB u1 u2 u3) from tB_grow (new_at rfl) hb)
  clear cN0 cN1 cN2 lN
  clear hb
  clear N3
  obtain ⟨cE0, cE1⟩ := twB_cell E3.out
  have lE := twB_lt E3.out
  go_wp2_with (first | (refine wp_loadT _ rfl rfl rfl (tB_alloc _ T3.out) ?_))
  with_reducible refine (HA.out _).mono ?_
  rintro e w4 ⟨rfl, hb⟩
  have K4 := Lib.hid (bstep (K3.out.alloc K3.out.size _) (by have := K3.out.size; simp; omega) hb)
  have E4 := Lib.hid (show w4.heap[w.heap.size + 2]? = some (twB e f) from twB_grow (twB_alloc _ E3.out) hb)
  have T4 := Lib.hid (show w4.heap[w2.heap.size]? = some (tB u1 u2 u3) from tB_grow (tB_alloc _ T3.out) hb)
  clear E3 T3
  have N4 := Lib.hid (show w4.heap[w3.heap.size]? = some (nB k1 k2 k3) from nB_grow (new_at rfl) hb)
  clear cE0 cE1 lE
  clear hb
  clear E4
  rcases HM.out with z1 | ⟨z1, z2⟩
  · obtain ⟨V, D⟩ := HC0.out z1
    obtain ⟨cN0, cN1, cN2⟩ := nB_cell N4.out
    have lN := nB_lt N4.out
    go_wp2_with (first | (refine wp_loadT _ rfl rfl rfl T4.out ?_))
    with_reducible refine (V.out _).mono ?_
    rintro e w5 ⟨rfl, hb⟩
    have K5 := Lib.hid (bstep K4.out K4.out.size hb)
    have T5 := Lib.hid (show w5.heap[w2.heap.size]? = some (tB u1 u2 u3) from tB_grow T4.out hb)
    have N5 := Lib.hid (show w5.heap[w3.heap.size]? = some (nB k1 k2 k3) from nB_grow N4.out hb)
    clear T4 N4
    clear cN0 cN1 cN2 lN
    clear hb
    clear N5
    go_wp2_with (first | (refine wp_loadT _ rfl rfl rfl T5.out ?_))
    with_reducible refine (D.out _).mono ?_
    rintro e w6 ⟨rfl, hb⟩
    have K6 := Lib.hid (bstep K5.out K5.out.size hb)
    have T6 := Lib.hid (show w6.heap[w2.heap.size]? = some (tB u1 u2 u3) from tB_grow T5.out hb)
    clear T5
    clear hb
    go_wp2
    go_ret
    exact ⟨rfl, K6.out⟩
  · obtain ⟨V1, V2, V3, V4⟩ := HC1.out z2
    go_wp2
    refine wp_loop_rounds 4 ?_
    rw [rounds_succ]
    go_wp2_with fail
    have g1 := fun x : Grow w4 => tB_cell (tB_grow T4.out x.below)
    have g2 := fun x : Grow w4 => nB_cell (nB_grow N4.out x.below)
    have ne1 := Grow.ne w4
    refine wp_region_grow (by kernel_rfl) (by kernel_rfl) ?_
    repeat (first | (refine quiet_loadT _ rfl rfl rfl T4.out ?_; simp only [Act.put, List.setIfInBounds_toArray, List.set_cons_zero, List.set_cons_succ]) | (go_big_quiet_step (with_reducible exact Grow.calls (V1.out _))))
    refine wpQuiet_nil ?_
    rintro _ ⟨x, rfl⟩
    have K5 := Lib.hid (bstep K4.out K4.out.size x.below)
    have T5 := Lib.hid (tB_grow T4.out x.below)
    have N5 := Lib.hid (nB_grow N4.out x.below)
    generalize x.w = w5 at *
    clear g1 g2 ne1 x K4 T4 N4
    go_wp2
    rw [rounds_succ]
    go_wp2_with fail
    have g1 := fun x : Grow w5 => tB_cell (tB_grow T5.out x.below)
    have g2 := fun x : Grow w5 => nB_cell (nB_grow N5.out x.below)
    have ne1 := Grow.ne w5
    refine wp_region_grow (by kernel_rfl) (by kernel_rfl) ?_
    repeat (first | (refine quiet_loadT _ rfl rfl rfl T5.out ?_; simp only [Act.put, List.setIfInBounds_toArray, List.set_cons_zero, List.set_cons_succ]) | (go_big_quiet_step (with_reducible exact Grow.calls (V2.out _))))
    refine wpQuiet_nil ?_
    rintro _ ⟨x, rfl⟩
    have K6 := Lib.hid (bstep K5.out K5.out.size x.below)
    have T6 := Lib.hid (tB_grow T5.out x.below)
    have N6 := Lib.hid (nB_grow N5.out x.below)
    generalize x.w = w6 at *
    clear g1 g2 ne1 x K5 T5 N5
    go_wp2
    rw [rounds_succ]
    go_wp2_with fail
    have g1 := fun x : Grow w6 => tB_cell (tB_grow T6.out x.below)
    have g2 := fun x : Grow w6 => nB_cell (nB_grow N6.out x.below)
    have ne1 := Grow.ne w6
    refine wp_region_grow (by kernel_rfl) (by kernel_rfl) ?_
    repeat (first | (refine quiet_loadT _ rfl rfl rfl T6.out ?_; simp only [Act.put, List.setIfInBounds_toArray, List.set_cons_zero, List.set_cons_succ]) | (go_big_quiet_step (with_reducible exact Grow.calls (V3.out _))))
    refine wpQuiet_nil ?_
    rintro _ ⟨x, rfl⟩
    have K7 := Lib.hid (bstep K6.out K6.out.size x.below)
    have T7 := Lib.hid (tB_grow T6.out x.below)
    have N7 := Lib.hid (nB_grow N6.out x.below)
    generalize x.w = w7 at *
    clear g1 g2 ne1 x K6 T6 N6
    go_wp2
    rw [rounds_succ]
    go_wp2_with fail
    have g1 := fun x : Grow w7 => tB_cell (tB_grow T7.out x.below)
    have g2 := fun x : Grow w7 => nB_cell (nB_grow N7.out x.below)
    have ne1 := Grow.ne w7
    refine wp_region_grow (by kernel_rfl) (by kernel_rfl) ?_
    repeat (first | (refine quiet_loadT _ rfl rfl rfl T7.out ?_; simp only [Act.put, List.setIfInBounds_toArray, List.set_cons_zero, List.set_cons_succ]) | (go_big_quiet_step (with_reducible exact Grow.calls (V4.out _))))
    refine wpQuiet_nil ?_
    rintro _ ⟨x, rfl⟩
    go_wp2
    go_ret
    exact ⟨by simp, bstep K7.out K7.out.size x.below⟩
end Go.Proofs.Ytiijpehchifheaa
