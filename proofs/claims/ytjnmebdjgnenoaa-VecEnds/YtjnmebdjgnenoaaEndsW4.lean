/-
  The walk of glazierlaw04.VecEnds, at plane 4.
-/
import Derived.Test.YtjnmebdjgnenoaaEndsW0
namespace Go.Proofs.Ytjnmebdjgnenoaa
open Go.RowKit
attribute [local go_sem ↓] Go.wp_at_zero Go.wp_at_succ
attribute [local go_sem high] eql36 eql24
attribute [local go_sem] guard36 guard24

set_option maxHeartbeats 8000000 in
theorem ends_walk4 (a b : V) (n : Int) (w : World) (n0 : 0 ≤ n) (n1 : n ≤ 255) (hp : n.tmod 5 = 4) :
    Calls Try.prog 6 #[.agg #[.int .i64 a.x, .int .i64 a.y, .int .i64 a.z, .int .i64 a.w, .int .i64 a.a, .int .i64 a.b, .int .i64 a.c, .int .i64 a.d, .int .i64 b.x, .int .i64 b.y, .int .i64 b.z, .int .i64 b.w, .int .i64 b.a, .int .i64 b.b, .int .i64 b.c, .int .i64 b.d], .int .u8 n] w fun e w' => e = .returned (.bool true) ∧ Below w.heap.size w w' := by
  have HS := Lib.hid shown_any
  have HFa := Lib.hid (fit_any a)
  have HFb := Lib.hid (fit_any b)
  obtain ⟨A, hA⟩ : ∃ f, fitV a = f := ⟨_, rfl⟩
  obtain ⟨B, hB⟩ : ∃ f, fitV b = f := ⟨_, rfl⟩
  rw [hA] at HFa
  rw [hB] at HFb
  have okA := Lib.hid (show A.ok by rw [← hA]; exact fitV_ok a)
  have okB := Lib.hid (show B.ok by rw [← hB]; exact fitV_ok b)
  clear hA hB
  have wn : IntKind.i64.wrap n = n := by rw [IntKind.wrap_i64]; omega
  go_enter Try.func6, Try.ntmps6
  go_wp2_with fail
  with_reducible refine (HS.out _).mono ?_
  rintro e w1 ⟨rfl, hb⟩
  have k1 := bstep ((Below.refl w.heap.size w).alloc (Nat.le_refl _) (Obj.cells #[.int .i64 a.x, .int .i64 a.y, .int .i64 a.z, .int .i64 a.w, .int .i64 a.a, .int .i64 a.b, .int .i64 a.c, .int .i64 a.d, .int .i64 b.x, .int .i64 b.y, .int .i64 b.z, .int .i64 b.w, .int .i64 b.a, .int .i64 b.b, .int .i64 b.c, .int .i64 b.d] 25)) (by simp) hb
  have L1 := Lib.hid (show w1.heap[w.heap.size]? = some (v2B a b) from v2B_grow (new_at rfl) hb)
  have K1 := Lib.hid k1
  clear hb k1
  obtain ⟨c0, c1, c2, c3, c4, c5, c6, c7, c8, c9, c10, c11, c12, c13, c14, c15⟩ := v2B_cell L1.out
  go_wp2_with fail
  with_reducible refine (HFa.out _).mono ?_
  rintro e w2 ⟨rfl, hb⟩
  have L2 := Lib.hid (v2B_grow L1.out hb)
  have l2 := v2B_lt L2.out
  have K2 := Lib.hid (bstep K1.out K1.out.size hb)
  clear hb L1 c0 c1 c2 c3 c4 c5 c6 c7 c8 c9 c10 c11 c12 c13 c14 c15
  obtain ⟨c0, c1, c2, c3, c4, c5, c6, c7, c8, c9, c10, c11, c12, c13, c14, c15⟩ := v2B_cell L2.out
  go_wp2_with fail
  with_reducible refine (HFb.out _).mono ?_
  rintro e w3 ⟨rfl, hb⟩
  have k3 := K2.out.alloc K2.out.size (vB 24 A)
  have A3 := Lib.hid (show w3.heap[w2.heap.size]? = some (vB 24 A) from vB_grow (new_at rfl) hb)
  have K3 := Lib.hid (bstep k3 k3.size hb)
  have l3 := vB_lt A3.out
  clear hb L2 k3 c0 c1 c2 c3 c4 c5 c6 c7 c8 c9 c10 c11 c12 c13 c14 c15
  obtain ⟨ax, ay, az, aw, aa, ab, ac, ad⟩ := okA.out
  have tx := tmod_bd A.x 100 (by decide)
  have ty := tmod_bd A.y 100 (by decide)
  have tw := tmod_bd A.w 100 (by decide)
  have tw0 : 0 ≤ A.w.tmod 100 := by rw [Int.tmod_eq_emod_of_nonneg (by omega)]; omega
  obtain ⟨x1, hx1⟩ : ∃ i, A.x.tmod 100 = i := ⟨_, rfl⟩
  obtain ⟨y1, hy1⟩ : ∃ i, A.y.tmod 100 = i := ⟨_, rfl⟩
  obtain ⟨t0, ht0⟩ : ∃ i, A.w.tmod 100 = i := ⟨_, rfl⟩
  rw [hx1] at tx
  rw [hy1] at ty
  rw [ht0] at tw tw0
  obtain ⟨t, ht⟩ : ∃ i, 1 + t0 = i := ⟨_, rfl⟩
  obtain ⟨z1, hz1⟩ : ∃ i, -t = i := ⟨_, rfl⟩
  obtain ⟨xm, hxm⟩ : ∃ i, -4 * t = i := ⟨_, rfl⟩
  obtain ⟨xp, hxp⟩ : ∃ i, 4 * t = i := ⟨_, rfl⟩
  have wt : IntKind.i64.wrap (1 + t0) = t := by rw [IntKind.wrap_i64]; omega
  have wz : IntKind.i64.wrap (-t) = z1 := by rw [IntKind.wrap_i64]; omega
  have wm : IntKind.i64.wrap (-4 * t) = xm := by rw [IntKind.wrap_i64]; omega
  have wm' : IntKind.i64.wrap (-(4 * t)) = xm := by rw [IntKind.wrap_i64]; omega
  have wp : IntKind.i64.wrap (4 * t) = xp := by rw [IntKind.wrap_i64]; omega
  have smC := Lib.hid (show (⟨x1, xp, z1, t, A.a, A.b, A.c, A.d⟩ : V).sm by constructor <;> simp only <;> omega)
  have dC := Lib.hid (show dist 4 (⟨x1, xp, z1, t, A.a, A.b, A.c, A.d⟩ : V) = 0 by simp only [dist]; (try simp only [Int.reduceEq, if_true, if_false]); omega)
  obtain ⟨E, hEE⟩ : ∃ E, dist 4 B = E := ⟨_, rfl⟩
  have dB := Lib.hid (show dist 4 ⟨B.x, B.y, B.z, B.w, B.a, B.b, B.c, B.d⟩ = E from hEE)
  have dD := Lib.hid (show dist 4 ⟨B.x, B.y, B.z, B.w, 0, 0, 0, 0⟩ = E from hEE)
  have smD := Lib.hid (show (⟨B.x, B.y, B.z, B.w, 0, 0, 0, 0⟩ : V).sm by
    obtain ⟨ox, oy, oz, ow, -, -, -, -⟩ := okB.out.sm
    exact ⟨ox, oy, oz, ow, by simp only; omega, by simp only; omega, by simp only; omega, by simp only; omega⟩)
  have CC := Lib.hid (dist8 4 x1 xp z1 t A.a A.b A.c A.d 0 smC.out dC.out)
  have CB := Lib.hid (dist8 4 B.x B.y B.z B.w B.a B.b B.c B.d E okB.out.sm dB.out)
  have B2 := Lib.hid (between_off B.x B.y B.z B.w B.a B.b B.c B.d x1 xp z1 t A.a A.b A.c A.d 4 E 0 okB.out.sm smC.out dB.out dC.out (by omega))
  have B3 := Lib.hid (between_off x1 xp z1 t A.a A.b A.c A.d B.x B.y B.z B.w B.a B.b B.c B.d 5 0 0 smC.out okB.out.sm rfl rfl (by omega))
  clear ht hz1 hxm hxp tx ty tw tw0 ax ay az aw aa ab ac ad hEE
  have hz : w.heap.size ≤ w2.heap.size := K2.out.size
  obtain ⟨c0, c1, c2, c3, c4, c5, c6, c7⟩ := vB_cell A3.out
  obtain ⟨f0, f1, f2, f3, f4, f5, f6, f7⟩ := vB_free A3.out
  go_upto_region 9 with fail
  obtain ⟨w4, h4⟩ : ∃ w4, w4 = ((((w3.setCell ⟨w2.heap.size, 0, none⟩ (.int .i64 x1)).setCell ⟨w2.heap.size, 1, none⟩ (.int .i64 y1)).setCell ⟨w2.heap.size, 3, none⟩ (.int .i64 t)).setCell ⟨w2.heap.size, 2, none⟩ (.int .i64 z1)).alloc (vB 24 B) := ⟨_, rfl⟩
  change Code.wp _ _ _ _ (((((w3.setCell ⟨w2.heap.size, 0, none⟩ (.int .i64 x1)).setCell ⟨w2.heap.size, 1, none⟩ (.int .i64 y1)).setCell ⟨w2.heap.size, 3, none⟩ (.int .i64 t)).setCell ⟨w2.heap.size, 2, none⟩ (.int .i64 z1)).alloc (vB 24 B))
  rw [← h4]
  have k3 := (Below.setCell (p := ⟨w2.heap.size, 2, none⟩) (Below.setCell (p := ⟨w2.heap.size, 3, none⟩) (Below.setCell (p := ⟨w2.heap.size, 1, none⟩) (Below.setCell (p := ⟨w2.heap.size, 0, none⟩) K3.out hz (.int .i64 x1)) hz (.int .i64 y1)) hz (.int .i64 t)) hz (.int .i64 z1))
  have K4 := Lib.hid (show Below w.heap.size w w4 by rw [h4]; exact k3.alloc k3.size (vB 24 B))
  have C4 := Lib.hid (show w4.heap[w2.heap.size]? = some (vB 24 (⟨x1, y1, z1, t, A.a, A.b, A.c, A.d⟩ : V)) by rw [h4]; exact vB_alloc (vB 24 B) (vB_set2 z1 (vB_set3 t (vB_set1 y1 (vB_set0 x1 A3.out)))))
  have B4 := Lib.hid (show w4.heap[w3.heap.size]? = some (vB 24 B) by rw [h4]; exact new_at (by simp))
  clear h4 k3 c0 c1 c2 c3 c4 c5 c6 c7 f0 f1 f2 f3 f4 f5 f6 f7
  obtain ⟨c0, c1, c2, c3, c4, c5, c6, c7⟩ := vB_cell C4.out
  obtain ⟨f0, f1, f2, f3, f4, f5, f6, f7⟩ := vB_free C4.out
  go_wp2_with fail
  with_reducible refine (CC.out _).mono ?_
  rintro e w5 ⟨rfl, hb⟩
  have k4 := Below.setCell (p := ⟨w2.heap.size, 1, none⟩) K4.out hz (.int .i64 xp)
  have K5 := Lib.hid (bstep k4 k4.size hb)
  have C5 := Lib.hid (show w5.heap[w2.heap.size]? = some (vB 24 (⟨x1, xp, z1, t, A.a, A.b, A.c, A.d⟩ : V)) from vB_grow (vB_set1 xp C4.out) hb)
  have B5 := Lib.hid (show w5.heap[w3.heap.size]? = some (vB 24 B) from vB_grow (vB_other _ B4.out (by omega)) hb)
  clear hb k4 c0 c1 c2 c3 c4 c5 c6 c7 f0 f1 f2 f3 f4 f5 f6 f7
  by_cases hE : E < 0
  · skip
    have B1 := Lib.hid (between_on x1 xp z1 t A.a A.b A.c A.d B.x B.y B.z B.w B.a B.b B.c B.d 4 E smC.out okB.out.sm dC.out dB.out hE)
    have B4' := Lib.hid (between_on x1 xp z1 t A.a A.b A.c A.d B.x B.y B.z B.w 0 0 0 0 4 E smC.out smD.out dC.out dD.out hE)
    have dE : decide (E < 0) = true := by simpa using hE
    obtain ⟨c0, c1, c2, c3, c4, c5, c6, c7⟩ := vB_cell C5.out
    obtain ⟨d0, d1, d2, d3, d4, d5, d6, d7⟩ := vB_cell B5.out
    go_wp2_with fail
    with_reducible refine (B1.out _).mono ?_
    rintro e w6 ⟨rfl, hb⟩
    have K6 := Lib.hid (bstep K5.out K5.out.size hb)
    have C6 := Lib.hid (vB_grow C5.out hb)
    have B6 := Lib.hid (vB_grow B5.out hb)
    have l6 := vB_lt C6.out
    have l6' := vB_lt B6.out
    clear hb c0 c1 c2 c3 c4 c5 c6 c7 d0 d1 d2 d3 d4 d5 d6 d7
    obtain ⟨d0, d1, d2, d3, d4, d5, d6, d7⟩ := vB_cell B6.out
    go_wp2_with fail
    with_reducible refine (CB.out _).mono ?_
    rintro e w7 ⟨rfl, hb⟩
    have k6 := K6.out.alloc K6.out.size (vB 24 (⟨x1, xp, z1, t, A.a, A.b, A.c, A.d⟩ : V))
    have K7 := Lib.hid (bstep k6 k6.size hb)
    have C7 := Lib.hid (vB_grow (vB_alloc (vB 24 (⟨x1, xp, z1, t, A.a, A.b, A.c, A.d⟩ : V)) C6.out) hb)
    have B7 := Lib.hid (vB_grow (vB_alloc (vB 24 (⟨x1, xp, z1, t, A.a, A.b, A.c, A.d⟩ : V)) B6.out) hb)
    have V7 := Lib.hid (show w7.heap[w6.heap.size]? = some (vB 24 (⟨x1, xp, z1, t, A.a, A.b, A.c, A.d⟩ : V)) from vB_grow (new_at rfl) hb)
    clear hb k6 d0 d1 d2 d3 d4 d5 d6 d7
    obtain ⟨c0, c1, c2, c3, c4, c5, c6, c7⟩ := vB_cell C7.out
    obtain ⟨d0, d1, d2, d3, d4, d5, d6, d7⟩ := vB_cell B7.out
    go_wp2_with fail
    with_reducible refine (B2.out _).mono ?_
    rintro e w8 ⟨rfl, hb⟩
    have K8 := Lib.hid (bstep K7.out K7.out.size hb)
    have C8 := Lib.hid (vB_grow C7.out hb)
    have B8 := Lib.hid (vB_grow B7.out hb)
    have V8 := Lib.hid (vB_grow V7.out hb)
    have l8 := vB_lt C8.out
    have l8' := vB_lt B8.out
    clear hb c0 c1 c2 c3 c4 c5 c6 c7 d0 d1 d2 d3 d4 d5 d6 d7
    obtain ⟨c0, c1, c2, c3, c4, c5, c6, c7⟩ := vB_cell C8.out
    obtain ⟨d0, d1, d2, d3, d4, d5, d6, d7⟩ := vB_cell B8.out
    go_wp2_with fail
    with_reducible refine (B3.out _).mono ?_
    rintro e w9 ⟨rfl, hb⟩
    have k8 := K8.out.alloc K8.out.size (vB 24 ⟨0, 0, 0, 0, 0, 0, 0, 0⟩)
    have K9 := Lib.hid (bstep k8 k8.size hb)
    have C9 := Lib.hid (vB_grow (vB_alloc (vB 24 ⟨0, 0, 0, 0, 0, 0, 0, 0⟩) C8.out) hb)
    have B9 := Lib.hid (vB_grow (vB_alloc (vB 24 ⟨0, 0, 0, 0, 0, 0, 0, 0⟩) B8.out) hb)
    have V9 := Lib.hid (vB_grow (vB_alloc (vB 24 ⟨0, 0, 0, 0, 0, 0, 0, 0⟩) V8.out) hb)
    have l9 := vB_lt C9.out
    have l9' := vB_lt B9.out
    clear hb k8 c0 c1 c2 c3 c4 c5 c6 c7 d0 d1 d2 d3 d4 d5 d6 d7
    obtain ⟨c0, c1, c2, c3, c4, c5, c6, c7⟩ := vB_cell C9.out
    obtain ⟨d0, d1, d2, d3, d4, d5, d6, d7⟩ := vB_cell B9.out
    go_wp2_with fail
    with_reducible refine (B4'.out _).mono ?_
    rintro e w10 ⟨rfl, hb⟩
    have k9 := (K9.out.alloc K9.out.size (vB 24 ⟨0, 0, 0, 0, 0, 0, 0, 0⟩)).alloc (by simp; have := K9.out.size; omega) (vB 24 ⟨B.x, B.y, B.z, B.w, 0, 0, 0, 0⟩)
    have K10 := Lib.hid (bstep k9 k9.size hb)
    have C10 := Lib.hid (vB_grow (vB_alloc (vB 24 ⟨B.x, B.y, B.z, B.w, 0, 0, 0, 0⟩) (vB_alloc (vB 24 ⟨0, 0, 0, 0, 0, 0, 0, 0⟩) C9.out)) hb)
    have V10 := Lib.hid (vB_grow (vB_alloc (vB 24 ⟨B.x, B.y, B.z, B.w, 0, 0, 0, 0⟩) (vB_alloc (vB 24 ⟨0, 0, 0, 0, 0, 0, 0, 0⟩) V9.out)) hb)
    have l10 := vB_lt C10.out
    have l10' := vB_lt V10.out
    clear hb k9 c0 c1 c2 c3 c4 c5 c6 c7 d0 d1 d2 d3 d4 d5 d6 d7
    obtain ⟨c0, c1, c2, c3, c4, c5, c6, c7⟩ := vB_cell C10.out
    obtain ⟨d0, d1, d2, d3, d4, d5, d6, d7⟩ := vB_cell V10.out
    have sC := sameV_self (⟨x1, xp, z1, t, A.a, A.b, A.c, A.d⟩ : V)
    go_wp2
    go_ret
    exact ⟨rfl, K10.out.alloc K10.out.size _⟩
  · skip
    have B1 := Lib.hid (between_off x1 xp z1 t A.a A.b A.c A.d B.x B.y B.z B.w B.a B.b B.c B.d 4 0 E smC.out okB.out.sm dC.out dB.out (by omega))
    have B4' := Lib.hid (between_off x1 xp z1 t A.a A.b A.c A.d B.x B.y B.z B.w 0 0 0 0 4 0 E smC.out smD.out dC.out dD.out (by omega))
    have dE : decide (E < 0) = false := by simp; omega
    obtain ⟨c0, c1, c2, c3, c4, c5, c6, c7⟩ := vB_cell C5.out
    obtain ⟨d0, d1, d2, d3, d4, d5, d6, d7⟩ := vB_cell B5.out
    go_wp2_with fail
    with_reducible refine (B1.out _).mono ?_
    rintro e w6 ⟨rfl, hb⟩
    have K6 := Lib.hid (bstep K5.out K5.out.size hb)
    have C6 := Lib.hid (vB_grow C5.out hb)
    have B6 := Lib.hid (vB_grow B5.out hb)
    have l6 := vB_lt C6.out
    have l6' := vB_lt B6.out
    clear hb c0 c1 c2 c3 c4 c5 c6 c7 d0 d1 d2 d3 d4 d5 d6 d7
    obtain ⟨d0, d1, d2, d3, d4, d5, d6, d7⟩ := vB_cell B6.out
    go_wp2_with fail
    with_reducible refine (CB.out _).mono ?_
    rintro e w7 ⟨rfl, hb⟩
    have k6 := K6.out.alloc K6.out.size (vB 24 ⟨0, 0, 0, 0, 0, 0, 0, 0⟩)
    have K7 := Lib.hid (bstep k6 k6.size hb)
    have C7 := Lib.hid (vB_grow (vB_alloc (vB 24 ⟨0, 0, 0, 0, 0, 0, 0, 0⟩) C6.out) hb)
    have B7 := Lib.hid (vB_grow (vB_alloc (vB 24 ⟨0, 0, 0, 0, 0, 0, 0, 0⟩) B6.out) hb)
    have V7 := Lib.hid (show w7.heap[w6.heap.size]? = some (vB 24 ⟨0, 0, 0, 0, 0, 0, 0, 0⟩) from vB_grow (new_at rfl) hb)
    clear hb k6 d0 d1 d2 d3 d4 d5 d6 d7
    obtain ⟨c0, c1, c2, c3, c4, c5, c6, c7⟩ := vB_cell C7.out
    obtain ⟨d0, d1, d2, d3, d4, d5, d6, d7⟩ := vB_cell B7.out
    go_wp2_with fail
    with_reducible refine (B2.out _).mono ?_
    rintro e w8 ⟨rfl, hb⟩
    have K8 := Lib.hid (bstep K7.out K7.out.size hb)
    have C8 := Lib.hid (vB_grow C7.out hb)
    have B8 := Lib.hid (vB_grow B7.out hb)
    have V8 := Lib.hid (vB_grow V7.out hb)
    have l8 := vB_lt C8.out
    have l8' := vB_lt B8.out
    clear hb c0 c1 c2 c3 c4 c5 c6 c7 d0 d1 d2 d3 d4 d5 d6 d7
    obtain ⟨c0, c1, c2, c3, c4, c5, c6, c7⟩ := vB_cell C8.out
    obtain ⟨d0, d1, d2, d3, d4, d5, d6, d7⟩ := vB_cell B8.out
    go_wp2_with fail
    with_reducible refine (B3.out _).mono ?_
    rintro e w9 ⟨rfl, hb⟩
    have k8 := K8.out.alloc K8.out.size (vB 24 ⟨0, 0, 0, 0, 0, 0, 0, 0⟩)
    have K9 := Lib.hid (bstep k8 k8.size hb)
    have C9 := Lib.hid (vB_grow (vB_alloc (vB 24 ⟨0, 0, 0, 0, 0, 0, 0, 0⟩) C8.out) hb)
    have B9 := Lib.hid (vB_grow (vB_alloc (vB 24 ⟨0, 0, 0, 0, 0, 0, 0, 0⟩) B8.out) hb)
    have V9 := Lib.hid (vB_grow (vB_alloc (vB 24 ⟨0, 0, 0, 0, 0, 0, 0, 0⟩) V8.out) hb)
    have l9 := vB_lt C9.out
    have l9' := vB_lt B9.out
    clear hb k8 c0 c1 c2 c3 c4 c5 c6 c7 d0 d1 d2 d3 d4 d5 d6 d7
    obtain ⟨c0, c1, c2, c3, c4, c5, c6, c7⟩ := vB_cell C9.out
    obtain ⟨d0, d1, d2, d3, d4, d5, d6, d7⟩ := vB_cell B9.out
    go_wp2_with fail
    with_reducible refine (B4'.out _).mono ?_
    rintro e w10 ⟨rfl, hb⟩
    have k9 := (K9.out.alloc K9.out.size (vB 24 ⟨0, 0, 0, 0, 0, 0, 0, 0⟩)).alloc (by simp; have := K9.out.size; omega) (vB 24 ⟨B.x, B.y, B.z, B.w, 0, 0, 0, 0⟩)
    have K10 := Lib.hid (bstep k9 k9.size hb)
    have C10 := Lib.hid (vB_grow (vB_alloc (vB 24 ⟨B.x, B.y, B.z, B.w, 0, 0, 0, 0⟩) (vB_alloc (vB 24 ⟨0, 0, 0, 0, 0, 0, 0, 0⟩) C9.out)) hb)
    have V10 := Lib.hid (vB_grow (vB_alloc (vB 24 ⟨B.x, B.y, B.z, B.w, 0, 0, 0, 0⟩) (vB_alloc (vB 24 ⟨0, 0, 0, 0, 0, 0, 0, 0⟩) V9.out)) hb)
    have l10 := vB_lt C10.out
    have l10' := vB_lt V10.out
    clear hb k9 c0 c1 c2 c3 c4 c5 c6 c7 d0 d1 d2 d3 d4 d5 d6 d7
    obtain ⟨c0, c1, c2, c3, c4, c5, c6, c7⟩ := vB_cell C10.out
    obtain ⟨d0, d1, d2, d3, d4, d5, d6, d7⟩ := vB_cell V10.out
    have sC := sameV_self (⟨x1, xp, z1, t, A.a, A.b, A.c, A.d⟩ : V)
    go_wp2
    go_ret
    exact ⟨rfl, K10.out.alloc K10.out.size _⟩
end Go.Proofs.Ytjnmebdjgnenoaa
