/-
  PlaneHeld's walk.
-/
import Derived.Test.YtiijpehchifheaaPure
import Derived.Test.YtiijpehchifheaaRIn
import Derived.Test.YtiijpehchifheaaTw
namespace Go.Proofs.Ytiijpehchifheaa
open Go.RowKit
attribute [local go_sem ↓] Go.wp_at_zero Go.wp_at_succ
attribute [local go_sem high] run_min3 run_max3

theorem dep_flat2 {a b c : P} {x y : Int} (h : 0 < area a b c) : dep a {b with z := a.z} {c with z := a.z} x y = a.z :=
  dep_flat (a := a) (b := {b with z := a.z}) (c := {c with z := a.z}) (by unfold area crs at *; exact h) a.z rfl rfl rfl
theorem tB_setz1 {w : World} {g : Nat} {a b c : P} (v : Int) (h : w.heap[g]? = some (tB a b c)) : (w.setCell ⟨g, 9, none⟩ (.int .i64 v)).heap[g]? = some (tB a {b with z := v} c) := (heap_setCell_same w g 9 _ _ (.int .i64 v) h).trans (by kernel_rfl)
theorem tB_setz2 {w : World} {g : Nat} {a b c : P} (v : Int) (h : w.heap[g]? = some (tB a b c)) : (w.setCell ⟨g, 16, none⟩ (.int .i64 v)).heap[g]? = some (tB a b {c with z := v}) := (heap_setCell_same w g 16 _ _ (.int .i64 v) h).trans (by kernel_rfl)

set_option maxRecDepth 100000 in
set_option maxHeartbeats 4000000 in
theorem held_walk (a b c : P) (e f : Int) (w : World) :
    Calls Try.prog 8 #[.agg #[.int .i64 a.x, .int .i64 a.y, .int .i64 a.z, .int .i64 a.a, .int .i64 a.b, .int .i64 a.c, .int .i64 a.d, .int .i64 b.x, .int .i64 b.y, .int .i64 b.z, .int .i64 b.a, .int .i64 b.b, .int .i64 b.c, .int .i64 b.d, .int .i64 c.x, .int .i64 c.y, .int .i64 c.z, .int .i64 c.a, .int .i64 c.b, .int .i64 c.c, .int .i64 c.d], .agg #[.int .i64 e, .int .i64 f]] w fun e w' => e = .returned (.bool true) ∧ Below w.heap.size w w' := by
  have HS := Lib.hid shown_any
  have HT := Lib.hid (three_any a b c)
  obtain ⟨u1, h1⟩ : ∃ u, smallP a = u := ⟨_, rfl⟩
  obtain ⟨u2, h2⟩ : ∃ u, smallP b = u := ⟨_, rfl⟩
  obtain ⟨u3, h3⟩ : ∃ u, smallP c = u := ⟨_, rfl⟩
  rw [h1, h2, h3] at HT
  have g1 : u1.good := h1 ▸ smallP_good a
  have g2 : u2.good := h2 ▸ smallP_good b
  have g3 : u3.good := h3 ▸ smallP_good c
  have HR := Lib.hid (rturned_any u1 u2 u3 g1.ok.sm g2.ok.sm g3.ok.sm)
  have ha := @tr_area u1 u2 u3
  obtain ⟨o1, o2, o3⟩ := tr_good g1 g2 g3
  clear h1 h2 h3 g1 g2 g3
  generalize tr1 u1 u2 u3 = t1 at *
  generalize tr2 u1 u2 u3 = t2 at *
  generalize tr3 u1 u2 u3 = t3 at *
  generalize trO u1 u2 u3 = o at *
  have hx := tmod_bd e 513 (by decide)
  have hy := tmod_bd f 513 (by decide)
  obtain ⟨x, ex⟩ : ∃ x, e.tmod 513 = x := ⟨_, rfl⟩
  obtain ⟨y, ey⟩ : ∃ y, f.tmod 513 = y := ⟨_, rfl⟩
  rw [ex] at hx
  rw [ey] at hy
  replace hx : Pxl x := by unfold Pxl; omega
  replace hy : Pxl y := by unfold Pxl; omega
  have hx' := hx.in14
  have hy' := hy.in14
  have w1 : IntKind.i64.wrap (16 * x) = 16 * x := by rw [IntKind.wrap_i64]; unfold Pxl at hx; omega
  have w2 : IntKind.i64.wrap (16 * y) = 16 * y := by rw [IntKind.wrap_i64]; unfold Pxl at hy; omega
  have w3 : IntKind.i64.wrap (16 * x + 8) = 16 * x + 8 := by rw [IntKind.wrap_i64]; unfold Pxl at hx; omega
  have w4 : IntKind.i64.wrap (16 * y + 8) = 16 * y + 8 := by rw [IntKind.wrap_i64]; unfold Pxl at hy; omega
  obtain ⟨v, hv⟩ : ∃ v, num t1 t2 t3 t1.z t2.z t3.z (16 * x + 8) (16 * y + 8) = v := ⟨_, rfl⟩
  obtain ⟨d, hd⟩ : ∃ v, dep t1 t2 t3 x y = v := ⟨_, rfl⟩
  obtain ⟨r, hr⟩ : ∃ r, inn t1 t2 t3 (16 * x + 8) (16 * y + 8) = r := ⟨_, rfl⟩
  have D := Lib.hid (depth_any t1 t2 t3 x y d o1.ok o2.ok o3.ok o1.z o2.z o3.z hx hy hd)
  have I := Lib.hid (rin_any t1 t2 t3 (16 * x + 8) (16 * y + 8) o1.ok.sm o2.ok.sm o3.ok.sm (by have := hx'.1; omega) (by have := hx'.2; omega) (by have := hy'.1; omega) (by have := hy'.2; omega))
  rw [hr] at I
  have V := Lib.hid (at_any t1 t2 t3 t1.z t2.z t3.z _ _ v o1.ok o2.ok o3.ok o1.z o2.z o3.z hx' hy' hv)
  have HC := Lib.hid (fun (h : o = true) => (⟨D, I, V, Lib.hid (depth_any t1 {t2 with z := t1.z} {t3 with z := t1.z} x y t1.z o1.ok ⟨o2.ok.x, o2.ok.y⟩ ⟨o3.ok.x, o3.ok.y⟩ o1.z o1.z o1.z hx hy
      (dep_flat2 (ha h))),
      (by rw [← hd, dep_pos (ha h)]; exact (hld_bd _ _ _ _).1), (by rw [← hd, dep_pos (ha h)]; exact (hld_bd _ _ _ _).2), Lib.hid (fun (h' : r = true) => by rw [← hd, ← hv]; exact dep_in (ha h) (hr.trans h')), True.intro⟩ :
      Hid _ ∧ Hid _ ∧ Hid _ ∧ Hid _ ∧ min t1.z (min t2.z t3.z) ≤ d ∧ d ≤ max t1.z (max t2.z t3.z) ∧ Hid (r = true → d = v) ∧ True))
  clear D I V ha o1 o2 o3 hx hy hx' hy' hv hd hr
  go_enter Try.func8, Try.ntmps8
  go_wp2_with fail
  obtain ⟨w0, hX⟩ : ∃ X, X = ((w.alloc (Obj.cells #[.int .i64 a.x, .int .i64 a.y, .int .i64 a.z, .int .i64 a.a, .int .i64 a.b, .int .i64 a.c, .int .i64 a.d, .int .i64 b.x, .int .i64 b.y, .int .i64 b.z, .int .i64 b.a, .int .i64 b.b, .int .i64 b.c, .int .i64 b.d, .int .i64 c.x, .int .i64 c.y, .int .i64 c.z, .int .i64 c.a, .int .i64 c.b, .int .i64 c.c, .int .i64 c.d] 25)).alloc (Obj.cells #[.int .i64 e, .int .i64 f] 27)) := ⟨_, rfl⟩
  rw [← hX]
  have K0 := Lib.hid (show Below w.heap.size w w0 by rw [hX]; exact (((Below.refl w.heap.size w).alloc (Nat.le_refl _) _).alloc (by simp) _))
  have T0 := Lib.hid (show w0.heap[w.heap.size]? = some (tB a b c) by rw [hX]; exact tB_alloc _ (new_at rfl))
  have E0 := Lib.hid (show w0.heap[w.heap.size + 1]? = some (twB e f) by rw [hX]; exact new_at (by simp))
  clear hX
  with_reducible refine (HS.out _).mono ?_
  rintro e w1 ⟨rfl, hb⟩
  have K1 := Lib.hid (bstep K0.out K0.out.size hb)
  have T1 := Lib.hid (show w1.heap[w.heap.size]? = some (tB a b c) from tB_grow T0.out hb)
  have E1 := Lib.hid (show w1.heap[w.heap.size + 1]? = some (twB e f) from twB_grow E0.out hb)
  clear T0 E0
  clear hb
  go_wp2_with (first | (refine wp_loadT _ rfl rfl rfl T1.out ?_))
  with_reducible refine (HT.out _).mono ?_
  rintro e w2 ⟨rfl, hb⟩
  have K2 := Lib.hid (bstep K1.out K1.out.size hb)
  have T2 := Lib.hid (show w2.heap[w.heap.size]? = some (tB a b c) from tB_grow T1.out hb)
  have E2 := Lib.hid (show w2.heap[w.heap.size + 1]? = some (twB e f) from twB_grow E1.out hb)
  clear T1 E1
  clear hb
  clear T2
  go_wp2_with fail
  with_reducible refine (HR.out _).mono ?_
  rintro e w3 ⟨rfl, hb⟩
  have K3 := Lib.hid (bstep K2.out K2.out.size hb)
  have E3 := Lib.hid (show w3.heap[w.heap.size + 1]? = some (twB e f) from twB_grow E2.out hb)
  clear E2
  clear hb
  obtain ⟨cE0, cE1⟩ := twB_cell E3.out
  have lE := twB_lt E3.out
  cases o
  · go_wp2_with (refine wp_newT (a := t1) (b := t2) (c := t3) _ rfl rfl rfl rfl rfl rfl rfl rfl ?_)
    go_ret
    exact ⟨rfl, (K3.out.alloc K3.out.size _)⟩
  obtain ⟨D, I, V, DF, d0, d1, HW, p1⟩ := HC.out rfl
  clear HC
  go_wp2_with (first | (refine wp_newT (a := t1) (b := t2) (c := t3) _ rfl rfl rfl rfl rfl rfl rfl rfl ?_) | (refine wp_loadT _ rfl rfl rfl (new_at rfl) ?_))
  with_reducible refine (D.out _).mono ?_
  rintro e w4 ⟨rfl, hb⟩
  have K4 := Lib.hid (bstep (K3.out.alloc K3.out.size _) (by have := K3.out.size; simp; omega) hb)
  have E4 := Lib.hid (show w4.heap[w.heap.size + 1]? = some (twB e f) from twB_grow (twB_alloc _ E3.out) hb)
  clear E3
  have T4 := Lib.hid (show w4.heap[w3.heap.size]? = some (tB t1 t2 t3) from tB_grow (new_at rfl) hb)
  clear cE0 cE1 lE
  clear hb
  clear E4
  go_upto_region 9 with (first | (refine wp_loadT _ rfl rfl rfl T4.out ?_) | (refine wp_newT (a := t1) (b := t2) (c := t3) _ rfl rfl rfl rfl rfl rfl rfl rfl ?_))
  obtain ⟨X, hX⟩ : ∃ X, X = w4.alloc (Obj.cells #[.int .i64 t1.x, .int .i64 t1.y, .int .i64 t1.z, .int .i64 t1.a, .int .i64 t1.b, .int .i64 t1.c, .int .i64 t1.d, .int .i64 t2.x, .int .i64 t2.y, .int .i64 t2.z, .int .i64 t2.a, .int .i64 t2.b, .int .i64 t2.c, .int .i64 t2.d, .int .i64 t3.x, .int .i64 t3.y, .int .i64 t3.z, .int .i64 t3.a, .int .i64 t3.b, .int .i64 t3.c, .int .i64 t3.d] 25) := ⟨_, rfl⟩
  rw [← hX]
  have KX := Lib.hid (show Below w.heap.size w X by rw [hX]; exact K4.out.alloc K4.out.size _)
  have TX := Lib.hid (show X.heap[w3.heap.size]? = some (tB t1 t2 t3) by rw [hX]; exact tB_alloc _ T4.out)
  have FX := Lib.hid (show X.heap[w4.heap.size]? = some (tB t1 t2 t3) by rw [hX]; exact new_at rfl)
  have ne := Nat.ne_of_lt (tB_lt T4.out)
  have hge := Lib.hid K4.out.size
  obtain ⟨g, hg⟩ : ∃ g, w4.heap.size = g := ⟨_, rfl⟩
  rw [hg] at FX ne hge ⊢
  clear hX T4 K4 hg
  obtain ⟨tb, htb⟩ : ∃ g, w3.heap.size = g := ⟨_, rfl⟩
  rw [htb] at TX ne ⊢
  clear htb
  have FY := Lib.hid (show ((X.setCell ⟨g, 9, none⟩ (.int .i64 t1.z)).setCell ⟨g, 16, none⟩ (.int .i64 t1.z)).heap[g]? = some (tB t1 {t2 with z := t1.z} {t3 with z := t1.z}) from tB_setz2 _ (tB_setz1 _ FX.out))
  have TY := Lib.hid (show ((X.setCell ⟨g, 9, none⟩ (.int .i64 t1.z)).setCell ⟨g, 16, none⟩ (.int .i64 t1.z)).heap[tb]? = some (tB t1 t2 t3) from (heap_setCell_other _ _ _ _ (by simpa using ne)).trans ((heap_setCell_other _ _ _ _ (by simpa using ne)).trans TX.out))
  have KY := Lib.hid (show Below w.heap.size w ((X.setCell ⟨g, 9, none⟩ (.int .i64 t1.z)).setCell ⟨g, 16, none⟩ (.int .i64 t1.z)) from (KX.out.setCell hge.out _).setCell hge.out _)
  obtain ⟨⟨c0, c1, c2, c3, c4, c5, c6⟩, ⟨c7, c8, c9, c10, c11, c12, c13⟩, ⟨c14, c15, c16, c17, c18, c19, c20⟩⟩ := tB_cell TX.out
  obtain ⟨⟨d0, d1, d2, d3, d4, d5, d6⟩, ⟨d7, d8, d9, d10, d11, d12, d13⟩, ⟨d14, d15, d16, d17, d18, d19, d20⟩⟩ := tB_cell FX.out
  have f9 := tB_free FX.out 9
  have f16 := tB_free FX.out 16
  have l1 := tB_lt TX.out
  have l2 := tB_lt FX.out
  go_wp2_with (refine wp_loadT _ rfl rfl rfl TY.out ?_)
  with_reducible refine (I.out _).mono ?_
  rintro e v1 ⟨rfl, hb⟩
  have K1 := Lib.hid (bstep KY.out KY.out.size hb)
  have T1 := Lib.hid (tB_grow TY.out hb)
  have F1 := Lib.hid (tB_grow FY.out hb)
  clear hb c0 c1 c2 c3 c4 c5 c6 c7 c8 c9 c10 c11 c12 c13 c14 c15 c16 c17 c18 c19 c20 d0 d1 d2 d3 d4 d5 d6 d7 d8 d9 d10 d11 d12 d13 d14 d15 d16 d17 d18 d19 d20 f9 f16 l1 l2 KX TX FX KY TY FY
  obtain ⟨⟨c0, c1, c2, c3, c4, c5, c6⟩, ⟨c7, c8, c9, c10, c11, c12, c13⟩, ⟨c14, c15, c16, c17, c18, c19, c20⟩⟩ := tB_cell T1.out
  go_wp2_with (refine wp_loadT _ rfl rfl rfl T1.out ?_)
  with_reducible refine (V.out _).mono ?_
  rintro e v2 ⟨rfl, hb⟩
  have K2 := Lib.hid (bstep K1.out K1.out.size hb)
  have T2 := Lib.hid (tB_grow T1.out hb)
  have F2 := Lib.hid (tB_grow F1.out hb)
  clear hb c0 c1 c2 c3 c4 c5 c6 c7 c8 c9 c10 c11 c12 c13 c14 c15 c16 c17 c18 c19 c20 K1 T1 F1
  go_wp2_with fail
  have g1 := fun x : Grow v2 => tB_cell (tB_grow T2.out x.below)
  have ne1 := Grow.ne v2
  try simp only [List.append]
  have fin : ∀ x : Grow v2, Below w.heap.size w x.w := fun x => bstep K2.out K2.out.size x.below
  have FIN := Lib.hid fin
  clear fin
  cases r
  · refine wp_region_grow (by kernel_rfl) (by kernel_rfl) ?_
    repeat (first | (refine quiet_loadT _ rfl rfl rfl F2.out ?_; simp only [Act.put, List.setIfInBounds_toArray, List.set_cons_zero, List.set_cons_succ]) | (go_big_quiet_step (with_reducible exact Grow.calls (DF.out _))))
    refine wpQuiet_nil ?_
    rintro _ ⟨x, rfl⟩
    go_wp2
    go_ret
    exact ⟨by simp, FIN.out x⟩
  · obtain rfl := HW.out rfl
    refine wp_region_grow (by kernel_rfl) (by kernel_rfl) ?_
    repeat (first | (refine quiet_loadT _ rfl rfl rfl F2.out ?_; simp only [Act.put, List.setIfInBounds_toArray, List.set_cons_zero, List.set_cons_succ]) | (go_big_quiet_step (with_reducible exact Grow.calls (DF.out _))))
    refine wpQuiet_nil ?_
    rintro _ ⟨x, rfl⟩
    go_wp2
    go_ret
    exact ⟨by simp, FIN.out x⟩
end Go.Proofs.Ytiijpehchifheaa
