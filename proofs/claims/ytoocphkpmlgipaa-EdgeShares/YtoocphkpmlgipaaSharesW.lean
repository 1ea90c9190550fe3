/-
  EdgeShares' walk.
-/
import Derived.Test.YtoocphkpmlgipaaShown
import Derived.Test.YtoocphkpmlgipaaPure2
import Derived.Test.YtoocphkpmlgipaaQuiet
import Derived.Deep.Cut
import Derived.Deep.CutRange
namespace Go.Proofs.Ytoocphkpmlgipaa
open Go.RowKit
attribute [local go_sem ↓] Go.wp_at_zero Go.wp_at_succ

set_option maxRecDepth 100000 in
set_option maxHeartbeats 4000000 in
theorem shares_walk (a b c : P) (w : World) :
    Calls Try.prog 6 #[.agg #[.int .i64 a.x, .int .i64 a.y, .int .i64 a.z, .int .i64 a.a, .int .i64 a.b, .int .i64 a.c, .int .i64 a.d, .int .i64 b.x, .int .i64 b.y, .int .i64 b.z, .int .i64 b.a, .int .i64 b.b, .int .i64 b.c, .int .i64 b.d, .int .i64 c.x, .int .i64 c.y, .int .i64 c.z, .int .i64 c.a, .int .i64 c.b, .int .i64 c.c, .int .i64 c.d]] w fun e w' => e = .returned (.bool true) ∧ Below w.heap.size w w' := by
  have HS := Lib.hid shown_any
  have HT := Lib.hid (three_any a b c)
  obtain ⟨u1, h1⟩ : ∃ u, smallP a = u := ⟨_, rfl⟩
  obtain ⟨u2, h2⟩ : ∃ u, smallP b = u := ⟨_, rfl⟩
  obtain ⟨u3, h3⟩ : ∃ u, smallP c = u := ⟨_, rfl⟩
  rw [h1, h2, h3] at HT
  have o1 : u1.sm := by rw [← h1]; exact (smallP_ok a).sm
  have o2 : u2.sm := by rw [← h2]; exact (smallP_ok b).sm
  have o3 : u3.sm := by rw [← h3]; exact (smallP_ok c).sm
  clear h1 h2 h3
  have HX := Lib.hid (turned_any u1 u2 u3 o1 o2 o3)
  obtain ⟨x1, h1⟩ : ∃ u, tr1 u1 u2 u3 = u := ⟨_, rfl⟩
  obtain ⟨x2, h2⟩ : ∃ u, tr2 u1 u2 u3 = u := ⟨_, rfl⟩
  obtain ⟨x3, h3⟩ : ∃ u, tr3 u1 u2 u3 = u := ⟨_, rfl⟩
  obtain ⟨ok, h4⟩ : ∃ u, trO u1 u2 u3 = u := ⟨_, rfl⟩
  rw [h1, h2, h3, h4] at HX
  have HN := Lib.hid (show ok = false ∨ (ok = true ∧ area x1 x2 x3 ≠ 0) by
    cases ok
    · exact .inl rfl
    · refine .inr ⟨rfl, ?_⟩
      rw [← h1, ← h2, ← h3]
      exact turned_ne (by simpa [trO] using h4))
  clear h1 h2 h3 h4
  have FA1 := Lib.hid (first_any u1 u2)
  have FB1 := Lib.hid (first_any u2 u1)
  have CA1 := Lib.hid (fun w => cross_any u1 u2 u1.x u1.y o1 o2 o1.x.1 o1.x.2 o1.y.1 o1.y.2 w)
  have CB1 := Lib.hid (fun w => cross_any u1 u2 u2.x u2.y o1 o2 o2.x.1 o2.x.2 o2.y.1 o2.y.2 w)
  rw [crs_first] at CA1
  rw [crs_second] at CB1
  have W1 := same_ways u1 u2
  obtain ⟨bx1, ex1⟩ : ∃ b, (u1.x == u2.x) = b := ⟨_, rfl⟩
  obtain ⟨by1, ey1⟩ : ∃ b, (u1.y == u2.y) = b := ⟨_, rfl⟩
  rw [ex1, ey1] at W1
  obtain ⟨sm1, es1⟩ : ∃ b, (bx1 && by1) = b := ⟨_, rfl⟩
  rw [es1] at W1
  have WW1 := Lib.hid W1
  have ES1 := Lib.hid es1
  clear W1 es1
  generalize fst u1 u2 = f1 at *
  generalize fst u2 u1 = g1 at *
  have FA2 := Lib.hid (first_any u2 u3)
  have FB2 := Lib.hid (first_any u3 u2)
  have CA2 := Lib.hid (fun w => cross_any u2 u3 u2.x u2.y o2 o3 o2.x.1 o2.x.2 o2.y.1 o2.y.2 w)
  have CB2 := Lib.hid (fun w => cross_any u2 u3 u3.x u3.y o2 o3 o3.x.1 o3.x.2 o3.y.1 o3.y.2 w)
  rw [crs_first] at CA2
  rw [crs_second] at CB2
  have W2 := same_ways u2 u3
  obtain ⟨bx2, ex2⟩ : ∃ b, (u2.x == u3.x) = b := ⟨_, rfl⟩
  obtain ⟨by2, ey2⟩ : ∃ b, (u2.y == u3.y) = b := ⟨_, rfl⟩
  rw [ex2, ey2] at W2
  obtain ⟨sm2, es2⟩ : ∃ b, (bx2 && by2) = b := ⟨_, rfl⟩
  rw [es2] at W2
  have WW2 := Lib.hid W2
  have ES2 := Lib.hid es2
  clear W2 es2
  generalize fst u2 u3 = f2 at *
  generalize fst u3 u2 = g2 at *
  have FA3 := Lib.hid (first_any u3 u1)
  have FB3 := Lib.hid (first_any u1 u3)
  have CA3 := Lib.hid (fun w => cross_any u3 u1 u3.x u3.y o3 o1 o3.x.1 o3.x.2 o3.y.1 o3.y.2 w)
  have CB3 := Lib.hid (fun w => cross_any u3 u1 u1.x u1.y o3 o1 o1.x.1 o1.x.2 o1.y.1 o1.y.2 w)
  rw [crs_first] at CA3
  rw [crs_second] at CB3
  have W3 := same_ways u3 u1
  obtain ⟨bx3, ex3⟩ : ∃ b, (u3.x == u1.x) = b := ⟨_, rfl⟩
  obtain ⟨by3, ey3⟩ : ∃ b, (u3.y == u1.y) = b := ⟨_, rfl⟩
  rw [ex3, ey3] at W3
  obtain ⟨sm3, es3⟩ : ∃ b, (bx3 && by3) = b := ⟨_, rfl⟩
  rw [es3] at W3
  have WW3 := Lib.hid W3
  have ES3 := Lib.hid es3
  clear W3 es3
  generalize fst u3 u1 = f3 at *
  generalize fst u1 u3 = g3 at *
  have FX1 := Lib.hid (first_any x1 x2)
  have FX2 := Lib.hid (first_any x2 x3)
  have FX3 := Lib.hid (first_any x3 x1)
  clear o1 o2 o3
  have v0 : IntKind.i64.wrap 0 = 0 := by decide
  have v1 : IntKind.i64.wrap 1 = 1 := by decide
  have v2 : IntKind.i64.wrap 2 = 2 := by decide
  have v3 : IntKind.i64.wrap 3 = 3 := by decide
  have t1 : (1 : Int).tmod 3 = 1 := by decide
  have t2 : (2 : Int).tmod 3 = 2 := by decide
  have t3 : (3 : Int).tmod 3 = 0 := by decide
  go_enter Try.func6, Try.ntmps6
  go_wp2_with fail
  with_reducible refine (HS.out _).mono ?_
  rintro e w1 ⟨rfl, hb⟩
  have K1 := Lib.hid (bstep ((Below.refl w.heap.size w).alloc (Nat.le_refl _) _) (by simp) hb)
  have T1 := Lib.hid (show w1.heap[w.heap.size]? = some (tB a b c) from tB_grow (new_at rfl) hb)
  clear hb
  go_wp2_with (refine wp_loadT _ rfl rfl rfl T1.out ?_)
  with_reducible refine (HT.out _).mono ?_
  rintro e w2 ⟨rfl, hb⟩
  have K2 := Lib.hid (bstep K1.out K1.out.size hb)
  clear hb T1 K1
  go_wp2_with (first | (refine wp_newT (a := u1) (b := u2) (c := u3) _ rfl rfl rfl rfl rfl rfl rfl rfl ?_) | (refine wp_loadT (a := u1) (b := u2) (c := u3) _ rfl rfl rfl (new_at rfl) ?_))
  with_reducible refine (HX.out _).mono ?_
  rintro e w3 ⟨rfl, hb⟩
  have K3 := Lib.hid (bstep (K2.out.alloc K2.out.size _) (by have := K2.out.size; simp; omega) hb)
  have U3 := Lib.hid (show w3.heap[w2.heap.size]? = some (tB u1 u2 u3) from tB_grow (new_at rfl) hb)
  clear hb K2
  have l3 := tB_lt U3.out
  go_wp2_with (refine wp_newT (a := x1) (b := x2) (c := x3) _ rfl rfl rfl rfl rfl rfl rfl rfl ?_)
  obtain ⟨Y0, hY⟩ : ∃ X, X = w3.alloc (Obj.cells #[.int .i64 x1.x, .int .i64 x1.y, .int .i64 x1.z, .int .i64 x1.a, .int .i64 x1.b, .int .i64 x1.c, .int .i64 x1.d, .int .i64 x2.x, .int .i64 x2.y, .int .i64 x2.z, .int .i64 x2.a, .int .i64 x2.b, .int .i64 x2.c, .int .i64 x2.d, .int .i64 x3.x, .int .i64 x3.y, .int .i64 x3.z, .int .i64 x3.a, .int .i64 x3.b, .int .i64 x3.c, .int .i64 x3.d] 25) := ⟨_, rfl⟩
  rw [← hY]
  have KY0 := Lib.hid (show Below w.heap.size w Y0 by rw [hY]; exact K3.out.alloc K3.out.size _)
  have UY0 := Lib.hid (show Y0.heap[w2.heap.size]? = some (tB u1 u2 u3) by rw [hY]; exact tB_alloc _ U3.out)
  have XY0 := Lib.hid (show Y0.heap[w3.heap.size]? = some (tB x1 x2 x3) by rw [hY]; exact new_at rfl)
  clear hY U3 K3 HS HT HX l3
  refine wp_loop_rounds 4 ?_
  rw [rounds_succ]
  obtain ⟨⟨c0, c1, c2, c3, c4, c5, c6⟩, ⟨c7, c8, c9, c10, c11, c12, c13⟩, ⟨c14, c15, c16, c17, c18, c19, c20⟩⟩ := tB_cell UY0.out
  have l1 := tB_lt UY0.out
  go_upto_region 9 with fail
  obtain ⟨V1, hV⟩ : ∃ X, X = (Y0.alloc (Obj.cells #[.int .i64 u1.x, .int .i64 u1.y, .int .i64 u1.z, .int .i64 u1.a, .int .i64 u1.b, .int .i64 u1.c, .int .i64 u1.d] 24)).alloc (Obj.cells #[.int .i64 u2.x, .int .i64 u2.y, .int .i64 u2.z, .int .i64 u2.a, .int .i64 u2.b, .int .i64 u2.c, .int .i64 u2.d] 24) := ⟨_, rfl⟩
  rw [← hV]
  have KV1 := Lib.hid (show Below w.heap.size w V1 by rw [hV]; exact (KY0.out.alloc KY0.out.size _).alloc (by have := KY0.out.size; simp; omega) _)
  have UV1 := Lib.hid (show V1.heap[w2.heap.size]? = some (tB u1 u2 u3) by rw [hV]; exact tB_alloc _ (tB_alloc _ UY0.out))
  have XV1 := Lib.hid (show V1.heap[w3.heap.size]? = some (tB x1 x2 x3) by rw [hV]; exact tB_alloc _ (tB_alloc _ XY0.out))
  have AV1 := Lib.hid (show V1.heap[Y0.heap.size]? = some (pB u1) by rw [hV]; exact (new_two _ _).1)
  have BV1 := Lib.hid (show V1.heap[Y0.heap.size + 1]? = some (pB u2) by rw [hV]; exact (new_two _ _).2)
  clear hV c0 c1 c2 c3 c4 c5 c6 c7 c8 c9 c10 c11 c12 c13 c14 c15 c16 c17 c18 c19 c20 l1 UY0 KY0 XY0
  go_cut [10] from 33 to 44 (fun s wc => s = .bool sm1 ∧ V1 = wc)
  case first =>
    obtain ⟨c0, c1, c2, c3, c4, c5, c6⟩ := pB_cell AV1.out
    obtain ⟨d0, d1, d2, d3, d4, d5, d6⟩ := pB_cell BV1.out
    cases bx1 <;> cases by1
    all_goals
      go_wp2
      go_meet
      case rel => exact ⟨by rw [← ES1.out]; rfl, rfl⟩
  obtain ⟨rfl, rfl⟩ := hcut
  clear ES1 ex1 ey1
  go_upto_region 10 with fail
  go_cut [73] from 45 to 73 (fun s wc => s = .bool false ∧ Below V1.heap.size V1 wc)
  case first =>
    have g1 := fun x : Grow V1 => pB_cell (pB_grow AV1.out x.below)
    have g2 := fun x : Grow V1 => pB_cell (pB_grow BV1.out x.below)
    have ne1 := Grow.ne V1
    rcases WW1.out with ⟨rfl, rfl, rfl⟩ | ⟨rfl, rfl, rfl⟩ | ⟨rfl, rfl, rfl⟩
    all_goals
      refine wp_region_grow (by kernel_rfl) (by kernel_rfl) ?_
      repeat (go_big_quiet_step (with_reducible first | exact Grow.calls (FA1.out _) | exact Grow.calls (FB1.out _)))
      refine wpQuiet_nil ?_
      rintro _ ⟨x, rfl⟩
      go_wp2
      go_meet
      case rel => exact ⟨by simp, x.below⟩
  obtain ⟨rfl, hb⟩ := hcut
  have K1a := Lib.hid (bstep KV1.out KV1.out.size hb)
  have U1a := Lib.hid (tB_grow UV1.out hb)
  have X1a := Lib.hid (tB_grow XV1.out hb)
  have A1a := Lib.hid (pB_grow AV1.out hb)
  have B1a := Lib.hid (pB_grow BV1.out hb)
  clear hb KV1 UV1 XV1 AV1 BV1 FA1 FB1 WW1
  rename World => Z1a
  obtain ⟨c0, c1, c2, c3, c4, c5, c6⟩ := pB_cell A1a.out
  obtain ⟨d0, d1, d2, d3, d4, d5, d6⟩ := pB_cell B1a.out
  go_wp2_with fail
  with_reducible refine (CA1.out _).mono ?_
  rintro e Z1b ⟨rfl, hb⟩
  have K1b := Lib.hid (bstep K1a.out K1a.out.size hb)
  have U1b := Lib.hid (tB_grow U1a.out hb)
  have X1b := Lib.hid (tB_grow X1a.out hb)
  have A1b := Lib.hid (pB_grow A1a.out hb)
  have B1b := Lib.hid (pB_grow B1a.out hb)
  clear hb K1a U1a X1a A1a B1a c0 c1 c2 c3 c4 c5 c6 d0 d1 d2 d3 d4 d5 d6
  obtain ⟨c0, c1, c2, c3, c4, c5, c6⟩ := pB_cell A1b.out
  obtain ⟨d0, d1, d2, d3, d4, d5, d6⟩ := pB_cell B1b.out
  go_wp2_with fail
  with_reducible refine (CB1.out _).mono ?_
  rintro e Y1 ⟨rfl, hb⟩
  have KY1 := Lib.hid (bstep K1b.out K1b.out.size hb)
  have UY1 := Lib.hid (tB_grow U1b.out hb)
  have XY1 := Lib.hid (tB_grow X1b.out hb)
  clear hb K1b U1b X1b A1b B1b c0 c1 c2 c3 c4 c5 c6 d0 d1 d2 d3 d4 d5 d6 CA1 CB1
  go_wp2
  rw [rounds_succ]
  obtain ⟨⟨c0, c1, c2, c3, c4, c5, c6⟩, ⟨c7, c8, c9, c10, c11, c12, c13⟩, ⟨c14, c15, c16, c17, c18, c19, c20⟩⟩ := tB_cell UY1.out
  have l1 := tB_lt UY1.out
  go_upto_region 9 with fail
  obtain ⟨V2, hV⟩ : ∃ X, X = (Y1.alloc (Obj.cells #[.int .i64 u2.x, .int .i64 u2.y, .int .i64 u2.z, .int .i64 u2.a, .int .i64 u2.b, .int .i64 u2.c, .int .i64 u2.d] 24)).alloc (Obj.cells #[.int .i64 u3.x, .int .i64 u3.y, .int .i64 u3.z, .int .i64 u3.a, .int .i64 u3.b, .int .i64 u3.c, .int .i64 u3.d] 24) := ⟨_, rfl⟩
  rw [← hV]
  have KV2 := Lib.hid (show Below w.heap.size w V2 by rw [hV]; exact (KY1.out.alloc KY1.out.size _).alloc (by have := KY1.out.size; simp; omega) _)
  have UV2 := Lib.hid (show V2.heap[w2.heap.size]? = some (tB u1 u2 u3) by rw [hV]; exact tB_alloc _ (tB_alloc _ UY1.out))
  have XV2 := Lib.hid (show V2.heap[w3.heap.size]? = some (tB x1 x2 x3) by rw [hV]; exact tB_alloc _ (tB_alloc _ XY1.out))
  have AV2 := Lib.hid (show V2.heap[Y1.heap.size]? = some (pB u2) by rw [hV]; exact (new_two _ _).1)
  have BV2 := Lib.hid (show V2.heap[Y1.heap.size + 1]? = some (pB u3) by rw [hV]; exact (new_two _ _).2)
  clear hV c0 c1 c2 c3 c4 c5 c6 c7 c8 c9 c10 c11 c12 c13 c14 c15 c16 c17 c18 c19 c20 l1 UY1 KY1 XY1
  go_cut [10] from 33 to 44 (fun s wc => s = .bool sm2 ∧ V2 = wc)
  case first =>
    obtain ⟨c0, c1, c2, c3, c4, c5, c6⟩ := pB_cell AV2.out
    obtain ⟨d0, d1, d2, d3, d4, d5, d6⟩ := pB_cell BV2.out
    cases bx2 <;> cases by2
    all_goals
      go_wp2
      go_meet
      case rel => exact ⟨by rw [← ES2.out]; rfl, rfl⟩
  obtain ⟨rfl, rfl⟩ := hcut
  clear ES2 ex2 ey2
  go_upto_region 10 with fail
  go_cut [73] from 45 to 73 (fun s wc => s = .bool false ∧ Below V2.heap.size V2 wc)
  case first =>
    have g1 := fun x : Grow V2 => pB_cell (pB_grow AV2.out x.below)
    have g2 := fun x : Grow V2 => pB_cell (pB_grow BV2.out x.below)
    have ne1 := Grow.ne V2
    rcases WW2.out with ⟨rfl, rfl, rfl⟩ | ⟨rfl, rfl, rfl⟩ | ⟨rfl, rfl, rfl⟩
    all_goals
      refine wp_region_grow (by kernel_rfl) (by kernel_rfl) ?_
      repeat (go_big_quiet_step (with_reducible first | exact Grow.calls (FA2.out _) | exact Grow.calls (FB2.out _)))
      refine wpQuiet_nil ?_
      rintro _ ⟨x, rfl⟩
      go_wp2
      go_meet
      case rel => exact ⟨by simp, x.below⟩
  obtain ⟨rfl, hb⟩ := hcut
  have K2a := Lib.hid (bstep KV2.out KV2.out.size hb)
  have U2a := Lib.hid (tB_grow UV2.out hb)
  have X2a := Lib.hid (tB_grow XV2.out hb)
  have A2a := Lib.hid (pB_grow AV2.out hb)
  have B2a := Lib.hid (pB_grow BV2.out hb)
  clear hb KV2 UV2 XV2 AV2 BV2 FA2 FB2 WW2
  rename World => Z2a
  obtain ⟨c0, c1, c2, c3, c4, c5, c6⟩ := pB_cell A2a.out
  obtain ⟨d0, d1, d2, d3, d4, d5, d6⟩ := pB_cell B2a.out
  go_wp2_with fail
  with_reducible refine (CA2.out _).mono ?_
  rintro e Z2b ⟨rfl, hb⟩
  have K2b := Lib.hid (bstep K2a.out K2a.out.size hb)
  have U2b := Lib.hid (tB_grow U2a.out hb)
  have X2b := Lib.hid (tB_grow X2a.out hb)
  have A2b := Lib.hid (pB_grow A2a.out hb)
  have B2b := Lib.hid (pB_grow B2a.out hb)
  clear hb K2a U2a X2a A2a B2a c0 c1 c2 c3 c4 c5 c6 d0 d1 d2 d3 d4 d5 d6
  obtain ⟨c0, c1, c2, c3, c4, c5, c6⟩ := pB_cell A2b.out
  obtain ⟨d0, d1, d2, d3, d4, d5, d6⟩ := pB_cell B2b.out
  go_wp2_with fail
  with_reducible refine (CB2.out _).mono ?_
  rintro e Y2 ⟨rfl, hb⟩
  have KY2 := Lib.hid (bstep K2b.out K2b.out.size hb)
  have UY2 := Lib.hid (tB_grow U2b.out hb)
  have XY2 := Lib.hid (tB_grow X2b.out hb)
  clear hb K2b U2b X2b A2b B2b c0 c1 c2 c3 c4 c5 c6 d0 d1 d2 d3 d4 d5 d6 CA2 CB2
  go_wp2
  rw [rounds_succ]
  obtain ⟨⟨c0, c1, c2, c3, c4, c5, c6⟩, ⟨c7, c8, c9, c10, c11, c12, c13⟩, ⟨c14, c15, c16, c17, c18, c19, c20⟩⟩ := tB_cell UY2.out
  have l1 := tB_lt UY2.out
  go_upto_region 9 with fail
  obtain ⟨V3, hV⟩ : ∃ X, X = (Y2.alloc (Obj.cells #[.int .i64 u3.x, .int .i64 u3.y, .int .i64 u3.z, .int .i64 u3.a, .int .i64 u3.b, .int .i64 u3.c, .int .i64 u3.d] 24)).alloc (Obj.cells #[.int .i64 u1.x, .int .i64 u1.y, .int .i64 u1.z, .int .i64 u1.a, .int .i64 u1.b, .int .i64 u1.c, .int .i64 u1.d] 24) := ⟨_, rfl⟩
  rw [← hV]
  have KV3 := Lib.hid (show Below w.heap.size w V3 by rw [hV]; exact (KY2.out.alloc KY2.out.size _).alloc (by have := KY2.out.size; simp; omega) _)
  have UV3 := Lib.hid (show V3.heap[w2.heap.size]? = some (tB u1 u2 u3) by rw [hV]; exact tB_alloc _ (tB_alloc _ UY2.out))
  have XV3 := Lib.hid (show V3.heap[w3.heap.size]? = some (tB x1 x2 x3) by rw [hV]; exact tB_alloc _ (tB_alloc _ XY2.out))
  have AV3 := Lib.hid (show V3.heap[Y2.heap.size]? = some (pB u3) by rw [hV]; exact (new_two _ _).1)
  have BV3 := Lib.hid (show V3.heap[Y2.heap.size + 1]? = some (pB u1) by rw [hV]; exact (new_two _ _).2)
  clear hV c0 c1 c2 c3 c4 c5 c6 c7 c8 c9 c10 c11 c12 c13 c14 c15 c16 c17 c18 c19 c20 l1 UY2 KY2 XY2
  go_cut [10] from 33 to 44 (fun s wc => s = .bool sm3 ∧ V3 = wc)
  case first =>
    obtain ⟨c0, c1, c2, c3, c4, c5, c6⟩ := pB_cell AV3.out
    obtain ⟨d0, d1, d2, d3, d4, d5, d6⟩ := pB_cell BV3.out
    cases bx3 <;> cases by3
    all_goals
      go_wp2
      go_meet
      case rel => exact ⟨by rw [← ES3.out]; rfl, rfl⟩
  obtain ⟨rfl, rfl⟩ := hcut
  clear ES3 ex3 ey3
  go_upto_region 10 with fail
  go_cut [73] from 45 to 73 (fun s wc => s = .bool false ∧ Below V3.heap.size V3 wc)
  case first =>
    have g1 := fun x : Grow V3 => pB_cell (pB_grow AV3.out x.below)
    have g2 := fun x : Grow V3 => pB_cell (pB_grow BV3.out x.below)
    have ne1 := Grow.ne V3
    rcases WW3.out with ⟨rfl, rfl, rfl⟩ | ⟨rfl, rfl, rfl⟩ | ⟨rfl, rfl, rfl⟩
    all_goals
      refine wp_region_grow (by kernel_rfl) (by kernel_rfl) ?_
      repeat (go_big_quiet_step (with_reducible first | exact Grow.calls (FA3.out _) | exact Grow.calls (FB3.out _)))
      refine wpQuiet_nil ?_
      rintro _ ⟨x, rfl⟩
      go_wp2
      go_meet
      case rel => exact ⟨by simp, x.below⟩
  obtain ⟨rfl, hb⟩ := hcut
  have K3a := Lib.hid (bstep KV3.out KV3.out.size hb)
  have U3a := Lib.hid (tB_grow UV3.out hb)
  have X3a := Lib.hid (tB_grow XV3.out hb)
  have A3a := Lib.hid (pB_grow AV3.out hb)
  have B3a := Lib.hid (pB_grow BV3.out hb)
  clear hb KV3 UV3 XV3 AV3 BV3 FA3 FB3 WW3
  rename World => Z3a
  obtain ⟨c0, c1, c2, c3, c4, c5, c6⟩ := pB_cell A3a.out
  obtain ⟨d0, d1, d2, d3, d4, d5, d6⟩ := pB_cell B3a.out
  go_wp2_with fail
  with_reducible refine (CA3.out _).mono ?_
  rintro e Z3b ⟨rfl, hb⟩
  have K3b := Lib.hid (bstep K3a.out K3a.out.size hb)
  have U3b := Lib.hid (tB_grow U3a.out hb)
  have X3b := Lib.hid (tB_grow X3a.out hb)
  have A3b := Lib.hid (pB_grow A3a.out hb)
  have B3b := Lib.hid (pB_grow B3a.out hb)
  clear hb K3a U3a X3a A3a B3a c0 c1 c2 c3 c4 c5 c6 d0 d1 d2 d3 d4 d5 d6
  obtain ⟨c0, c1, c2, c3, c4, c5, c6⟩ := pB_cell A3b.out
  obtain ⟨d0, d1, d2, d3, d4, d5, d6⟩ := pB_cell B3b.out
  go_wp2_with fail
  with_reducible refine (CB3.out _).mono ?_
  rintro e Y3 ⟨rfl, hb⟩
  have KY3 := Lib.hid (bstep K3b.out K3b.out.size hb)
  have UY3 := Lib.hid (tB_grow U3b.out hb)
  have XY3 := Lib.hid (tB_grow X3b.out hb)
  clear hb K3b U3b X3b A3b B3b c0 c1 c2 c3 c4 c5 c6 d0 d1 d2 d3 d4 d5 d6 CA3 CB3
  go_wp2
  rw [rounds_succ]
  rcases HN.out with rfl | ⟨rfl, hne⟩
  · go_wp2
    go_ret
    exact ⟨rfl, KY3.out⟩
  have HW := Lib.hid (three_ways hne)
  clear hne HN UY3
  generalize fst x1 x2 = r1 at *
  generalize fst x2 x3 = r2 at *
  generalize fst x3 x1 = r3 at *
  go_wp2
  refine wp_loop_rounds 4 ?_
  rw [rounds_succ]
  obtain ⟨⟨c0, c1, c2, c3, c4, c5, c6⟩, ⟨c7, c8, c9, c10, c11, c12, c13⟩, ⟨c14, c15, c16, c17, c18, c19, c20⟩⟩ := tB_cell XY3.out
  go_wp2
  go_still_tail 8, (by kernel_rfl)
  change wpList _ _ _ _ _ Y3.drew
  go_wp2_with fail
  with_reducible refine (FX1.out _).mono ?_
  rintro e R1 ⟨rfl, hb⟩
  have KR1 := Lib.hid (bstep KY3.out.drew KY3.out.size hb)
  have XR1 := Lib.hid (tB_grow (show (World.drew Y3).heap[w3.heap.size]? = some (tB x1 x2 x3) from XY3.out) hb)
  clear hb c0 c1 c2 c3 c4 c5 c6 c7 c8 c9 c10 c11 c12 c13 c14 c15 c16 c17 c18 c19 c20 XY3 KY3
  cases r1
  all_goals
    go_wp2
    rw [rounds_succ]
    obtain ⟨⟨c0, c1, c2, c3, c4, c5, c6⟩, ⟨c7, c8, c9, c10, c11, c12, c13⟩, ⟨c14, c15, c16, c17, c18, c19, c20⟩⟩ := tB_cell XR1.out
    go_wp2
    go_still_tail 8, (by kernel_rfl)
    change wpList _ _ _ _ _ R1.drew
    go_wp2_with fail
    with_reducible refine (FX2.out _).mono ?_
    rintro e R2 ⟨rfl, hb⟩
    have KR2 := Lib.hid (bstep KR1.out.drew KR1.out.size hb)
    have XR2 := Lib.hid (tB_grow (show (World.drew R1).heap[w3.heap.size]? = some (tB x1 x2 x3) from XR1.out) hb)
    clear hb c0 c1 c2 c3 c4 c5 c6 c7 c8 c9 c10 c11 c12 c13 c14 c15 c16 c17 c18 c19 c20 XR1 KR1
    cases r2
    all_goals
      go_wp2
      rw [rounds_succ]
      obtain ⟨⟨c0, c1, c2, c3, c4, c5, c6⟩, ⟨c7, c8, c9, c10, c11, c12, c13⟩, ⟨c14, c15, c16, c17, c18, c19, c20⟩⟩ := tB_cell XR2.out
      go_wp2
      go_still_tail 8, (by kernel_rfl)
      change wpList _ _ _ _ _ R2.drew
      go_wp2_with fail
      with_reducible refine (FX3.out _).mono ?_
      rintro e R3 ⟨rfl, hb⟩
      have KR3 := Lib.hid (bstep KR2.out.drew KR2.out.size hb)
      have XR3 := Lib.hid (tB_grow (show (World.drew R2).heap[w3.heap.size]? = some (tB x1 x2 x3) from XR2.out) hb)
      clear hb c0 c1 c2 c3 c4 c5 c6 c7 c8 c9 c10 c11 c12 c13 c14 c15 c16 c17 c18 c19 c20 XR2 KR2
      cases r3
      all_goals
        first
          | (exfalso; have := HW.out; simp at this; done)
          | (go_wp2
             rw [rounds_succ]
             go_wp2
             go_ret
             exact ⟨rfl, KR3.out⟩)
end Go.Proofs.Ytoocphkpmlgipaa
