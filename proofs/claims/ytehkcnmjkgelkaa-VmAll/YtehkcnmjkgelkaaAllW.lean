/-
  glazierlaw13.VmAll, its walk.
-/
import Derived.Test.YtehkcnmjkgelkaaRRun
import Derived.Test.YtehkcnmjkgelkaaSamplesW
namespace Go.Proofs.Ytehkcnmjkgelkaa
open Go.RowKit C
attribute [local go_sem ↓] Go.wp_at_zero Go.wp_at_succ
attribute [local go_sem high] eql8
attribute [local go_sem] guardR

set_option maxRecDepth 100000 in
set_option maxHeartbeats 8000000 in
theorem all_walk (l : List In) (A : Option Addr) (c : Nat) (t : Tx) (B : Option Addr) (k : Nat) (r0' r1' r2' r3' r4' r5' r6' r7' : Int) (hc : l.length ≤ c) (hnil : A = none → l.length = 0) (hok : ∀ x ∈ l, x.ok) (tw : I64 t.w) (th : I64 t.h) (tc : t.px.length ≤ k) (tnil : B = none → t.px.length = 0) (tok : t.ok)
    (hr : I64 r0' ∧ I64 r1' ∧ I64 r2' ∧ I64 r3' ∧ I64 r4' ∧ I64 r5' ∧ I64 r6' ∧ I64 r7') (w : World) (he : Es EI w w.heap.size A l) (te : Es EC w w.heap.size B t.px) :
    Calls Try.prog 3 #[.slice A l.length c, .agg #[.int .i64 t.w, .int .i64 t.h, .slice B t.px.length k], .agg #[.int .i64 r0', .int .i64 r1', .int .i64 r2', .int .i64 r3', .int .i64 r4', .int .i64 r5', .int .i64 r6', .int .i64 r7']] w fun e w' => e = .returned (.bool true) ∧ Below w.heap.size w w' := by
  have hR : ∀ v ∈ [r0', r1', r2', r3', r4', r5', r6', r7'], I64 v := by
    obtain ⟨b0, b1, b2, b3, b4, b5, b6, b7⟩ := hr
    intro v hv
    simp only [List.mem_cons, List.not_mem_nil, or_false] at hv
    rcases hv with rfl | rfl | rfl | rfl | rfl | rfl | rfl | rfl <;> assumption
  have HSH := Lib.hid shown_any
  have HFW := Lib.hid (C.few_any l A c hc hnil)
  have HTE := Lib.hid (Es.take te 300)
  have HLE := Lib.hid (C.Es.take he 40)
  have hok4 : ∀ x ∈ l.take 40, x.ok := fun x hx => hok x (List.mem_of_mem_take hx)
  have HF := Lib.hid (fun W (h : Es EC W W.heap.size B (fewT t).px) => fit_any (fewT t) B k W tw th h)
  obtain ⟨a0, a1, a2, a3, a4, a5, a6, a7, sa, ea, hqa⟩ := runQ_parts (l.take 40) (fewT t) [r0', r1', r2', r3', r4', r5', r6', r7'] rfl
  obtain ⟨d0, d1, d2, d3, d4, d5, d6, d7, sd, ed, hqd⟩ := runQ_parts (fitP (l.take 40)) (fitT (fewT t)) [r0', r1', r2', r3', r4', r5', r6', r7'] rfl
  have hed : ed = 0 := by
    have h := runQ_ok (R := [r0', r1', r2', r3', r4', r5', r6', r7']) (chkT_of (C.fitP_chk (l.take 40)) (.inr (fitT_right (fewT t))))
    rw [hqd] at h
    exact congrArg (fun x => x.2.2) h
  subst hed
  have hra := fun W (h1 : Es EI W W.heap.size A (l.take 40)) (h2 : Es EC W W.heap.size B (fewT t).px) => run_any (l.take 40) A c (fewT t) B k r0' r1' r2' r3' r4' r5' r6' r7' hok4 (fewT_ok tok) W h1 h2
  have hrb := fun W (h1 : Es EI W W.heap.size A (l.take 40)) (h2 : Es EC W W.heap.size B (fewT t).px) => rrun_any (l.take 40) A c (fewT t) B k r0' r1' r2' r3' r4' r5' r6' r7' hok4 (fewT_ok tok) hR W h1 h2
  have hrc := fun A' c' B' k' W (h1 : Es EI W W.heap.size A' (fitP (l.take 40))) (h2 : Es EC W W.heap.size B' (fitT (fewT t)).px) => run_any (fitP (l.take 40)) A' c' (fitT (fewT t)) B' k' r0' r1' r2' r3' r4' r5' r6' r7' (C.fitP_ok hok4) (fitT_ok (fewT_ok tok)) W h1 h2
  have hrd := fun A' c' B' k' W (h1 : Es EI W W.heap.size A' (fitP (l.take 40))) (h2 : Es EC W W.heap.size B' (fitT (fewT t)).px) => rrun_any (fitP (l.take 40)) A' c' (fitT (fewT t)) B' k' r0' r1' r2' r3' r4' r5' r6' r7' (C.fitP_ok hok4) (fitT_ok (fewT_ok tok)) hR W h1 h2
  have HFP := Lib.hid (fun W (h : Es EI W W.heap.size A (l.take 40)) => C.Fit_any (l.take 40) A c hok4 W h)
  rw [hqa] at hra hrb
  rw [hqd] at hrc hrd
  simp only [runV, regC, List.map_cons, List.map_nil] at hra hrb hrc hrd
  have HRA := Lib.hid hra
  have HRB := Lib.hid hrb
  have HRC := Lib.hid hrc
  have HRD := Lib.hid hrd
  clear hra hrb hrc hrd hqa hqd hok4 hR hr
  have B2 := Lib.hid (show Below w.heap.size w ((w.alloc (.cells #[.int .i64 t.w, .int .i64 t.h, .slice B t.px.length k] 25)).alloc (.cells #[.int .i64 r0', .int .i64 r1', .int .i64 r2', .int .i64 r3', .int .i64 r4', .int .i64 r5', .int .i64 r6', .int .i64 r7'] 26)) from (new_below _ _).alloc (by simp) _)
  have X0 := Lib.hid (show ((w.alloc (.cells #[.int .i64 t.w, .int .i64 t.h, .slice B t.px.length k] 25)).alloc (.cells #[.int .i64 r0', .int .i64 r1', .int .i64 r2', .int .i64 r3', .int .i64 r4', .int .i64 r5', .int .i64 r6', .int .i64 r7'] 26)).heap[w.heap.size]? = some (txB t B k) from new_at20 w _ _)
  have X1 := Lib.hid (show ((w.alloc (.cells #[.int .i64 t.w, .int .i64 t.h, .slice B t.px.length k] 25)).alloc (.cells #[.int .i64 r0', .int .i64 r1', .int .i64 r2', .int .i64 r3', .int .i64 r4', .int .i64 r5', .int .i64 r6', .int .i64 r7'] 26)).heap[w.heap.size + 1]? = some (RB [r0', r1', r2', r3', r4', r5', r6', r7']) from new_at2 w _ _)
  generalize l.take 40 = ll at *
  go_enter Try.func3, Try.ntmps3
  go_upto_region 3 with (first
    | (go_at_call 9; (with_reducible refine (HSH.out _).mono ?_); rintro e w1 ⟨rfl, hb⟩; have HB1 := Lib.hid (bstep B2.out B2.out.size hb); have Y0 := Lib.hid ((hb.block _ (by simp <;> omega)).trans X0.out); have Y1 := Lib.hid ((hb.block _ (by simp <;> omega)).trans X1.out); clear hb)
    | (go_at_call 10; (with_reducible refine (HFW.out _).mono ?_); rintro e w2 ⟨rfl, rfl⟩))
  clear X0 X1 B2 HSH HFW he hc hnil hok
  obtain ⟨c0, c1, c2⟩ := txB_cell Y0.out
  obtain ⟨f0, f1, f2⟩ := txB_free Y0.out
  rcases Classical.em (300 < t.px.length) with h | h
  · obtain ⟨a, rfl⟩ : ∃ a, B = some a := by
      cases B with
      | none => have := tnil rfl; omega
      | some a => exact ⟨a, rfl⟩
    have h1 : (300 : Int) < (t.px.length : Int) := by omega
    have h2 : (300 : Int) ≤ (k : Int) := by omega
    have hl := fewT_len h
    have hT := cut_tx (k := k) hl Y0.out
    have HT := Lib.hid hT
    have T1 := Lib.hid (at1_keep' (h := w.heap.size) (by omega) Y1.out 2 (.slice (some a) 300 k))
    have TB := Lib.hid (HB1.out.setCell (p := ⟨w.heap.size, 2, none⟩) (Nat.le_refl _) (.slice (some a) 300 k))
    clear hT tnil
    generalize t.px.length = tl at *
    go_upto_region 5 with fail
    have BV := Lib.hid TB.out
    have V0 := Lib.hid HT.out
    have V1 := Lib.hid T1.out
    clear TB HT T1 h1 h2 hl c0 c1 c2 f0 f1 f2
    generalize w1.setCell ⟨w.heap.size, 2, none⟩ (.slice (some a) 300 k) = V at *
    obtain ⟨B, hB⟩ : ∃ B, some a = B := ⟨_, rfl⟩
    rw [hB] at HTE HF HRA HRB V0 ⊢
    clear hB
    have h := trivial
    have tnil := trivial
    have EV := Lib.hid (show Es EC V V.heap.size B (fewT t).px from ((show Es EC w w.heap.size B (fewT t).px from HTE.out).below BV.out).more BV.out.size)
    have LV := Lib.hid (show Es EI V V.heap.size A ll from ((show Es EI w w.heap.size A ll from HLE.out).below BV.out).more BV.out.size)
    clear Y0 Y1 HB1 HTE HLE tc tnil te tw th tok h
    generalize fewT t = tt at *
    generalize fitT tt = p at *
    generalize fitP ll = pl at *
    have hv0 := txB_lt V0.out
    have hv1 := RB_lt V1.out
    have DV := Lib.hid (Below.refl V.heap.size V)
    obtain ⟨q0, q1, q2, q3, q4, q5, q6, q7⟩ := RB_cells ((DV.out.block _ hv1).trans V1.out)
    obtain ⟨c0, c1, c2⟩ := txB_cell ((DV.out.block _ hv0).trans V0.out)
    go_upto_region 6 with (go_at_call 11; (with_reducible refine (HRA.out _ LV.out EV.out).mono ?_); rintro e T ⟨rfl, hb⟩; have DT := Lib.hid (bstep DV.out DV.out.size hb); clear hb)
    have Da := Lib.hid (bstep DT.out DT.out.size (new_below T (RB [a0, a1, a2, a3, a4, a5, a6, a7])))
    have Na := Lib.hid (new_at1 T (RB [a0, a1, a2, a3, a4, a5, a6, a7]))
    clear q0 q1 q2 q3 q4 q5 q6 q7 c0 c1 c2 DT 
    change Code.wp _ _ _ _ (T.alloc (RB [a0, a1, a2, a3, a4, a5, a6, a7]))
    generalize T.alloc (RB [a0, a1, a2, a3, a4, a5, a6, a7]) = Va at *
    generalize T.heap.size = ga at *
    have Ea := Lib.hid ((EV.out.below Da.out).more Da.out.size)
    have La := Lib.hid ((LV.out.below Da.out).more Da.out.size)
    obtain ⟨q0, q1, q2, q3, q4, q5, q6, q7⟩ := RB_cells ((Da.out.block _ hv1).trans V1.out)
    obtain ⟨c0, c1, c2⟩ := txB_cell ((Da.out.block _ hv0).trans V0.out)
    go_upto_region 7 with (go_at_call 12; (with_reducible refine (HRB.out _ La.out Ea.out).mono ?_); rintro e T ⟨rfl, hb⟩; have DT := Lib.hid (bstep Da.out Da.out.size hb); have Na_ := Lib.hid ((hb.block _ (Array.getElem?_eq_some_iff.1 Na.out).1).trans Na.out); clear hb)
    have Db := Lib.hid (bstep DT.out DT.out.size (new_below T (RB [a0, a1, a2, a3, a4, a5, a6, a7])))
    have Nb := Lib.hid (new_at1 T (RB [a0, a1, a2, a3, a4, a5, a6, a7]))
    have Na := Lib.hid (new_keep (RB [a0, a1, a2, a3, a4, a5, a6, a7]) Na_.out)
    clear q0 q1 q2 q3 q4 q5 q6 q7 c0 c1 c2 DT Na_
    change Code.wp _ _ _ _ (T.alloc (RB [a0, a1, a2, a3, a4, a5, a6, a7]))
    generalize T.alloc (RB [a0, a1, a2, a3, a4, a5, a6, a7]) = Vb at *
    generalize T.heap.size = gb at *
    have Eb := Lib.hid ((EV.out.below Db.out).more Db.out.size)
    have Lb := Lib.hid ((LV.out.below Db.out).more Db.out.size)
    clear Ea La HRA HRB
    obtain ⟨c0, c1, c2⟩ := txB_cell ((Db.out.block _ hv0).trans V0.out)
    go_upto_region 8 with (go_at_call 13; (with_reducible refine (HFP.out _ Lb.out).mono ?_); rintro e Vp ⟨vp, rfl, hop, hb⟩; have Dp := Lib.hid (bstep Db.out Db.out.size hb); have Na_ := Lib.hid ((hb.block _ (Array.getElem?_eq_some_iff.1 Na.out).1).trans Na.out); have Nb_ := Lib.hid ((hb.block _ (Array.getElem?_eq_some_iff.1 Nb.out).1).trans Nb.out); obtain ⟨A3, c3, rfl, -, -, hes⟩ := hop.es; have Lp := Lib.hid hes; clear hb hop hes)
    clear c0 c1 c2 Na Nb
    have Ep := Lib.hid ((EV.out.below Dp.out).more Dp.out.size)
    obtain ⟨c0, c1, c2⟩ := txB_cell ((Dp.out.block _ hv0).trans V0.out)
    go_upto_region 9 with (go_at_call 14; (with_reducible refine (HF.out _ Ep.out).mono ?_); rintro e T ⟨A2, c2', rfl, hl2, he2, ho2, hb⟩; have DT := Lib.hid (bstep Dp.out Dp.out.size hb); have LT := Lib.hid (Lp.out.up hb); have ET := Lib.hid he2; have Na := Lib.hid ((hb.block _ (Array.getElem?_eq_some_iff.1 Na_.out).1).trans Na_.out); have Nb := Lib.hid ((hb.block _ (Array.getElem?_eq_some_iff.1 Nb_.out).1).trans Nb_.out); clear hb he2 ho2 hl2)
    have Df := Lib.hid (bstep DT.out DT.out.size (new_below T (.cells #[.int .i64 p.w, .int .i64 p.h, .slice A2 p.px.length c2'] 25)))
    have F0 := Lib.hid (show (T.alloc (.cells #[.int .i64 p.w, .int .i64 p.h, .slice A2 p.px.length c2'] 25)).heap[T.heap.size]? = some (txB p A2 c2') from new_at1 _ _)
    have Lf := Lib.hid (LT.out.up (new_below T (.cells #[.int .i64 p.w, .int .i64 p.h, .slice A2 p.px.length c2'] 25)))
    have Ef := Lib.hid (ET.out.up (new_below T (.cells #[.int .i64 p.w, .int .i64 p.h, .slice A2 p.px.length c2'] 25)))
    have Naf := Lib.hid (new_keep (.cells #[.int .i64 p.w, .int .i64 p.h, .slice A2 p.px.length c2'] 25) Na.out)
    have Nbf := Lib.hid (new_keep (.cells #[.int .i64 p.w, .int .i64 p.h, .slice A2 p.px.length c2'] 25) Nb.out)
    clear c0 c1 c2 Na_ Nb_ Na Nb DT LT ET Ep Lp Dp Eb Lb EV LV HF HFP
    generalize T.alloc (.cells #[.int .i64 p.w, .int .i64 p.h, .slice A2 p.px.length c2'] 25) = Vf at *
    generalize T.heap.size = ft at *
    obtain ⟨q0, q1, q2, q3, q4, q5, q6, q7⟩ := RB_cells ((Df.out.block _ hv1).trans V1.out)
    obtain ⟨c0, c1, c2⟩ := txB_cell F0.out
    go_upto_region 10 with (go_at_call 11; (with_reducible refine (HRC.out _ _ _ _ _ Lf.out Ef.out).mono ?_); rintro e T ⟨rfl, hb⟩; have DT := Lib.hid (bstep Df.out Df.out.size hb); have L1 := Lib.hid (Lf.out.up hb); have E1 := Lib.hid (Ef.out.up hb); have Naf_ := Lib.hid ((hb.block _ (Array.getElem?_eq_some_iff.1 Naf.out).1).trans Naf.out); have Nbf_ := Lib.hid ((hb.block _ (Array.getElem?_eq_some_iff.1 Nbf.out).1).trans Nbf.out); have F0_ := Lib.hid ((hb.block _ (Array.getElem?_eq_some_iff.1 F0.out).1).trans F0.out); clear hb)
    have Dc := Lib.hid (bstep DT.out DT.out.size (new_below T (RB [d0, d1, d2, d3, d4, d5, d6, d7])))
    have Nc := Lib.hid (new_at1 T (RB [d0, d1, d2, d3, d4, d5, d6, d7]))
    have Lc := Lib.hid (L1.out.up (new_below T (RB [d0, d1, d2, d3, d4, d5, d6, d7])))
    have Ec := Lib.hid (E1.out.up (new_below T (RB [d0, d1, d2, d3, d4, d5, d6, d7])))
    have Naf := Lib.hid (new_keep (RB [d0, d1, d2, d3, d4, d5, d6, d7]) Naf_.out)
    have Nbf := Lib.hid (new_keep (RB [d0, d1, d2, d3, d4, d5, d6, d7]) Nbf_.out)
    have F0 := Lib.hid (new_keep (RB [d0, d1, d2, d3, d4, d5, d6, d7]) F0_.out)
    clear q0 q1 q2 q3 q4 q5 q6 q7 c0 c1 c2 DT L1 E1 Naf_ Nbf_ F0_
    change Code.wp _ _ _ _ (T.alloc (RB [d0, d1, d2, d3, d4, d5, d6, d7]))
    generalize T.alloc (RB [d0, d1, d2, d3, d4, d5, d6, d7]) = Vc at *
    generalize T.heap.size = gc at *
    obtain ⟨q0, q1, q2, q3, q4, q5, q6, q7⟩ := RB_cells ((Dc.out.block _ hv1).trans V1.out)
    obtain ⟨c0, c1, c2⟩ := txB_cell F0.out
    go_upto_region 11 with (go_at_call 12; (with_reducible refine (HRD.out _ _ _ _ _ Lc.out Ec.out).mono ?_); rintro e T ⟨rfl, hb⟩; have DT := Lib.hid (bstep Dc.out Dc.out.size hb); have L1 := Lib.hid (Lc.out.up hb); have E1 := Lib.hid (Ec.out.up hb); have Naf_ := Lib.hid ((hb.block _ (Array.getElem?_eq_some_iff.1 Naf.out).1).trans Naf.out); have Nbf_ := Lib.hid ((hb.block _ (Array.getElem?_eq_some_iff.1 Nbf.out).1).trans Nbf.out); have F0_ := Lib.hid ((hb.block _ (Array.getElem?_eq_some_iff.1 F0.out).1).trans F0.out); have Nc_ := Lib.hid ((hb.block _ (Array.getElem?_eq_some_iff.1 Nc.out).1).trans Nc.out); clear hb)
    have Dd := Lib.hid (bstep DT.out DT.out.size (new_below T (RB [d0, d1, d2, d3, d4, d5, d6, d7])))
    have Nd := Lib.hid (new_at1 T (RB [d0, d1, d2, d3, d4, d5, d6, d7]))
    have Ld := Lib.hid (L1.out.up (new_below T (RB [d0, d1, d2, d3, d4, d5, d6, d7])))
    have Ed := Lib.hid (E1.out.up (new_below T (RB [d0, d1, d2, d3, d4, d5, d6, d7])))
    have Naf := Lib.hid (new_keep (RB [d0, d1, d2, d3, d4, d5, d6, d7]) Naf_.out)
    have Nbf := Lib.hid (new_keep (RB [d0, d1, d2, d3, d4, d5, d6, d7]) Nbf_.out)
    have F0 := Lib.hid (new_keep (RB [d0, d1, d2, d3, d4, d5, d6, d7]) F0_.out)
    have Nc := Lib.hid (new_keep (RB [d0, d1, d2, d3, d4, d5, d6, d7]) Nc_.out)
    clear q0 q1 q2 q3 q4 q5 q6 q7 c0 c1 c2 DT L1 E1 Naf_ Nbf_ F0_ Nc_
    change Code.wp _ _ _ _ (T.alloc (RB [d0, d1, d2, d3, d4, d5, d6, d7]))
    generalize T.alloc (RB [d0, d1, d2, d3, d4, d5, d6, d7]) = Vd at *
    generalize T.heap.size = gd at *
    obtain ⟨u0, u1, u2, u3, u4, u5, u6, u7⟩ := RB_cells Naf.out
    obtain ⟨v0, v1, v2, v3, v4, v5, v6, v7⟩ := RB_cells Nbf.out
    obtain ⟨x0, x1, x2, x3, x4, x5, x6, x7⟩ := RB_cells Nc.out
    obtain ⟨y0, y1, y2, y3, y4, y5, y6, y7⟩ := RB_cells Nd.out
    have BE := Lib.hid (bstep BV.out BV.out.size Dd.out)
    go_wp2_with fail
    go_ret
    exact ⟨rfl, BE.out⟩
  · have h1 : ¬ (300 : Int) < (t.px.length : Int) := by omega
    have e := fewT_small h
    go_upto_region 5 with fail
    rename World => V
    have BV := Lib.hid HB1.out
    have V0 := Lib.hid (show V.heap[w.heap.size]? = some (txB (fewT t) B k) by rw [e]; exact Y0.out)
    have V1 := Lib.hid Y1.out
    clear e h1 c0 c1 c2 f0 f1 f2
    have EV := Lib.hid (show Es EC V V.heap.size B (fewT t).px from ((show Es EC w w.heap.size B (fewT t).px from HTE.out).below BV.out).more BV.out.size)
    have LV := Lib.hid (show Es EI V V.heap.size A ll from ((show Es EI w w.heap.size A ll from HLE.out).below BV.out).more BV.out.size)
    clear Y0 Y1 HB1 HTE HLE tc tnil te tw th tok h
    generalize fewT t = tt at *
    generalize fitT tt = p at *
    generalize fitP ll = pl at *
    have hv0 := txB_lt V0.out
    have hv1 := RB_lt V1.out
    have DV := Lib.hid (Below.refl V.heap.size V)
    obtain ⟨q0, q1, q2, q3, q4, q5, q6, q7⟩ := RB_cells ((DV.out.block _ hv1).trans V1.out)
    obtain ⟨c0, c1, c2⟩ := txB_cell ((DV.out.block _ hv0).trans V0.out)
    go_upto_region 6 with (go_at_call 11; (with_reducible refine (HRA.out _ LV.out EV.out).mono ?_); rintro e T ⟨rfl, hb⟩; have DT := Lib.hid (bstep DV.out DV.out.size hb); clear hb)
    have Da := Lib.hid (bstep DT.out DT.out.size (new_below T (RB [a0, a1, a2, a3, a4, a5, a6, a7])))
    have Na := Lib.hid (new_at1 T (RB [a0, a1, a2, a3, a4, a5, a6, a7]))
    clear q0 q1 q2 q3 q4 q5 q6 q7 c0 c1 c2 DT 
    change Code.wp _ _ _ _ (T.alloc (RB [a0, a1, a2, a3, a4, a5, a6, a7]))
    generalize T.alloc (RB [a0, a1, a2, a3, a4, a5, a6, a7]) = Va at *
    generalize T.heap.size = ga at *
    have Ea := Lib.hid ((EV.out.below Da.out).more Da.out.size)
    have La := Lib.hid ((LV.out.below Da.out).more Da.out.size)
    obtain ⟨q0, q1, q2, q3, q4, q5, q6, q7⟩ := RB_cells ((Da.out.block _ hv1).trans V1.out)
    obtain ⟨c0, c1, c2⟩ := txB_cell ((Da.out.block _ hv0).trans V0.out)
    go_upto_region 7 with (go_at_call 12; (with_reducible refine (HRB.out _ La.out Ea.out).mono ?_); rintro e T ⟨rfl, hb⟩; have DT := Lib.hid (bstep Da.out Da.out.size hb); have Na_ := Lib.hid ((hb.block _ (Array.getElem?_eq_some_iff.1 Na.out).1).trans Na.out); clear hb)
    have Db := Lib.hid (bstep DT.out DT.out.size (new_below T (RB [a0, a1, a2, a3, a4, a5, a6, a7])))
    have Nb := Lib.hid (new_at1 T (RB [a0, a1, a2, a3, a4, a5, a6, a7]))
    have Na := Lib.hid (new_keep (RB [a0, a1, a2, a3, a4, a5, a6, a7]) Na_.out)
    clear q0 q1 q2 q3 q4 q5 q6 q7 c0 c1 c2 DT Na_
    change Code.wp _ _ _ _ (T.alloc (RB [a0, a1, a2, a3, a4, a5, a6, a7]))
    generalize T.alloc (RB [a0, a1, a2, a3, a4, a5, a6, a7]) = Vb at *
    generalize T.heap.size = gb at *
    have Eb := Lib.hid ((EV.out.below Db.out).more Db.out.size)
    have Lb := Lib.hid ((LV.out.below Db.out).more Db.out.size)
    clear Ea La HRA HRB
    obtain ⟨c0, c1, c2⟩ := txB_cell ((Db.out.block _ hv0).trans V0.out)
    go_upto_region 8 with (go_at_call 13; (with_reducible refine (HFP.out _ Lb.out).mono ?_); rintro e Vp ⟨vp, rfl, hop, hb⟩; have Dp := Lib.hid (bstep Db.out Db.out.size hb); have Na_ := Lib.hid ((hb.block _ (Array.getElem?_eq_some_iff.1 Na.out).1).trans Na.out); have Nb_ := Lib.hid ((hb.block _ (Array.getElem?_eq_some_iff.1 Nb.out).1).trans Nb.out); obtain ⟨A3, c3, rfl, -, -, hes⟩ := hop.es; have Lp := Lib.hid hes; clear hb hop hes)
    clear c0 c1 c2 Na Nb
    have Ep := Lib.hid ((EV.out.below Dp.out).more Dp.out.size)
    obtain ⟨c0, c1, c2⟩ := txB_cell ((Dp.out.block _ hv0).trans V0.out)
    go_upto_region 9 with (go_at_call 14; (with_reducible refine (HF.out _ Ep.out).mono ?_); rintro e T ⟨A2, c2', rfl, hl2, he2, ho2, hb⟩; have DT := Lib.hid (bstep Dp.out Dp.out.size hb); have LT := Lib.hid (Lp.out.up hb); have ET := Lib.hid he2; have Na := Lib.hid ((hb.block _ (Array.getElem?_eq_some_iff.1 Na_.out).1).trans Na_.out); have Nb := Lib.hid ((hb.block _ (Array.getElem?_eq_some_iff.1 Nb_.out).1).trans Nb_.out); clear hb he2 ho2 hl2)
    have Df := Lib.hid (bstep DT.out DT.out.size (new_below T (.cells #[.int .i64 p.w, .int .i64 p.h, .slice A2 p.px.length c2'] 25)))
    have F0 := Lib.hid (show (T.alloc (.cells #[.int .i64 p.w, .int .i64 p.h, .slice A2 p.px.length c2'] 25)).heap[T.heap.size]? = some (txB p A2 c2') from new_at1 _ _)
    have Lf := Lib.hid (LT.out.up (new_below T (.cells #[.int .i64 p.w, .int .i64 p.h, .slice A2 p.px.length c2'] 25)))
    have Ef := Lib.hid (ET.out.up (new_below T (.cells #[.int .i64 p.w, .int .i64 p.h, .slice A2 p.px.length c2'] 25)))
    have Naf := Lib.hid (new_keep (.cells #[.int .i64 p.w, .int .i64 p.h, .slice A2 p.px.length c2'] 25) Na.out)
    have Nbf := Lib.hid (new_keep (.cells #[.int .i64 p.w, .int .i64 p.h, .slice A2 p.px.length c2'] 25) Nb.out)
    clear c0 c1 c2 Na_ Nb_ Na Nb DT LT ET Ep Lp Dp Eb Lb EV LV HF HFP
    generalize T.alloc (.cells #[.int .i64 p.w, .int .i64 p.h, .slice A2 p.px.length c2'] 25) = Vf at *
    generalize T.heap.size = ft at *
    obtain ⟨q0, q1, q2, q3, q4, q5, q6, q7⟩ := RB_cells ((Df.out.block _ hv1).trans V1.out)
    obtain ⟨c0, c1, c2⟩ := txB_cell F0.out
    go_upto_region 10 with (go_at_call 11; (with_reducible refine (HRC.out _ _ _ _ _ Lf.out Ef.out).mono ?_); rintro e T ⟨rfl, hb⟩; have DT := Lib.hid (bstep Df.out Df.out.size hb); have L1 := Lib.hid (Lf.out.up hb); have E1 := Lib.hid (Ef.out.up hb); have Naf_ := Lib.hid ((hb.block _ (Array.getElem?_eq_some_iff.1 Naf.out).1).trans Naf.out); have Nbf_ := Lib.hid ((hb.block _ (Array.getElem?_eq_some_iff.1 Nbf.out).1).trans Nbf.out); have F0_ := Lib.hid ((hb.block _ (Array.getElem?_eq_some_iff.1 F0.out).1).trans F0.out); clear hb)
    have Dc := Lib.hid (bstep DT.out DT.out.size (new_below T (RB [d0, d1, d2, d3, d4, d5, d6, d7])))
    have Nc := Lib.hid (new_at1 T (RB [d0, d1, d2, d3, d4, d5, d6, d7]))
    have Lc := Lib.hid (L1.out.up (new_below T (RB [d0, d1, d2, d3, d4, d5, d6, d7])))
    have Ec := Lib.hid (E1.out.up (new_below T (RB [d0, d1, d2, d3, d4, d5, d6, d7])))
    have Naf := Lib.hid (new_keep (RB [d0, d1, d2, d3, d4, d5, d6, d7]) Naf_.out)
    have Nbf := Lib.hid (new_keep (RB [d0, d1, d2, d3, d4, d5, d6, d7]) Nbf_.out)
    have F0 := Lib.hid (new_keep (RB [d0, d1, d2, d3, d4, d5, d6, d7]) F0_.out)
    clear q0 q1 q2 q3 q4 q5 q6 q7 c0 c1 c2 DT L1 E1 Naf_ Nbf_ F0_
    change Code.wp _ _ _ _ (T.alloc (RB [d0, d1, d2, d3, d4, d5, d6, d7]))
    generalize T.alloc (RB [d0, d1, d2, d3, d4, d5, d6, d7]) = Vc at *
    generalize T.heap.size = gc at *
    obtain ⟨q0, q1, q2, q3, q4, q5, q6, q7⟩ := RB_cells ((Dc.out.block _ hv1).trans V1.out)
    obtain ⟨c0, c1, c2⟩ := txB_cell F0.out
    go_upto_region 11 with (go_at_call 12; (with_reducible refine (HRD.out _ _ _ _ _ Lc.out Ec.out).mono ?_); rintro e T ⟨rfl, hb⟩; have DT := Lib.hid (bstep Dc.out Dc.out.size hb); have L1 := Lib.hid (Lc.out.up hb); have E1 := Lib.hid (Ec.out.up hb); have Naf_ := Lib.hid ((hb.block _ (Array.getElem?_eq_some_iff.1 Naf.out).1).trans Naf.out); have Nbf_ := Lib.hid ((hb.block _ (Array.getElem?_eq_some_iff.1 Nbf.out).1).trans Nbf.out); have F0_ := Lib.hid ((hb.block _ (Array.getElem?_eq_some_iff.1 F0.out).1).trans F0.out); have Nc_ := Lib.hid ((hb.block _ (Array.getElem?_eq_some_iff.1 Nc.out).1).trans Nc.out); clear hb)
    have Dd := Lib.hid (bstep DT.out DT.out.size (new_below T (RB [d0, d1, d2, d3, d4, d5, d6, d7])))
    have Nd := Lib.hid (new_at1 T (RB [d0, d1, d2, d3, d4, d5, d6, d7]))
    have Ld := Lib.hid (L1.out.up (new_below T (RB [d0, d1, d2, d3, d4, d5, d6, d7])))
    have Ed := Lib.hid (E1.out.up (new_below T (RB [d0, d1, d2, d3, d4, d5, d6, d7])))
    have Naf := Lib.hid (new_keep (RB [d0, d1, d2, d3, d4, d5, d6, d7]) Naf_.out)
    have Nbf := Lib.hid (new_keep (RB [d0, d1, d2, d3, d4, d5, d6, d7]) Nbf_.out)
    have F0 := Lib.hid (new_keep (RB [d0, d1, d2, d3, d4, d5, d6, d7]) F0_.out)
    have Nc := Lib.hid (new_keep (RB [d0, d1, d2, d3, d4, d5, d6, d7]) Nc_.out)
    clear q0 q1 q2 q3 q4 q5 q6 q7 c0 c1 c2 DT L1 E1 Naf_ Nbf_ F0_ Nc_
    change Code.wp _ _ _ _ (T.alloc (RB [d0, d1, d2, d3, d4, d5, d6, d7]))
    generalize T.alloc (RB [d0, d1, d2, d3, d4, d5, d6, d7]) = Vd at *
    generalize T.heap.size = gd at *
    obtain ⟨u0, u1, u2, u3, u4, u5, u6, u7⟩ := RB_cells Naf.out
    obtain ⟨v0, v1, v2, v3, v4, v5, v6, v7⟩ := RB_cells Nbf.out
    obtain ⟨x0, x1, x2, x3, x4, x5, x6, x7⟩ := RB_cells Nc.out
    obtain ⟨y0, y1, y2, y3, y4, y5, y6, y7⟩ := RB_cells Nd.out
    have BE := Lib.hid (bstep BV.out BV.out.size Dd.out)
    go_wp2_with fail
    go_ret
    exact ⟨rfl, BE.out⟩
end Go.Proofs.Ytehkcnmjkgelkaa
