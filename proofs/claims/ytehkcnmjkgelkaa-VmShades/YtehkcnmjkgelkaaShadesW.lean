/-
  glazierlaw13.VmShades, its walk.
-/
import Derived.Test.YtehkcnmjkgelkaaShadeV
import Derived.Test.YtehkcnmjkgelkaaSamplesW
namespace Go.Proofs.Ytehkcnmjkgelkaa
open Go.RowKit C
attribute [local go_sem ↓] Go.wp_at_zero Go.wp_at_succ
attribute [local go_sem high] eqlC
attribute [local go_sem] guardC sameC_self

def sixB (n0 n1 n2 n3 n4 n5 : Int) : Obj := .cells #[.int .i64 n0, .int .i64 n1, .int .i64 n2, .int .i64 n3, .int .i64 n4, .int .i64 n5] 35
theorem sixB_cell {w : World} {g : Nat} {n0 n1 n2 n3 n4 n5 : Int} (h : w.heap[g]? = some (sixB n0 n1 n2 n3 n4 n5)) :
    w.cell? ⟨g, 0, none⟩ = some (.int .i64 n0) ∧ w.cell? ⟨g, 1, none⟩ = some (.int .i64 n1) ∧ w.cell? ⟨g, 2, none⟩ = some (.int .i64 n2) ∧ w.cell? ⟨g, 3, none⟩ = some (.int .i64 n3) ∧ w.cell? ⟨g, 4, none⟩ = some (.int .i64 n4) ∧ w.cell? ⟨g, 5, none⟩ = some (.int .i64 n5) := by
  unfold sixB at h
  exact ⟨Joins.cell_of_block h 0, Joins.cell_of_block h 1, Joins.cell_of_block h 2, Joins.cell_of_block h 3, Joins.cell_of_block h 4, Joins.cell_of_block h 5⟩
def fourB (n0 n1 n2 n3 : Int) : Obj := .cells #[.int .i64 n0, .int .i64 n1, .int .i64 n2, .int .i64 n3] 36
theorem fourB_cell {w : World} {g : Nat} {n0 n1 n2 n3 : Int} (h : w.heap[g]? = some (fourB n0 n1 n2 n3)) :
    w.cell? ⟨g, 0, none⟩ = some (.int .i64 n0) ∧ w.cell? ⟨g, 1, none⟩ = some (.int .i64 n1) ∧ w.cell? ⟨g, 2, none⟩ = some (.int .i64 n2) ∧ w.cell? ⟨g, 3, none⟩ = some (.int .i64 n3) := by
  unfold fourB at h
  exact ⟨Joins.cell_of_block h 0, Joins.cell_of_block h 1, Joins.cell_of_block h 2, Joins.cell_of_block h 3⟩
theorem shade_fits (l : List In) (t : Tx) (R : List Int) : ∃ (c : Col) (s : Nat), shadeQ (fitP l) (fitT t) R = (c, s, 0) ∧ c.ok ∧ c.right ∧ 1 ≤ s ∧ s ≤ (fitP l).length := by
  have h := runQ_ok (R := R) (chkT_of (C.fitP_chk l) (.inr (fitT_right t)))
  obtain ⟨hok, hr⟩ := shadeQ_ok (fitP l) (fitT t) R
  have hl := C.fitP_len l
  obtain ⟨f1, f2, f3⟩ := fin_steps (l := fitP l) (t := fitT t) (fitP l).length 0 (R.map w32) 0
  have hs : shadeQ (fitP l) (fitT t) R = (pre (clC (runQ (fitP l) (fitT t) R).1), (runQ (fitP l) (fitT t) R).2.1, 0) := by
    unfold shadeQ
    rw [h, if_pos rfl]
  rw [hs] at hok hr
  refine ⟨_, _, hs, hok, hr, ?_, ?_⟩
  · rw [h]
    exact f2 (by omega) (by omega)
  · rw [h]
    show (fin (fitP l) (fitT t) (fitP l).length 0 (R.map w32) 0).2 ≤ _
    omega
set_option maxRecDepth 100000 in
set_option maxHeartbeats 8000000 in
theorem shades_walk (l : List In) (A : Option Addr) (c : Nat) (t : Tx) (B : Option Addr) (k : Nat) (n0 n1 n2 n3 n4 n5 : Int) (_ : l.length ≤ c) (_ : A = none → l.length = 0) (hok : ∀ x ∈ l, x.ok) (tw : I64 t.w) (th : I64 t.h) (tc : t.px.length ≤ k) (tnil : B = none → t.px.length = 0) (tok : t.ok)
    (hn : I64 n0 ∧ I64 n1 ∧ I64 n2 ∧ I64 n3 ∧ I64 n4 ∧ I64 n5) (w : World) (he : Es EI w w.heap.size A l) (te : Es EC w w.heap.size B t.px) :
    Calls Try.prog 4 #[.slice A l.length c, .agg #[.int .i64 t.w, .int .i64 t.h, .slice B t.px.length k], .agg #[.int .i64 n0, .int .i64 n1, .int .i64 n2, .int .i64 n3, .int .i64 n4, .int .i64 n5]] w fun e w' => e = .returned (.bool true) ∧ Below w.heap.size w w' := by
  have hR : ∀ v ∈ [n0, n1, n2, n3, n4, n5, 0, 0], I64 v := by
    obtain ⟨b0, b1, b2, b3, b4, b5⟩ := hn
    have bz : I64 0 := by unfold I64; omega
    intro v hv
    simp only [List.mem_cons, List.not_mem_nil, or_false] at hv
    rcases hv with rfl | rfl | rfl | rfl | rfl | rfl | rfl | rfl <;> assumption
  have HSH := Lib.hid shown_any
  have HTE := Lib.hid (Es.take te 300)
  have HLE := Lib.hid he
  have HF := Lib.hid (fun W (h : Es EC W W.heap.size B (fewT t).px) => fit_any (fewT t) B k W tw th h)
  have HFP := Lib.hid (fun W (h : Es EI W W.heap.size A l) => C.Fit_any l A c hok W h)
  obtain ⟨cq, sq, hqa, hqok, hqr, hs1, hs2⟩ := shade_fits l (fewT t) [n0, n1, n2, n3, n4, n5, 0, 0]
  obtain ⟨⟨cz, sz, ez⟩, hqz⟩ : ∃ Q, shadeQ l noT [n0, n1, n2, n3, n4, n5, 0, 0] = Q := ⟨_, rfl⟩
  have hra := fun A' c' B' k' W (h1 : Es EI W W.heap.size A' (fitP l)) (h2 : Es EC W W.heap.size B' (fitT (fewT t)).px) => shade_any (fitP l) A' c' (fitT (fewT t)) B' k' n0 n1 n2 n3 n4 n5 (C.fitP_ok hok) (fitT_ok (fewT_ok tok)) W h1 h2
  have hrb := fun A' c' B' k' W (h1 : Es EI W W.heap.size A' (fitP l)) (h2 : Es EC W W.heap.size B' (fitT (fewT t)).px) => rshade_any (fitP l) A' c' (fitT (fewT t)) B' k' n0 n1 n2 n3 n4 n5 (C.fitP_ok hok) (fitT_ok (fewT_ok tok)) hR W h1 h2
  have hrc := fun W (h1 : Es EI W W.heap.size A l) => shade_any l A c noT none 0 n0 n1 n2 n3 n4 n5 hok noT_ok W h1 Es.none_
  have hrd := fun W (h1 : Es EI W W.heap.size A l) => rshade_any l A c noT none 0 n0 n1 n2 n3 n4 n5 hok noT_ok hR W h1 Es.none_
  rw [hqa] at hra hrb
  rw [hqz] at hrc hrd
  simp only [shadeV] at hra hrb hrc hrd
  have HRA := Lib.hid hra
  have HRB := Lib.hid hrb
  have HRC := Lib.hid (fun W (h1 : Es EI W W.heap.size A l) => show Calls Try.prog 15 #[.slice A l.length c, .agg #[.int .i64 0, .int .i64 0, .slice none 0 0], .agg #[.int .i64 n0, .int .i64 n1, .int .i64 n2, .int .i64 n3], .int .i64 n4, .int .i64 n5] W fun e w' => e = .returned (.tuple #[.agg #[.int .u8 cz.r, .int .u8 cz.g, .int .u8 cz.b, .int .u8 cz.a], .int .i64 sz, .int .i64 ez]) ∧ Below W.heap.size W w' from hrc W h1)
  have HRD := Lib.hid (fun W (h1 : Es EI W W.heap.size A l) => show Calls Try.prog 16 #[.slice A l.length c, .agg #[.int .i64 0, .int .i64 0, .slice none 0 0], .agg #[.int .i64 n0, .int .i64 n1, .int .i64 n2, .int .i64 n3], .int .i64 n4, .int .i64 n5] W fun e w' => e = .returned (.tuple #[.agg #[.int .u8 cz.r, .int .u8 cz.g, .int .u8 cz.b, .int .u8 cz.a], .int .i64 sz, .int .i64 ez]) ∧ Below W.heap.size W w' from hrd W h1)
  have HRT := Lib.hid (rright_any cq)
  rw [rightB_of hqr] at HRT
  have hlp := C.fitP_len l
  clear hra hrb hrc hrd hqa hqz hR hn hqok hqr
  have B2 := Lib.hid (show Below w.heap.size w ((w.alloc (.cells #[.int .i64 t.w, .int .i64 t.h, .slice B t.px.length k] 25)).alloc (.cells #[.int .i64 n0, .int .i64 n1, .int .i64 n2, .int .i64 n3, .int .i64 n4, .int .i64 n5] 35)) from (new_below _ _).alloc (by simp) _)
  have X0 := Lib.hid (show ((w.alloc (.cells #[.int .i64 t.w, .int .i64 t.h, .slice B t.px.length k] 25)).alloc (.cells #[.int .i64 n0, .int .i64 n1, .int .i64 n2, .int .i64 n3, .int .i64 n4, .int .i64 n5] 35)).heap[w.heap.size]? = some (txB t B k) from new_at20 w _ _)
  have X1 := Lib.hid (show ((w.alloc (.cells #[.int .i64 t.w, .int .i64 t.h, .slice B t.px.length k] 25)).alloc (.cells #[.int .i64 n0, .int .i64 n1, .int .i64 n2, .int .i64 n3, .int .i64 n4, .int .i64 n5] 35)).heap[w.heap.size + 1]? = some (sixB n0 n1 n2 n3 n4 n5) from new_at2 w _ _)
  generalize fitP l = pl at *
  go_enter Try.func4, Try.ntmps4
  go_upto_region 3 with (first
    | (go_at_call 9; (with_reducible refine (HSH.out _).mono ?_); rintro e w1 ⟨rfl, hb⟩; have HB1 := Lib.hid (bstep B2.out B2.out.size hb); have Z0 := Lib.hid ((hb.block _ (by simp <;> omega)).trans X0.out); have Z1 := Lib.hid ((hb.block _ (by simp <;> omega)).trans X1.out); have E1 := Lib.hid (HLE.out.up HB1.out); clear hb)
    | (go_at_call 13; (with_reducible refine (HFP.out _ E1.out).mono ?_); rintro e w2 ⟨vp, rfl, hop, hb⟩; have HB2 := Lib.hid (bstep HB1.out HB1.out.size hb); have Y0 := Lib.hid ((hb.block _ (txB_lt Z0.out)).trans Z0.out); have Y1 := Lib.hid ((hb.block _ (Array.getElem?_eq_some_iff.1 Z1.out).1).trans Z1.out); obtain ⟨A3, c3, rfl⟩ := hop.form; have HOP := Lib.hid hop; clear hb hop))
  have hw1 := txB_lt Z0.out
  clear X0 X1 B2 HSH E1 Z0 Z1 HB1 HFP
  obtain ⟨c0, c1, c2⟩ := txB_cell Y0.out
  obtain ⟨f0, f1, f2⟩ := txB_free Y0.out
  rcases Classical.em (300 < t.px.length) with h | h
  · obtain ⟨a, rfl⟩ : ∃ a, B = some a := by
      cases B with
      | none => have := tnil rfl; omega
      | some a => exact ⟨a, rfl⟩
    have h1 : (300 : Int) < (t.px.length : Int) := by omega
    have h2 : (300 : Int) ≤ (k : Int) := by omega
    have hl := fewT_len h
    have hT := cut_tx (k := k) hl Y0.out
    have HT := Lib.hid hT
    have T1 := Lib.hid (at1_keep' (h := w.heap.size) (by omega) Y1.out 2 (.slice (some a) 300 k))
    have TB := Lib.hid (HB2.out.setCell (p := ⟨w.heap.size, 2, none⟩) (Nat.le_refl _) (.slice (some a) 300 k))
    have TO := Lib.hid (HOP.out.setCell (o := 2) (u := .slice (some a) 300 k) hw1)
    clear hT tnil
    generalize t.px.length = tl at *
    go_upto_region 5 with fail
    have BV := Lib.hid TB.out
    have V0 := Lib.hid HT.out
    have V1 := Lib.hid T1.out
    have OV := Lib.hid TO.out
    clear TB HT T1 TO h1 h2 hl c0 c1 c2 f0 f1 f2 HOP hw1
    generalize w2.setCell ⟨w.heap.size, 2, none⟩ (.slice (some a) 300 k) = V at *
    obtain ⟨B, hB⟩ : ∃ B, some a = B := ⟨_, rfl⟩
    rw [hB] at HTE HF V0 ⊢
    clear hB
    have h := trivial
    have tnil := trivial
    have EV := Lib.hid (show Es EC V V.heap.size B (fewT t).px from ((show Es EC w w.heap.size B (fewT t).px from HTE.out).below BV.out).more BV.out.size)
    obtain ⟨A4, c4, ev, -, -, hes⟩ := OV.out.es
    obtain ⟨rfl, rfl⟩ : A3 = A4 ∧ c3 = c4 := by
      simp only [Value.slice.injEq] at ev
      exact ⟨ev.1, ev.2.2⟩
    have LV := Lib.hid hes
    have MV := Lib.hid (show Es EI V V.heap.size A l from ((show Es EI w w.heap.size A l from HLE.out).below BV.out).more BV.out.size)
    clear Y0 Y1 HB2 HTE HLE OV hes ev tc tnil te tw th tok h hok he
    generalize fewT t = tt at *
    generalize fitT tt = p at *
    have hv0 := txB_lt V0.out
    have hv1 := (Array.getElem?_eq_some_iff.1 V1.out).1
    obtain ⟨c0, c1, c2⟩ := txB_cell V0.out
    go_upto_region 6 with (go_at_call 14; (with_reducible refine (HF.out _ EV.out).mono ?_); rintro e T ⟨A2, c2', rfl, hl2, he2, ho2, hb⟩; have BT := Lib.hid (bstep BV.out BV.out.size hb); have ST := Lib.hid ((hb.block _ hv1).trans V1.out); have LT := Lib.hid (LV.out.up hb); have MT := Lib.hid (MV.out.up hb); have ET := Lib.hid he2; clear hb he2 ho2 hl2)
    have BU0 := Lib.hid (bstep BT.out BT.out.size (new_below T (.cells #[.int .i64 p.w, .int .i64 p.h, .slice A2 p.px.length c2'] 25)))
    have U0 := Lib.hid (show (T.alloc (.cells #[.int .i64 p.w, .int .i64 p.h, .slice A2 p.px.length c2'] 25)).heap[T.heap.size]? = some (txB p A2 c2') from new_at1 _ _)
    have S0 := Lib.hid (new_keep (.cells #[.int .i64 p.w, .int .i64 p.h, .slice A2 p.px.length c2'] 25) ST.out)
    have L0 := Lib.hid (LT.out.up (new_below T (.cells #[.int .i64 p.w, .int .i64 p.h, .slice A2 p.px.length c2'] 25)))
    have M0 := Lib.hid (MT.out.up (new_below T (.cells #[.int .i64 p.w, .int .i64 p.h, .slice A2 p.px.length c2'] 25)))
    have E0 := Lib.hid (ET.out.up (new_below T (.cells #[.int .i64 p.w, .int .i64 p.h, .slice A2 p.px.length c2'] 25)))
    clear c0 c1 c2 BT ST LT MT ET EV LV MV HF V0 V1 hv0 hv1 BV
    generalize T.alloc (.cells #[.int .i64 p.w, .int .i64 p.h, .slice A2 p.px.length c2'] 25) = U at *
    generalize T.heap.size = ft at *
    obtain ⟨s0, s1, s2, s3, s4, s5⟩ := sixB_cell S0.out
    go_upto_region 7 with fail
    have BG := Lib.hid (bstep BU0.out BU0.out.size (new_below U (fourB n0 n1 n2 n3)))
    have G0 := Lib.hid (new_at1 U (fourB n0 n1 n2 n3))
    have T0 := Lib.hid (new_keep (fourB n0 n1 n2 n3) U0.out)
    have S1 := Lib.hid (new_keep (fourB n0 n1 n2 n3) S0.out)
    have L1 := Lib.hid (L0.out.up (new_below U (fourB n0 n1 n2 n3)))
    have M1 := Lib.hid (M0.out.up (new_below U (fourB n0 n1 n2 n3)))
    have E1 := Lib.hid (E0.out.up (new_below U (fourB n0 n1 n2 n3)))
    clear s0 s1 s2 s3 s4 s5 BU0 U0 S0 L0 M0 E0
    change Code.wp _ _ _ _ (U.alloc (fourB n0 n1 n2 n3))
    generalize U.alloc (fourB n0 n1 n2 n3) = V at *
    generalize U.heap.size = gt at *
    have hg0 := (Array.getElem?_eq_some_iff.1 G0.out).1
    have hs0 := (Array.getElem?_eq_some_iff.1 S1.out).1
    have ht0 := txB_lt T0.out
    have D0 := Lib.hid (Below.refl V.heap.size V)
    obtain ⟨s0, s1, s2, s3, s4, s5⟩ := sixB_cell ((D0.out.block _ hs0).trans S1.out)
    obtain ⟨g0, g1, g2, g3⟩ := fourB_cell ((D0.out.block _ hg0).trans G0.out)
    obtain ⟨c0, c1, c2⟩ := txB_cell ((D0.out.block _ ht0).trans T0.out)
    have LX := Lib.hid ((L1.out.below D0.out).more D0.out.size)
    have MX := Lib.hid ((M1.out.below D0.out).more D0.out.size)
    have EX := Lib.hid ((E1.out.below D0.out).more D0.out.size)
    go_upto_region 8 with (go_at_call 15; (with_reducible refine (HRA.out _ _ _ _ _ LX.out EX.out).mono ?_); rintro e T ⟨rfl, hb⟩; have DT := Lib.hid (bstep D0.out D0.out.size hb); clear hb)
    have D1 := Lib.hid (bstep DT.out DT.out.size (new_below T (colB cq)))
    have N0 := Lib.hid (new_at1 T (colB cq))
    clear s0 s1 s2 s3 s4 s5 g0 g1 g2 g3 LX MX EX DT c0 c1 c2 
    change Code.wp _ _ _ _ (T.alloc (colB cq))
    generalize T.alloc (colB cq) = W0 at *
    generalize T.heap.size = b0 at *
    obtain ⟨s0, s1, s2, s3, s4, s5⟩ := sixB_cell ((D1.out.block _ hs0).trans S1.out)
    obtain ⟨g0, g1, g2, g3⟩ := fourB_cell ((D1.out.block _ hg0).trans G0.out)
    obtain ⟨c0, c1, c2⟩ := txB_cell ((D1.out.block _ ht0).trans T0.out)
    have LX := Lib.hid ((L1.out.below D1.out).more D1.out.size)
    have MX := Lib.hid ((M1.out.below D1.out).more D1.out.size)
    have EX := Lib.hid ((E1.out.below D1.out).more D1.out.size)
    go_upto_region 9 with (go_at_call 16; (with_reducible refine (HRB.out _ _ _ _ _ LX.out EX.out).mono ?_); rintro e T ⟨rfl, hb⟩; have DT := Lib.hid (bstep D1.out D1.out.size hb); have N0_ := Lib.hid ((hb.block _ (Array.getElem?_eq_some_iff.1 N0.out).1).trans N0.out); clear hb)
    have D2 := Lib.hid (bstep DT.out DT.out.size (new_below T (colB cq)))
    have N1 := Lib.hid (new_at1 T (colB cq))
    have N0 := Lib.hid (new_keep (colB cq) N0_.out)
    clear s0 s1 s2 s3 s4 s5 g0 g1 g2 g3 LX MX EX DT c0 c1 c2 N0_
    change Code.wp _ _ _ _ (T.alloc (colB cq))
    generalize T.alloc (colB cq) = W1 at *
    generalize T.heap.size = b1 at *
    obtain ⟨s0, s1, s2, s3, s4, s5⟩ := sixB_cell ((D2.out.block _ hs0).trans S1.out)
    obtain ⟨g0, g1, g2, g3⟩ := fourB_cell ((D2.out.block _ hg0).trans G0.out)
    have LX := Lib.hid ((L1.out.below D2.out).more D2.out.size)
    have MX := Lib.hid ((M1.out.below D2.out).more D2.out.size)
    have EX := Lib.hid ((E1.out.below D2.out).more D2.out.size)
    go_upto_region 10 with (go_at_call 15; (with_reducible refine (HRC.out _ MX.out).mono ?_); rintro e T ⟨rfl, hb⟩; have DT := Lib.hid (bstep D2.out D2.out.size hb); have N0_ := Lib.hid ((hb.block _ (Array.getElem?_eq_some_iff.1 N0.out).1).trans N0.out); have N1_ := Lib.hid ((hb.block _ (Array.getElem?_eq_some_iff.1 N1.out).1).trans N1.out); clear hb)
    have D3 := Lib.hid (bstep DT.out DT.out.size (new_below T (colB cz)))
    have N2 := Lib.hid (new_at1 T (colB cz))
    have N0 := Lib.hid (new_keep (colB cz) N0_.out)
    have N1 := Lib.hid (new_keep (colB cz) N1_.out)
    clear s0 s1 s2 s3 s4 s5 g0 g1 g2 g3 LX MX EX DT  N0_ N1_
    change Code.wp _ _ _ _ (T.alloc (colB cz))
    generalize T.alloc (colB cz) = W2 at *
    generalize T.heap.size = b2 at *
    obtain ⟨s0, s1, s2, s3, s4, s5⟩ := sixB_cell ((D3.out.block _ hs0).trans S1.out)
    obtain ⟨g0, g1, g2, g3⟩ := fourB_cell ((D3.out.block _ hg0).trans G0.out)
    have LX := Lib.hid ((L1.out.below D3.out).more D3.out.size)
    have MX := Lib.hid ((M1.out.below D3.out).more D3.out.size)
    have EX := Lib.hid ((E1.out.below D3.out).more D3.out.size)
    go_upto_region 11 with (go_at_call 16; (with_reducible refine (HRD.out _ MX.out).mono ?_); rintro e T ⟨rfl, hb⟩; have DT := Lib.hid (bstep D3.out D3.out.size hb); have N0_ := Lib.hid ((hb.block _ (Array.getElem?_eq_some_iff.1 N0.out).1).trans N0.out); have N1_ := Lib.hid ((hb.block _ (Array.getElem?_eq_some_iff.1 N1.out).1).trans N1.out); have N2_ := Lib.hid ((hb.block _ (Array.getElem?_eq_some_iff.1 N2.out).1).trans N2.out); clear hb)
    have D4 := Lib.hid (bstep DT.out DT.out.size (new_below T (colB cz)))
    have N3 := Lib.hid (new_at1 T (colB cz))
    have N0 := Lib.hid (new_keep (colB cz) N0_.out)
    have N1 := Lib.hid (new_keep (colB cz) N1_.out)
    have N2 := Lib.hid (new_keep (colB cz) N2_.out)
    clear s0 s1 s2 s3 s4 s5 g0 g1 g2 g3 LX MX EX DT  N0_ N1_ N2_
    change Code.wp _ _ _ _ (T.alloc (colB cz))
    generalize T.alloc (colB cz) = W3 at *
    generalize T.heap.size = b3 at *
    have BE := Lib.hid (bstep BG.out BG.out.size D4.out)
    obtain ⟨c0, c1, c2, c3⟩ := colB_cell N0.out
    go_upto_region 12 with (go_at_call 17; (with_reducible refine (HRT.out _).mono ?_); rintro e T ⟨rfl, hb⟩; have BF := Lib.hid (bstep BE.out BE.out.size hb); have M0 := Lib.hid ((hb.block _ (Array.getElem?_eq_some_iff.1 N0.out).1).trans N0.out); have M1 := Lib.hid ((hb.block _ (Array.getElem?_eq_some_iff.1 N1.out).1).trans N1.out); have M2 := Lib.hid ((hb.block _ (Array.getElem?_eq_some_iff.1 N2.out).1).trans N2.out); have M3 := Lib.hid ((hb.block _ (Array.getElem?_eq_some_iff.1 N3.out).1).trans N3.out); clear hb)
    clear c0 c1 c2 c3
    obtain ⟨u0, u1, u2, u3⟩ := colB_cell M0.out
    obtain ⟨v0, v1, v2, v3⟩ := colB_cell M1.out
    obtain ⟨x0, x1, x2, x3⟩ := colB_cell M2.out
    obtain ⟨y0, y1, y2, y3⟩ := colB_cell M3.out
    have hs1' : (1 : Int) ≤ (sq : Int) := by omega
    have hs2' : (sq : Int) ≤ (pl.length : Int) := by omega
    go_wp2_with fail
    go_ret
    exact ⟨rfl, BF.out⟩
  · have h1 : ¬ (300 : Int) < (t.px.length : Int) := by omega
    have e := fewT_small h
    go_upto_region 5 with fail
    rename World => V
    have BV := Lib.hid HB2.out
    have V0 := Lib.hid (show V.heap[w.heap.size]? = some (txB (fewT t) B k) by rw [e]; exact Y0.out)
    have V1 := Lib.hid Y1.out
    have OV := Lib.hid HOP.out
    clear e h1 c0 c1 c2 f0 f1 f2 HOP hw1
    have EV := Lib.hid (show Es EC V V.heap.size B (fewT t).px from ((show Es EC w w.heap.size B (fewT t).px from HTE.out).below BV.out).more BV.out.size)
    obtain ⟨A4, c4, ev, -, -, hes⟩ := OV.out.es
    obtain ⟨rfl, rfl⟩ : A3 = A4 ∧ c3 = c4 := by
      simp only [Value.slice.injEq] at ev
      exact ⟨ev.1, ev.2.2⟩
    have LV := Lib.hid hes
    have MV := Lib.hid (show Es EI V V.heap.size A l from ((show Es EI w w.heap.size A l from HLE.out).below BV.out).more BV.out.size)
    clear Y0 Y1 HB2 HTE HLE OV hes ev tc tnil te tw th tok h hok he
    generalize fewT t = tt at *
    generalize fitT tt = p at *
    have hv0 := txB_lt V0.out
    have hv1 := (Array.getElem?_eq_some_iff.1 V1.out).1
    obtain ⟨c0, c1, c2⟩ := txB_cell V0.out
    go_upto_region 6 with (go_at_call 14; (with_reducible refine (HF.out _ EV.out).mono ?_); rintro e T ⟨A2, c2', rfl, hl2, he2, ho2, hb⟩; have BT := Lib.hid (bstep BV.out BV.out.size hb); have ST := Lib.hid ((hb.block _ hv1).trans V1.out); have LT := Lib.hid (LV.out.up hb); have MT := Lib.hid (MV.out.up hb); have ET := Lib.hid he2; clear hb he2 ho2 hl2)
    have BU0 := Lib.hid (bstep BT.out BT.out.size (new_below T (.cells #[.int .i64 p.w, .int .i64 p.h, .slice A2 p.px.length c2'] 25)))
    have U0 := Lib.hid (show (T.alloc (.cells #[.int .i64 p.w, .int .i64 p.h, .slice A2 p.px.length c2'] 25)).heap[T.heap.size]? = some (txB p A2 c2') from new_at1 _ _)
    have S0 := Lib.hid (new_keep (.cells #[.int .i64 p.w, .int .i64 p.h, .slice A2 p.px.length c2'] 25) ST.out)
    have L0 := Lib.hid (LT.out.up (new_below T (.cells #[.int .i64 p.w, .int .i64 p.h, .slice A2 p.px.length c2'] 25)))
    have M0 := Lib.hid (MT.out.up (new_below T (.cells #[.int .i64 p.w, .int .i64 p.h, .slice A2 p.px.length c2'] 25)))
    have E0 := Lib.hid (ET.out.up (new_below T (.cells #[.int .i64 p.w, .int .i64 p.h, .slice A2 p.px.length c2'] 25)))
    clear c0 c1 c2 BT ST LT MT ET EV LV MV HF V0 V1 hv0 hv1 BV
    generalize T.alloc (.cells #[.int .i64 p.w, .int .i64 p.h, .slice A2 p.px.length c2'] 25) = U at *
    generalize T.heap.size = ft at *
    obtain ⟨s0, s1, s2, s3, s4, s5⟩ := sixB_cell S0.out
    go_upto_region 7 with fail
    have BG := Lib.hid (bstep BU0.out BU0.out.size (new_below U (fourB n0 n1 n2 n3)))
    have G0 := Lib.hid (new_at1 U (fourB n0 n1 n2 n3))
    have T0 := Lib.hid (new_keep (fourB n0 n1 n2 n3) U0.out)
    have S1 := Lib.hid (new_keep (fourB n0 n1 n2 n3) S0.out)
    have L1 := Lib.hid (L0.out.up (new_below U (fourB n0 n1 n2 n3)))
    have M1 := Lib.hid (M0.out.up (new_below U (fourB n0 n1 n2 n3)))
    have E1 := Lib.hid (E0.out.up (new_below U (fourB n0 n1 n2 n3)))
    clear s0 s1 s2 s3 s4 s5 BU0 U0 S0 L0 M0 E0
    change Code.wp _ _ _ _ (U.alloc (fourB n0 n1 n2 n3))
    generalize U.alloc (fourB n0 n1 n2 n3) = V at *
    generalize U.heap.size = gt at *
    have hg0 := (Array.getElem?_eq_some_iff.1 G0.out).1
    have hs0 := (Array.getElem?_eq_some_iff.1 S1.out).1
    have ht0 := txB_lt T0.out
    have D0 := Lib.hid (Below.refl V.heap.size V)
    obtain ⟨s0, s1, s2, s3, s4, s5⟩ := sixB_cell ((D0.out.block _ hs0).trans S1.out)
    obtain ⟨g0, g1, g2, g3⟩ := fourB_cell ((D0.out.block _ hg0).trans G0.out)
    obtain ⟨c0, c1, c2⟩ := txB_cell ((D0.out.block _ ht0).trans T0.out)
    have LX := Lib.hid ((L1.out.below D0.out).more D0.out.size)
    have MX := Lib.hid ((M1.out.below D0.out).more D0.out.size)
    have EX := Lib.hid ((E1.out.below D0.out).more D0.out.size)
    go_upto_region 8 with (go_at_call 15; (with_reducible refine (HRA.out _ _ _ _ _ LX.out EX.out).mono ?_); rintro e T ⟨rfl, hb⟩; have DT := Lib.hid (bstep D0.out D0.out.size hb); clear hb)
    have D1 := Lib.hid (bstep DT.out DT.out.size (new_below T (colB cq)))
    have N0 := Lib.hid (new_at1 T (colB cq))
    clear s0 s1 s2 s3 s4 s5 g0 g1 g2 g3 LX MX EX DT c0 c1 c2 
    change Code.wp _ _ _ _ (T.alloc (colB cq))
    generalize T.alloc (colB cq) = W0 at *
    generalize T.heap.size = b0 at *
    obtain ⟨s0, s1, s2, s3, s4, s5⟩ := sixB_cell ((D1.out.block _ hs0).trans S1.out)
    obtain ⟨g0, g1, g2, g3⟩ := fourB_cell ((D1.out.block _ hg0).trans G0.out)
    obtain ⟨c0, c1, c2⟩ := txB_cell ((D1.out.block _ ht0).trans T0.out)
    have LX := Lib.hid ((L1.out.below D1.out).more D1.out.size)
    have MX := Lib.hid ((M1.out.below D1.out).more D1.out.size)
    have EX := Lib.hid ((E1.out.below D1.out).more D1.out.size)
    go_upto_region 9 with (go_at_call 16; (with_reducible refine (HRB.out _ _ _ _ _ LX.out EX.out).mono ?_); rintro e T ⟨rfl, hb⟩; have DT := Lib.hid (bstep D1.out D1.out.size hb); have N0_ := Lib.hid ((hb.block _ (Array.getElem?_eq_some_iff.1 N0.out).1).trans N0.out); clear hb)
    have D2 := Lib.hid (bstep DT.out DT.out.size (new_below T (colB cq)))
    have N1 := Lib.hid (new_at1 T (colB cq))
    have N0 := Lib.hid (new_keep (colB cq) N0_.out)
    clear s0 s1 s2 s3 s4 s5 g0 g1 g2 g3 LX MX EX DT c0 c1 c2 N0_
    change Code.wp _ _ _ _ (T.alloc (colB cq))
    generalize T.alloc (colB cq) = W1 at *
    generalize T.heap.size = b1 at *
    obtain ⟨s0, s1, s2, s3, s4, s5⟩ := sixB_cell ((D2.out.block _ hs0).trans S1.out)
    obtain ⟨g0, g1, g2, g3⟩ := fourB_cell ((D2.out.block _ hg0).trans G0.out)
    have LX := Lib.hid ((L1.out.below D2.out).more D2.out.size)
    have MX := Lib.hid ((M1.out.below D2.out).more D2.out.size)
    have EX := Lib.hid ((E1.out.below D2.out).more D2.out.size)
    go_upto_region 10 with (go_at_call 15; (with_reducible refine (HRC.out _ MX.out).mono ?_); rintro e T ⟨rfl, hb⟩; have DT := Lib.hid (bstep D2.out D2.out.size hb); have N0_ := Lib.hid ((hb.block _ (Array.getElem?_eq_some_iff.1 N0.out).1).trans N0.out); have N1_ := Lib.hid ((hb.block _ (Array.getElem?_eq_some_iff.1 N1.out).1).trans N1.out); clear hb)
    have D3 := Lib.hid (bstep DT.out DT.out.size (new_below T (colB cz)))
    have N2 := Lib.hid (new_at1 T (colB cz))
    have N0 := Lib.hid (new_keep (colB cz) N0_.out)
    have N1 := Lib.hid (new_keep (colB cz) N1_.out)
    clear s0 s1 s2 s3 s4 s5 g0 g1 g2 g3 LX MX EX DT  N0_ N1_
    change Code.wp _ _ _ _ (T.alloc (colB cz))
    generalize T.alloc (colB cz) = W2 at *
    generalize T.heap.size = b2 at *
    obtain ⟨s0, s1, s2, s3, s4, s5⟩ := sixB_cell ((D3.out.block _ hs0).trans S1.out)
    obtain ⟨g0, g1, g2, g3⟩ := fourB_cell ((D3.out.block _ hg0).trans G0.out)
    have LX := Lib.hid ((L1.out.below D3.out).more D3.out.size)
    have MX := Lib.hid ((M1.out.below D3.out).more D3.out.size)
    have EX := Lib.hid ((E1.out.below D3.out).more D3.out.size)
    go_upto_region 11 with (go_at_call 16; (with_reducible refine (HRD.out _ MX.out).mono ?_); rintro e T ⟨rfl, hb⟩; have DT := Lib.hid (bstep D3.out D3.out.size hb); have N0_ := Lib.hid ((hb.block _ (Array.getElem?_eq_some_iff.1 N0.out).1).trans N0.out); have N1_ := Lib.hid ((hb.block _ (Array.getElem?_eq_some_iff.1 N1.out).1).trans N1.out); have N2_ := Lib.hid ((hb.block _ (Array.getElem?_eq_some_iff.1 N2.out).1).trans N2.out); clear hb)
    have D4 := Lib.hid (bstep DT.out DT.out.size (new_below T (colB cz)))
    have N3 := Lib.hid (new_at1 T (colB cz))
    have N0 := Lib.hid (new_keep (colB cz) N0_.out)
    have N1 := Lib.hid (new_keep (colB cz) N1_.out)
    have N2 := Lib.hid (new_keep (colB cz) N2_.out)
    clear s0 s1 s2 s3 s4 s5 g0 g1 g2 g3 LX MX EX DT  N0_ N1_ N2_
    change Code.wp _ _ _ _ (T.alloc (colB cz))
    generalize T.alloc (colB cz) = W3 at *
    generalize T.heap.size = b3 at *
    have BE := Lib.hid (bstep BG.out BG.out.size D4.out)
    obtain ⟨c0, c1, c2, c3⟩ := colB_cell N0.out
    go_upto_region 12 with (go_at_call 17; (with_reducible refine (HRT.out _).mono ?_); rintro e T ⟨rfl, hb⟩; have BF := Lib.hid (bstep BE.out BE.out.size hb); have M0 := Lib.hid ((hb.block _ (Array.getElem?_eq_some_iff.1 N0.out).1).trans N0.out); have M1 := Lib.hid ((hb.block _ (Array.getElem?_eq_some_iff.1 N1.out).1).trans N1.out); have M2 := Lib.hid ((hb.block _ (Array.getElem?_eq_some_iff.1 N2.out).1).trans N2.out); have M3 := Lib.hid ((hb.block _ (Array.getElem?_eq_some_iff.1 N3.out).1).trans N3.out); clear hb)
    clear c0 c1 c2 c3
    obtain ⟨u0, u1, u2, u3⟩ := colB_cell M0.out
    obtain ⟨v0, v1, v2, v3⟩ := colB_cell M1.out
    obtain ⟨x0, x1, x2, x3⟩ := colB_cell M2.out
    obtain ⟨y0, y1, y2, y3⟩ := colB_cell M3.out
    have hs1' : (1 : Int) ≤ (sq : Int) := by omega
    have hs2' : (sq : Int) ≤ (pl.length : Int) := by omega
    go_wp2_with fail
    go_ret
    exact ⟨rfl, BF.out⟩
end Go.Proofs.Ytehkcnmjkgelkaa
