/-
  The walk of SceneLess.
-/
import Derived.Test.YtnpcmoeleigpoaaLessM
import Derived.BigRegion
namespace Go.Proofs.Ytnpcmoeleigpoaa
open Go.RowKit
attribute [local go_sem ↓] Go.wp_at_zero Go.wp_at_succ

set_option maxRecDepth 100000 in
set_option maxHeartbeats 16000000 in
theorem less_walk (s : Sc) (a0 b0 : Int) (ha : 0 ≤ a0 ∧ a0 ≤ 255) (hb : 0 ≤ b0 ∧ b0 ≤ 255) (w : World) (ok : s.ok) (at0 : s.at w w.heap.size) :
    Calls Try.prog 7 #[.agg #[.int .i64 s.w, .int .i64 s.h, .int .u8 s.k.r, .int .u8 s.k.g, .int .u8 s.k.b, .int .u8 s.k.a, .slice s.vA s.vs.length s.vc, .slice s.tA s.ts.length s.tc, .slice s.pA s.ps.length s.pc, .slice s.dA s.ds.length s.dc], .agg #[.int .u8 a0, .int .u8 b0]] w fun e w' => e = .returned (.bool true) ∧ Below w.heap.size w w' := by
  obtain ⟨RV⟩ := rowV
  obtain ⟨RP⟩ := rowP
  obtain ⟨RR⟩ := rowR
  obtain ⟨RD⟩ := rowD
  have HAb := Lib.hid ha
  have HBb := Lib.hid hb
  clear ha hb
  have HA := Lib.hid at0
  have HK := Lib.hid ok
  clear ok at0
  go_enter Try.func7, Try.ntmps7
  go_wp2_with fail
  with_reducible refine (shown_any _).mono ?_
  rintro e w1 ⟨rfl, hb⟩
  have W0 := Lib.hid (((Below.refl w.heap.size w).alloc (Nat.le_refl _) (.cells #[.int .i64 s.w, .int .i64 s.h, .int .u8 s.k.r, .int .u8 s.k.g, .int .u8 s.k.b, .int .u8 s.k.a, .slice s.vA s.vs.length s.vc, .slice s.tA s.ts.length s.tc, .slice s.pA s.ps.length s.pc, .slice s.dA s.ds.length s.dc] 29)).alloc (by simp) (.cells #[.int .u8 a0, .int .u8 b0] 55))
  have B1 := Lib.hid (bstep W0.out W0.out.size hb)
  have N1' := Lib.hid (show w1.heap[w.heap.size + 1]? = some (.cells #[.int .u8 a0, .int .u8 b0] 55 (0, 0)) from (hb.block _ (by simp)).trans (by
    have h := heap_alloc_new (w.alloc (.cells #[.int .i64 s.w, .int .i64 s.h, .int .u8 s.k.r, .int .u8 s.k.g, .int .u8 s.k.b, .int .u8 s.k.a, .slice s.vA s.vs.length s.vc, .slice s.tA s.ts.length s.tc, .slice s.pA s.ps.length s.pc, .slice s.dA s.ds.length s.dc] 29)) (.cells #[.int .u8 a0, .int .u8 b0] 55)
    simpa only [World.size_alloc] using h))
  have z : w1.heap[w.heap.size]? = some (scB s) := (hb.block _ (by simp; omega)).trans (new_keep _ (heap_alloc_new _ _))
  obtain ⟨z0, z1, z2, z3, z4, z5, z6, z7, z8, z9⟩ := scB_cell z
  have A1 := Lib.hid ((HA.out.below B1.out).more B1.out.size)
  have HFT := Lib.hid (show Calls Try.prog 11 #[.agg #[.int .i64 s.w, .int .i64 s.h, .int .u8 s.k.r, .int .u8 s.k.g, .int .u8 s.k.b, .int .u8 s.k.a, .slice s.vA s.vs.length s.vc, .slice s.tA s.ts.length s.tc, .slice s.pA s.ps.length s.pc, .slice s.dA s.ds.length s.dc], .int .i64 64, .int .i64 20, .int .i64 6, .int .i64 10] w1 (FitsR s 64 20 6 10 w1) from fitr_any s 64 20 6 10 (by omega) (by omega) (by omega) (by omega) (by omega) _ A1.out HK.out)
  clear hb z
  go_wp2_with fail
  with_reducible refine HFT.out.mono ?_
  clear z0 z1 z2 z3 z4 z5 z6 z7 z8 z9 HFT
  rintro e w4 ⟨f, k1, k2, k3, rfl, hp, hok, hfew, hR⟩
  have HFit := Lib.hid (show f.p.fit by rw [hp]; exact fitS_fit (p := s.p) HK.out.k)
  have HKn := Lib.hid (hR.kn (show f.p.ok by rw [hp]; exact fitS_ok (ok_p HK.out) (by omega) (by omega) (by omega) (by omega) (by omega)) (show f.p.few by rw [hp]; exact fitS_few (by omega) (by omega) (by omega)))
  have B4 := Lib.hid (bstep B1.out B1.out.size hR.b)
  have N4 := Lib.hid ((hR.b.block _ (Array.getElem?_eq_some_iff.1 N1'.out).1).trans N1'.out)
  have hnd6 : f.ds.length ≤ 6 := by have := HFit.out.d; rwa [show f.p.ds.length = f.ds.length from List.length_map _] at this
  clear hR hp hok hfew
  have hwn : w.heap.size + 1 < w4.heap.size := (Array.getElem?_eq_some_iff.1 N4.out).1
  go_upto_region 3 with fail
  have F1 := Lib.hid (show (w4.alloc (.cells #[.int .i64 f.w, .int .i64 f.h, .int .u8 f.k.r, .int .u8 f.k.g, .int .u8 f.k.b, .int .u8 f.k.a, .slice f.vA f.vs.length f.vc, .slice f.tA f.ts.length f.tc, .slice f.pA f.ps.length f.pc, .slice f.dA f.ds.length f.dc] 29)).heap[w4.heap.size]? = some (scB f) from heap_alloc_new _ _)
  have N5 := Lib.hid (new_keep (.cells #[.int .i64 f.w, .int .i64 f.h, .int .u8 f.k.r, .int .u8 f.k.g, .int .u8 f.k.b, .int .u8 f.k.a, .slice f.vA f.vs.length f.vc, .slice f.tA f.ts.length f.tc, .slice f.pA f.ps.length f.pc, .slice f.dA f.ds.length f.dc] 29) N4.out)
  have B5 := Lib.hid (B4.out.alloc B4.out.size (.cells #[.int .i64 f.w, .int .i64 f.h, .int .u8 f.k.r, .int .u8 f.k.g, .int .u8 f.k.b, .int .u8 f.k.a, .slice f.vA f.vs.length f.vc, .slice f.tA f.ts.length f.tc, .slice f.pA f.ps.length f.pc, .slice f.dA f.ds.length f.dc] 29))
  have K1 := Lib.hid ((HKn.out.below (new_below w4 (.cells #[.int .i64 f.w, .int .i64 f.h, .int .u8 f.k.r, .int .u8 f.k.g, .int .u8 f.k.b, .int .u8 f.k.a, .slice f.vA f.vs.length f.vc, .slice f.tA f.ts.length f.tc, .slice f.pA f.ps.length f.pc, .slice f.dA f.ds.length f.dc] 29))).more (new_below w4 (.cells #[.int .i64 f.w, .int .i64 f.h, .int .u8 f.k.r, .int .u8 f.k.g, .int .u8 f.k.b, .int .u8 f.k.a, .slice f.vA f.vs.length f.vc, .slice f.tA f.ts.length f.tc, .slice f.pA f.ps.length f.pc, .slice f.dA f.ds.length f.dc] 29)).size)
  have hg1 : w4.heap.size < (w4.alloc (.cells #[.int .i64 f.w, .int .i64 f.h, .int .u8 f.k.r, .int .u8 f.k.g, .int .u8 f.k.b, .int .u8 f.k.a, .slice f.vA f.vs.length f.vc, .slice f.tA f.ts.length f.tc, .slice f.pA f.ps.length f.pc, .slice f.dA f.ds.length f.dc] 29)).heap.size := by simp
  generalize w4.alloc (.cells #[.int .i64 f.w, .int .i64 f.h, .int .u8 f.k.r, .int .u8 f.k.g, .int .u8 f.k.b, .int .u8 f.k.a, .slice f.vA f.vs.length f.vc, .slice f.tA f.ts.length f.tc, .slice f.pA f.ps.length f.pc, .slice f.dA f.ds.length f.dc] 29) = V1 at *
  obtain ⟨q0, q1, q2, q3, q4, q5, q6, q7, q8, q9⟩ := scB_cell F1.out
  go_upto_region 4 with fail
  have F2 := Lib.hid (new_keep (.cells #[.int .i64 f.w, .int .i64 f.h, .int .u8 f.k.r, .int .u8 f.k.g, .int .u8 f.k.b, .int .u8 f.k.a, .slice f.vA f.vs.length f.vc, .slice f.tA f.ts.length f.tc, .slice f.pA f.ps.length f.pc, .slice f.dA f.ds.length f.dc] 29) F1.out)
  have N6 := Lib.hid (new_keep (.cells #[.int .i64 f.w, .int .i64 f.h, .int .u8 f.k.r, .int .u8 f.k.g, .int .u8 f.k.b, .int .u8 f.k.a, .slice f.vA f.vs.length f.vc, .slice f.tA f.ts.length f.tc, .slice f.pA f.ps.length f.pc, .slice f.dA f.ds.length f.dc] 29) N5.out)
  have G2 := Lib.hid (show (V1.alloc (.cells #[.int .i64 f.w, .int .i64 f.h, .int .u8 f.k.r, .int .u8 f.k.g, .int .u8 f.k.b, .int .u8 f.k.a, .slice f.vA f.vs.length f.vc, .slice f.tA f.ts.length f.tc, .slice f.pA f.ps.length f.pc, .slice f.dA f.ds.length f.dc] 29)).heap[V1.heap.size]? = some (ouB f.w f.h f.k (.slice f.vA f.vs.length f.vc) (.slice f.tA f.ts.length f.tc) (.slice f.pA f.ps.length f.pc) (.slice f.dA f.ds.length f.dc)) from heap_alloc_new _ _)
  have B6 := Lib.hid (B5.out.alloc B5.out.size (.cells #[.int .i64 f.w, .int .i64 f.h, .int .u8 f.k.r, .int .u8 f.k.g, .int .u8 f.k.b, .int .u8 f.k.a, .slice f.vA f.vs.length f.vc, .slice f.tA f.ts.length f.tc, .slice f.pA f.ps.length f.pc, .slice f.dA f.ds.length f.dc] 29))
  have K2 := Lib.hid (K1.out.below (new_below V1 (.cells #[.int .i64 f.w, .int .i64 f.h, .int .u8 f.k.r, .int .u8 f.k.g, .int .u8 f.k.b, .int .u8 f.k.a, .slice f.vA f.vs.length f.vc, .slice f.tA f.ts.length f.tc, .slice f.pA f.ps.length f.pc, .slice f.dA f.ds.length f.dc] 29)))
  have hg2 : V1.heap.size < (V1.alloc (.cells #[.int .i64 f.w, .int .i64 f.h, .int .u8 f.k.r, .int .u8 f.k.g, .int .u8 f.k.b, .int .u8 f.k.a, .slice f.vA f.vs.length f.vc, .slice f.tA f.ts.length f.tc, .slice f.pA f.ps.length f.pc, .slice f.dA f.ds.length f.dc] 29)).heap.size := by simp
  have hwg : w.heap.size ≤ V1.heap.size := B5.out.size
  generalize V1.alloc (.cells #[.int .i64 f.w, .int .i64 f.h, .int .u8 f.k.r, .int .u8 f.k.g, .int .u8 f.k.b, .int .u8 f.k.a, .slice f.vA f.vs.length f.vc, .slice f.tA f.ts.length f.tc, .slice f.pA f.ps.length f.pc, .slice f.dA f.ds.length f.dc] 29) = X0 at *
  clear q0 q1 q2 q3 q4 q5 q6 q7 q8 q9 F1 B5 K1 N5 N4 N1' HKn B4
  generalize hgB : V1.heap.size = gB at *
  clear hgB
  generalize hgF : w4.heap.size = gF at *
  clear hgF
  have hgF0 : gF < X0.heap.size := by omega
  -- the vertices
  obtain ⟨nv, hnv⟩ : ∃ n, f.vs.length = n := ⟨_, rfl⟩
  have hnv21 : nv ≤ 21 := by rw [← hnv]; exact HFit.out.v.2
  obtain ⟨q0, q1, q2, q3, q4, q5, q6, q7, q8, q9⟩ := scB_cell F2.out
  obtain ⟨x0', x1', x2', x3', x4', x5', x6', x7', x8', x9'⟩ := ouB_cell G2.out
  have qf6 := ouB_free G2.out 6
  rw [hnv] at q6
  replace hnv := Lib.hid hnv
  have oe := ownE_empty (E := EV) (base := X0.heap.size) X0 (Nat.le_refl _)
  have OE := Lib.hid oe
  have EVx := Lib.hid (show Es EV (X0.alloc (.cells #[] 50)) X0.heap.size f.vA f.vs from ((K2.out.at'.v.more (by omega)).below (new_below _ _)))
  clear oe
  go_upto_region 5 with (at_builtin; first
    | (refine wpList_append_len rfl RV _ _ f.vc nv hnv.out rfl rfl rfl OE.out EVx.out (by simp) (by have := hnv.out; omega) (by simp) ?_; intro v' w5 h1 h2 h3; obtain ⟨hO, hB⟩ := ownE_app OE.out h1 h2 (by simp); obtain ⟨A1, c1, rfl, hc1, hO1⟩ := own_form hO hnv.out; have O6 := Lib.hid (OwnE.alloc hO1 (.cells #[.int .i64 0, .int .i64 0, .int .i64 0, .int .i64 1, .int .i64 0, .int .i64 0, .int .i64 0, .int .i64 0] 50)); have B6' := Lib.hid ((((new_below X0 (.cells #[] 50)).trans hB)).alloc (by have := (((new_below X0 (.cells #[] 50)).trans hB)).size; exact this) (.cells #[.int .i64 0, .int .i64 0, .int .i64 0, .int .i64 1, .int .i64 0, .int .i64 0, .int .i64 0, .int .i64 0] 50)); have ES6 := Lib.hid (es_one (E := EV) (x := v1) (cs := #[.int .i64 0, .int .i64 0, .int .i64 0, .int .i64 1, .int .i64 0, .int .i64 0, .int .i64 0, .int .i64 0]) rfl (heap_alloc_new w5 (.cells #[.int .i64 0, .int .i64 0, .int .i64 0, .int .i64 1, .int .i64 0, .int .i64 0, .int .i64 0, .int .i64 0] 50))); clear h1 h2 h3 hO hB hO1)
    | (refine wpList_append_len rfl RV _ _ 1 1 (show [v1].length = 1 from rfl) rfl rfl rfl O6.out ES6.out (by have := hnv.out; omega) (by simp) B6'.out.size ?_; intro v' w7 h1 h2 h3; obtain ⟨g6, c6, rfl⟩ := ownsRow_succ h1; obtain ⟨hO, hB⟩ := ownE_app O6.out h1 h2 B6'.out.size; have O7 := Lib.hid hO; have B7 := Lib.hid (B6'.out.trans hB); have G7 := Lib.hid ((B7.out.block gB hg2).trans G2.out); have zf := ouB_free G7.out 6; obtain ⟨z0, z1, z2, z3, z4, z5, z6, z7, z8, z9⟩ := ouB_cell G7.out; have zg : gB < w7.heap.size := (Array.getElem?_eq_some_iff.1 G7.out).1; clear h1 h2 h3 hO hB)
    | go_in)
  have G8 := Lib.hid (ouB_set6 (.slice (some ⟨g6, 0, none⟩) (f.vs.length + 1) c6) G7.out)
  have O8 := Lib.hid (show OwnE EV (w7.setCell ⟨gB, 6, none⟩ (.slice (some ⟨g6, 0, none⟩) (f.vs.length + 1) c6)) X0.heap.size (.slice (some ⟨g6, 0, none⟩) (f.vs.length + 1) c6) (f.vs ++ [v1]) from O7.out.setCell hg2)
  have B8 := Lib.hid ((B7.out.mono (show gB ≤ X0.heap.size by omega)).setCell (p := ⟨gB, 6, none⟩) (Nat.le_refl _) (.slice (some ⟨g6, 0, none⟩) (f.vs.length + 1) c6))
  have hs8 : X0.heap.size ≤ (w7.setCell ⟨gB, 6, none⟩ (.slice (some ⟨g6, 0, none⟩) (f.vs.length + 1) c6)).heap.size := by have := B7.out.size; simpa using this
  clear q0 q1 q2 q3 q4 q5 q6 q7 q8 q9 x0' x1' x2' x3' x4' x5' x6' x7' x8' x9' qf6 z0 z1 z2 z3 z4 z5 z6 z7 z8 z9 zf zg OE EVx O6 B6' ES6 O7 B7 G7
  generalize w7.setCell ⟨gB, 6, none⟩ (.slice (some ⟨g6, 0, none⟩) (f.vs.length + 1) c6) = X1 at *
  have V6b := Lib.hid (show ∀ b, (Value.slice (some ⟨g6, 0, none⟩) (f.vs.length + 1) c6).ownBlock = some b → b < X1.heap.size from fun b e => ownE_lt O8.out e)
  -- the programs
  obtain ⟨np, hnp⟩ : ∃ n, f.ps.length = n := ⟨_, rfl⟩
  have hnp4 : np ≤ 4 := by rw [← hnp]; have := HFit.out.q.2; rwa [show f.p.ps.length = f.ps.length from List.length_map _] at this
  have F8 := Lib.hid ((B8.out.block gF hg1).trans F2.out)
  have K8 := Lib.hid (K2.out.below B8.out)
  have hgF1 : gF < X1.heap.size := by omega
  have hgB1 : gB < X1.heap.size := by omega
  obtain ⟨q0, q1, q2, q3, q4, q5, q6, q7, q8, q9⟩ := scB_cell F8.out
  obtain ⟨x0', x1', x2', x3', x4', x5', x6', x7', x8', x9'⟩ := ouB_cell G8.out
  rw [hnp] at q8
  replace hnp := Lib.hid hnp
  have oe := ownE_empty (E := EP) (base := X1.heap.size) X1 (Nat.le_refl _)
  have OE := Lib.hid oe
  have EPx := Lib.hid (show Es EP (X1.alloc (.cells #[] 54)) X1.heap.size f.pA f.ps from ((K8.out.at'.p.more (by omega)).below (new_below _ _)))
  clear oe
  go_upto_region 6 with (at_builtin; first
    | (refine wpList_append_len rfl RP _ _ f.pc np hnp.out rfl rfl rfl OE.out EPx.out (by simp) (by have := hnp.out; omega) (by simp) ?_; intro v' w7 h1 h2 h3; obtain ⟨hO, hB⟩ := ownE_app OE.out h1 h2 (by simp); obtain ⟨A8, c8, rfl, hc8, hO1⟩ := own_form hO hnp.out; have O9 := Lib.hid hO1; have B9 := Lib.hid ((new_below X1 (.cells #[] 54)).trans hB); have G9 := Lib.hid ((B9.out.block gB hgB1).trans G8.out); have zf := ouB_free G9.out 8; obtain ⟨z0, z1, z2, z3, z4, z5, z6, z7, z8, z9⟩ := ouB_cell G9.out; have zg : gB < w7.heap.size := (Array.getElem?_eq_some_iff.1 G9.out).1; clear h1 h2 h3 hO hB hO1)
    | go_in)
  have G10 := Lib.hid (ouB_set8 (.slice A8 np c8) G9.out)
  have O10 := Lib.hid (O9.out.setCell (g := gB) (o := 8) (u := .slice A8 np c8) hgB1)
  have V10 := Lib.hid ((O8.out.keep B9.out).setCell (g := gB) (o := 8) (u := .slice A8 np c8) hg2)
  have B10 := Lib.hid (B8.out.trans ((B9.out.mono (show gB ≤ X1.heap.size by omega)).setCell (p := ⟨gB, 8, none⟩) (Nat.le_refl _) (.slice A8 np c8)))
  have hs10 : X1.heap.size ≤ (w7.setCell ⟨gB, 8, none⟩ (.slice A8 np c8)).heap.size := by have := B9.out.size; simpa using this
  clear q0 q1 q2 q3 q4 q5 q6 q7 q8 q9 x0' x1' x2' x3' x4' x5' x6' x7' x8' x9' z0 z1 z2 z3 z4 z5 z6 z7 z8 z9 zf zg OE EPx O9 B9 G9 F8 K8 G8 O8
  generalize w7.setCell ⟨gB, 8, none⟩ (.slice A8 np c8) = X2 at *
  have hgF2 : gF < X2.heap.size := by omega
  have hgB2 : gB < X2.heap.size := by omega
  obtain ⟨x0', x1', x2', x3', x4', x5', x6', x7', x8', x9'⟩ := ouB_cell G10.out
  have xf8 := ouB_free G10.out 8
  have V10b : ∀ b, (Value.slice (some ⟨g6, 0, none⟩) (f.vs.length + 1) c6).ownBlock = some b → ¬ (Value.slice A8 np c8).ownBlock = some b := fun b e e2 => by
    have h1 := V6b.out b e
    have h2 := ownE_ge O10.out b e2
    omega
  go_upto_if 32 with fail
  go_cut [] from 29 to 39 (fun Xc => ∃ (ps' : List (Lo (List C.In))) (A : Option Addr) (c : Nat) (l : List (List C.In)), Xc.heap[gB]? = some (ouB f.w f.h f.k (.slice (some ⟨g6, 0, none⟩) (f.vs.length + 1) c6) (.slice f.tA f.ts.length f.tc) (.slice A ps'.length c) (.slice f.dA f.ds.length f.dc)) ∧ OwnE EP Xc X1.heap.size (.slice A ps'.length c) ps' ∧ (∀ l ∈ ps', Es C.EI Xc Xc.heap.size l.A l.x) ∧ (∀ l ∈ ps', l.x.length ≤ l.c) ∧ ps'.map Lo.x = f.p.ps ++ l ∧ (l = [] ∨ l = [nearP] ∧ f.p.ps.length < 4) ∧ OwnE EV Xc X0.heap.size (.slice (some ⟨g6, 0, none⟩) (f.vs.length + 1) c6) (f.vs ++ [v1]) ∧ Below gB X0 Xc)
  case first =>
    by_cases h4 : np < 4
    · have d4 : decide ((np : Int) < 4) = true := by simp; omega
      have OP := Lib.hid ((O10.out.alloc (.cells #[.int .u8 13, .int .u8 0, .int .u8 0, .int .u8 0, .int .i64 0] 57)).alloc (.cells #[.slice (some ⟨X2.heap.size, 0, none⟩) 1 1] 54))
      have EZ1 := heap_alloc_new (X2.alloc (.cells #[.int .u8 13, .int .u8 0, .int .u8 0, .int .u8 0, .int .i64 0] 57)) (.cells #[.slice (some ⟨X2.heap.size, 0, none⟩) 1 1] 54)
      simp only [World.size_alloc] at EZ1
      have EZ := Lib.hid (es_one (E := EP) (x := ⟨nearP, some ⟨X2.heap.size, 0, none⟩, 1⟩) (cs := #[.slice (some ⟨X2.heap.size, 0, none⟩) 1 1]) rfl EZ1)
      have BA := Lib.hid (((Below.refl X2.heap.size X2).alloc (Nat.le_refl _) (.cells #[.int .u8 13, .int .u8 0, .int .u8 0, .int .u8 0, .int .i64 0] 57)).alloc (by simp) (.cells #[.slice (some ⟨X2.heap.size, 0, none⟩) 1 1] 54))
      have NZ := Lib.hid (show ((X2.alloc (.cells #[.int .u8 13, .int .u8 0, .int .u8 0, .int .u8 0, .int .i64 0] 57)).alloc (.cells #[.slice (some ⟨X2.heap.size, 0, none⟩) 1 1] 54)).heap[X2.heap.size]? = some (.cells #[.int .u8 13, .int .u8 0, .int .u8 0, .int .u8 0, .int .i64 0] 57 (0, 0)) from new_keep _ (heap_alloc_new _ _))
      have hb8 := Lib.hid (show ∀ j, (Value.slice A8 np c8).ownBlock = some j → j < X2.heap.size from fun j e => ownE_lt O10.out e)
      clear EZ1
      go_wp2_with (at_builtin; first
        | (refine wpList_append_len rfl RP _ _ 1 1 (show [(⟨nearP, some ⟨X2.heap.size, 0, none⟩, 1⟩ : Lo (List C.In))].length = 1 from rfl) rfl rfl rfl OP.out EZ.out (by have := hnp.out; omega) (by simp) (by simp; omega) ?_; intro v' w7 h1 h2 h3; obtain ⟨g', cap', rfl⟩ := ownsRow_succ h1; obtain ⟨hO, hB⟩ := ownE_app OP.out h1 h2 (by have := BA.out.size; omega); have O11 := Lib.hid hO; have M11 := Lib.hid (show Om (fun b => (Value.slice A8 np c8).ownBlock = some b) X2 w7 from (show Om (fun b => (Value.slice A8 np c8).ownBlock = some b) X2 _ from ⟨BA.out.size, fun b h1 _ => BA.out.block b h1⟩).grown h2 fun r e => .inl e); have B11 := Lib.hid ((BA.out.mono (show X1.heap.size ≤ X2.heap.size by omega)).trans hB); have N11 := Lib.hid ((h2.block X2.heap.size (Array.getElem?_eq_some_iff.1 NZ.out).1 (fun e => by have := hb8.out X2.heap.size e.symm; omega)).trans NZ.out); have G11 := Lib.hid ((B11.out.block gB hgB1).trans G10.out); have zf := ouB_free G11.out 8; obtain ⟨z0, z1, z2, z3, z4, z5, z6, z7, z8, z9⟩ := ouB_cell G11.out; have zg : gB < w7.heap.size := (Array.getElem?_eq_some_iff.1 G11.out).1; clear h1 h2 h3 hO hB)
        | go_in)
      go_meet
      refine ⟨f.ps ++ [⟨nearP, some ⟨X2.heap.size, 0, none⟩, 1⟩], some ⟨g', 0, none⟩, cap', [nearP], ?_, ?_, fun l hl => ?_, fun l hl => ?_, ?_, .inr ⟨rfl, ?_⟩, ?_, ?_⟩
      · have h := ouB_set8 (.slice (some ⟨g', 0, none⟩) (f.ps.length + 1) cap') G11.out
        rw [List.length_append]
        exact h
      · have h := O11.out.setCell (g := gB) (o := 8) (u := .slice (some ⟨g', 0, none⟩) (f.ps.length + 1) cap') hgB1
        rw [List.length_append]
        exact h
      · rcases List.mem_append.1 hl with hl | hl
        · have h0 := (K2.out.below ((B10.out.trans (B11.out.mono (show gB ≤ X1.heap.size by omega))).setCell (p := ⟨gB, 8, none⟩) (Nat.le_refl _) (.slice (some ⟨g', 0, none⟩) (f.ps.length + 1) cap'))).at'.px l hl
          exact h0.more (by have := B11.out.size; simp; omega)
        · obtain rfl : l = ⟨nearP, some ⟨X2.heap.size, 0, none⟩, 1⟩ := by simpa using hl
          exact es_one (E := C.EI) (x := ⟨13, 0, 0, 0, 0⟩) rfl ((heap_setCell_other _ _ _ _ (by simp; omega)).trans N11.out)
      · rcases List.mem_append.1 hl with hl | hl
        · exact K2.out.cap.px l hl
        · obtain rfl : l = ⟨nearP, some ⟨X2.heap.size, 0, none⟩, 1⟩ := by simpa using hl
          exact Nat.le_refl _
      · rw [List.map_append]
        rfl
      · rw [show f.p.ps.length = f.ps.length from List.length_map _, hnp.out]
        exact h4
      · exact (own_om V10.out M11.out (fun b e => V10b b e)).setCell hg2
      · exact (B10.out.trans (B11.out.mono (show gB ≤ X1.heap.size by omega))).setCell (p := ⟨gB, 8, none⟩) (Nat.le_refl _) _
    · have d4 : decide ((np : Int) < 4) = false := by simp; omega
      go_wp2_with fail
      go_meet
      refine ⟨f.ps, A8, c8, [], ?_, ?_, fun l hl => ?_, K2.out.cap.px, (List.append_nil _).symm, .inl rfl, V10.out, B10.out⟩
      · rw [hnp.out]
        exact G10.out
      · rw [hnp.out]
        exact O10.out
      · exact ((K2.out.below B10.out).at'.px l hl).more (by omega)
  case rest =>
  rename World => X3
  obtain ⟨ps', A', c', l', hG3, hP3, hx3, hc3, hm3, hl3, hV3, hB3⟩ := hcut
  have hgX3 : gB < X3.heap.size := (Array.getElem?_eq_some_iff.1 hG3).1
  have KF3 := Lib.hid (K2.out.below hB3)
  have KM := Lib.hid (kn_mo KF3.out HFit.out (by omega) hV3 hP3 hx3 hc3 hm3 hl3)
  have F3 := Lib.hid ((hB3.block gF hg1).trans F2.out)
  have N3 := Lib.hid ((hB3.block (w.heap.size + 1) (by omega)).trans N6.out)
  have GM := Lib.hid (show X3.heap[gB]? = some (scB (f.mo (f.vs ++ [v1]) (some ⟨g6, 0, none⟩) c6 ps' A' c')) from by
    rw [hG3]
    unfold scB ouB Sc.mo
    simp)
  have BU3 := Lib.hid (B6.out.trans (hB3.mono hwg))
  obtain ⟨y, hy⟩ : ∃ y, f.mo (f.vs ++ [v1]) (some ⟨g6, 0, none⟩) c6 ps' A' c' = y := ⟨_, rfl⟩
  rw [hy] at KM GM
  clear hy hG3 hP3 hx3 hc3 hm3 hl3 hV3 x0' x1' x2' x3' x4' x5' x6' x7' x8' x9' xf8 G10 O10 V10 V10b V6b B10
  have BX3 := Lib.hid hB3
  clear hB3
  have C1 := Lib.hid (KF3.out.check (k := 0) HFit.out.c (by omega))
  have C2 := Lib.hid (KM.out.1.check (k := 0) KM.out.2 (Nat.le_refl _))
  obtain ⟨q0, q1, q2, q3, q4, q5, q6, q7, q8, q9⟩ := scB_cell F3.out
  go_wp2_with fail
  with_reducible refine (C1.out X3 (Below.refl _ _)).mono ?_
  rintro e w8 ⟨rfl, hb⟩
  clear q0 q1 q2 q3 q4 q5 q6 q7 q8 q9
  have B8' := Lib.hid hb
  obtain ⟨z0, z1, z2, z3, z4, z5, z6, z7, z8, z9⟩ := scB_cell ((hb.block gB hgX3).trans GM.out)
  clear hb
  go_wp2_with fail
  with_reducible refine (C2.out w8 B8'.out).mono ?_
  rintro e U ⟨rfl, hb⟩
  clear z0 z1 z2 z3 z4 z5 z6 z7 z8 z9
  have BXU := Lib.hid (bstep B8'.out B8'.out.size hb)
  clear hb
  have KU := Lib.hid (KF3.out.below (BXU.out.mono (by omega)))
  have FU := Lib.hid ((BXU.out.block gF (by omega)).trans F3.out)
  have NU := Lib.hid ((BXU.out.block (w.heap.size + 1) (by omega)).trans N3.out)
  have BU := Lib.hid (BU3.out.trans (BXU.out.mono BU3.out.size))
  have hUs := BXU.out.size
  have hgBU : gB < U.heap.size := by omega
  have hgFU : gF < U.heap.size := by omega
  clear C1 C2 B8' BXU KM GM KF3 F3 N3 BU3 hUs
  obtain ⟨nd, hnd⟩ : ∃ n, f.ds.length = n := ⟨_, rfl⟩
  rw [hnd] at hnd6
  by_cases hn0 : nd = 0
  · have e1 : ((nd : Int) == 0) = true := by simp [hn0]
    have hc0 : (count f.p : Int) = 0 := by
      have h0 : f.ds = [] := List.eq_nil_of_length_eq_zero (hnd.trans hn0)
      show ((((f.ds.map Lo.x).map fun d => d.tris.length).sum : Nat) : Int) = 0
      rw [h0]
      rfl
    have C3 := Lib.hid (KU.out.count (k := 0) hc0 (by omega))
    obtain ⟨q0, q1, q2, q3, q4, q5, q6, q7, q8, q9⟩ := scB_cell FU.out
    have e2 : ((f.ds.length : Int) == 0) = true := by rw [hnd]; exact e1
    clear hc0
    replace hnd := Lib.hid hnd
    go_wp2_with fail
    with_reducible refine (C3.out U (Below.refl _ _)).mono ?_
    rintro e w9 ⟨rfl, hb⟩
    have B9 := Lib.hid (bstep BU.out BU.out.size hb)
    clear hb
    go_wp2_with fail
    go_ret
    exact ⟨rfl, B9.out⟩
  · have e1 : ((nd : Int) == 0) = false := by simp [hn0]
    have ha := HAb.out
    obtain ⟨k, hk⟩ : ∃ k : Nat, a0 % (nd : Int) = (k : Int) := ⟨(a0 % (nd : Int)).toNat, by have := Int.emod_nonneg a0 (show (nd : Int) ≠ 0 by omega); omega⟩
    have hkn : k < nd := by have := Int.emod_lt_of_pos a0 (show 0 < (nd : Int) by omega); omega
    have qi : a0.tmod (nd : Int) = (k : Int) := by rw [Int.tmod_eq_emod_of_nonneg ha.1]; exact hk
    have wi : IntKind.i64.wrap a0 = a0 := by rw [IntKind.wrap_i64]; omega
    have wk : IntKind.i64.wrap (k : Int) = (k : Int) := by rw [IntKind.wrap_i64]; omega
    have hn1 : ¬ (nd : Int) = 0 := by omega
    have hkni : (k : Int) < (nd : Int) := by omega
    obtain ⟨u, hu⟩ := get_lt (l := f.ds) (k := k) (by rw [hnd]; exact hkn)
    obtain ⟨b, off, hdA, hbB, hat⟩ := KU.out.at'.d.at hu
    obtain ⟨p, hp⟩ : ∃ p, u.x.tris.length = p := ⟨_, rfl⟩
    have hmu := List.mem_of_getElem? hu
    have hp10 : p ≤ 10 := by rw [← hp]; exact HFit.out.n u.x (List.mem_map.2 ⟨u, hmu, rfl⟩)
    have hdc : nd ≤ f.dc := by rw [← hnd]; exact KU.out.cap.d
    have huc : p ≤ u.c := by rw [← hp]; exact KU.out.cap.dx u hmu
    have HDt := Lib.hid hat
    have HMu := Lib.hid hmu
    replace hp := Lib.hid hp
    replace hu := Lib.hid hu
    replace hk := Lib.hid hk
    replace hnd := Lib.hid hnd
    replace hdA := Lib.hid hdA
    clear hat hmu ha
    obtain ⟨q0, q1, q2, q3, q4, q5, q6, q7, q8, q9⟩ := scB_cell FU.out
    rw [hnd.out, hdA.out] at q9
    have n0 := Joins.cell_of_block NU.out 0
    go_upto_region 14 with fail
    have L1 := Lib.hid (show (U.alloc (.cells #[.int .i64 f.w, .int .i64 f.h, .int .u8 f.k.r, .int .u8 f.k.g, .int .u8 f.k.b, .int .u8 f.k.a, .slice f.vA f.vs.length f.vc, .slice f.tA f.ts.length f.tc, .slice f.pA f.ps.length f.pc, .slice (some ⟨b, off, none⟩) nd f.dc] 29)).heap[U.heap.size]? = some (ouB f.w f.h f.k (.slice f.vA f.vs.length f.vc) (.slice f.tA f.ts.length f.tc) (.slice f.pA f.ps.length f.pc) (.slice (some ⟨b, off, none⟩) nd f.dc)) from heap_alloc_new _ _)
    have NB1 := Lib.hid (new_below U (.cells #[.int .i64 f.w, .int .i64 f.h, .int .u8 f.k.r, .int .u8 f.k.g, .int .u8 f.k.b, .int .u8 f.k.a, .slice f.vA f.vs.length f.vc, .slice f.tA f.ts.length f.tc, .slice f.pA f.ps.length f.pc, .slice (some ⟨b, off, none⟩) nd f.dc] 29))
    have F1 := Lib.hid (new_keep (.cells #[.int .i64 f.w, .int .i64 f.h, .int .u8 f.k.r, .int .u8 f.k.g, .int .u8 f.k.b, .int .u8 f.k.a, .slice f.vA f.vs.length f.vc, .slice f.tA f.ts.length f.tc, .slice f.pA f.ps.length f.pc, .slice (some ⟨b, off, none⟩) nd f.dc] 29) FU.out)
    have Z1 : (U.alloc (.cells #[.int .i64 f.w, .int .i64 f.h, .int .u8 f.k.r, .int .u8 f.k.g, .int .u8 f.k.b, .int .u8 f.k.a, .slice f.vA f.vs.length f.vc, .slice f.tA f.ts.length f.tc, .slice f.pA f.ps.length f.pc, .slice (some ⟨b, off, none⟩) nd f.dc] 29)).heap.size = U.heap.size + 1 := by simp
    generalize U.alloc (.cells #[.int .i64 f.w, .int .i64 f.h, .int .u8 f.k.r, .int .u8 f.k.g, .int .u8 f.k.b, .int .u8 f.k.a, .slice f.vA f.vs.length f.vc, .slice f.tA f.ts.length f.tc, .slice f.pA f.ps.length f.pc, .slice (some ⟨b, off, none⟩) nd f.dc] 29) = U1 at *
    have hgU1 : U.heap.size < U1.heap.size := by omega
    replace Z1 := Lib.hid Z1
    clear q0 q1 q2 q3 q4 q5 q6 q7 q8 q9 n0 wi qi
    obtain ⟨q0, q1, q2, q3, q4, q5, q6, q7, q8, q9⟩ := scB_cell F1.out
    rw [hnd.out, hdA.out] at q9
    have EU1 := Lib.hid (show Es ED U1 U1.heap.size (some ⟨b, off, none⟩) f.ds from (by have h := (KU.out.below (NB1.out.mono (show gB ≤ U.heap.size by omega))).at'.d; rw [hdA.out] at h; exact h.more (by omega)))
    obtain ⟨AL, hcut, hEs⟩ := cutD_low (b := b) (off := off) (n := nd) (c := f.dc) (m := k + 1) (by omega) hdc
    obtain ⟨nr, hnr⟩ : ∃ r, nd - (k + 1) = r := ⟨_, rfl⟩
    obtain ⟨dr, hdr⟩ : ∃ r, f.dc - (k + 1) = r := ⟨_, rfl⟩
    rw [hnr, hdr] at hcut
    have hcut : ∀ w, (Instr.sliceAt 27 (.slice (some ⟨b, off, none⟩) nd f.dc) (some (.int .i64 ((k : Int) + 1))) none none).run Try.prog w = .ok (.slice AL nr dr) w := fun w => by
      have h := hcut w
      rwa [show ((k + 1 : Nat) : Int) = (k : Int) + 1 by omega] at h
    have HEs := Lib.hid hEs
    have wk1 : IntKind.i64.wrap ((k : Int) + 1) = (k : Int) + 1 := by rw [IntKind.wrap_i64]; omega
    have hkc : (k : Int) ≤ (f.dc : Int) := by omega
    have LT := Lib.hid (show (f.ds.take k).length = k by rw [List.length_take, hnd.out]; omega)
    have LR := Lib.hid (show (f.ds.drop (k + 1)).length = nr by rw [List.length_drop, hnd.out]; exact hnr)
    have hnr6 : nr ≤ 6 := by omega
    replace hnr := Lib.hid hnr
    replace hdr := Lib.hid hdr
    clear hEs
    have NM1 := Lib.hid (show ¬ gF = U.heap.size by omega)
    have y0 : ∀ w', Om (fun b => b = U.heap.size) U1 w' → w'.cell? ⟨gF, 9, none⟩ = some (.slice (some ⟨b, off, none⟩) nd f.dc) := fun w' h => h.cell (by assumption) NM1.out
    refine wp_region_held_drew (S := fun w' => Om (fun b => b = U.heap.size) U1 w') (by kernel_rfl) (om_drew _ _) (fun hS => ?_)
    have B_t0 := Lib.hid (show Below U1.heap.size U1 U1.drew from (Below.refl _ _).drew)
    generalize U1.drew = t0 at *
    clear q0 q1 q2 q3 q4 q5 q6 q7 q8 q9
    refine wpAnyH_take (i := 1) (v := .pointer (some ⟨gF, 9, none⟩)) rfl (by kernel_rfl) (by kernel_rfl) (by kernel_rfl) (fun _ _ _ h => h) (Or.inl ⟨by rfl, fun w hw => by have z0 := y0 w hw; go_simp <;> (intro h; exact absurd h (by omega))⟩) hS ?_
    try simp only [Act.put, List.setIfInBounds_toArray, List.set_cons_zero, List.set_cons_succ, List.getElem_toArray, List.getElem_cons_zero, List.getElem_cons_succ]
    refine wpAnyH_take (i := 2) (v := .slice (some ⟨b, off, none⟩) nd f.dc) rfl (by kernel_rfl) (by kernel_rfl) (by kernel_rfl) (fun _ _ _ h => h) (Or.inl ⟨by rfl, fun w hw => by have z0 := y0 w hw; go_simp <;> (intro h; exact absurd h (by omega))⟩) hS ?_
    try simp only [Act.put, List.setIfInBounds_toArray, List.set_cons_zero, List.set_cons_succ, List.getElem_toArray, List.getElem_cons_zero, List.getElem_cons_succ]
    refine wpAnyH_take (i := 3) (v := .int .i64 k) rfl (by kernel_rfl) (by kernel_rfl) (by kernel_rfl) (fun _ _ _ h => h) (Or.inl ⟨by rfl, fun w hw => by have z0 := y0 w hw; go_simp <;> (intro h; exact absurd h (by omega))⟩) hS ?_
    try simp only [Act.put, List.setIfInBounds_toArray, List.set_cons_zero, List.set_cons_succ, List.getElem_toArray, List.getElem_cons_zero, List.getElem_cons_succ]
    refine wpAnyH_take (i := 4) (v := .slice (some ⟨b, off, none⟩) k f.dc) rfl (by kernel_rfl) (by kernel_rfl) (by kernel_rfl) (fun _ _ _ h => h) (Or.inl ⟨by rfl, fun w hw => by have z0 := y0 w hw; go_simp <;> (intro h; exact absurd h (by omega))⟩) hS ?_
    try simp only [Act.put, List.setIfInBounds_toArray, List.set_cons_zero, List.set_cons_succ, List.getElem_toArray, List.getElem_cons_zero, List.getElem_cons_succ]
    refine wpAnyH_take (i := 6) (v := .pointer (some ⟨gF, 9, none⟩)) rfl (by kernel_rfl) (by kernel_rfl) (by kernel_rfl) (fun _ _ _ h => h) (Or.inl ⟨by rfl, fun w hw => by have z0 := y0 w hw; go_simp <;> (intro h; exact absurd h (by omega))⟩) hS ?_
    try simp only [Act.put, List.setIfInBounds_toArray, List.set_cons_zero, List.set_cons_succ, List.getElem_toArray, List.getElem_cons_zero, List.getElem_cons_succ]
    refine wpAnyH_take (i := 7) (v := .slice (some ⟨b, off, none⟩) nd f.dc) rfl (by kernel_rfl) (by kernel_rfl) (by kernel_rfl) (fun _ _ _ h => h) (Or.inl ⟨by rfl, fun w hw => by have z0 := y0 w hw; go_simp <;> (intro h; exact absurd h (by omega))⟩) hS ?_
    try simp only [Act.put, List.setIfInBounds_toArray, List.set_cons_zero, List.set_cons_succ, List.getElem_toArray, List.getElem_cons_zero, List.getElem_cons_succ]
    refine wpAnyH_take (i := 8) (v := .int .i64 k) rfl (by kernel_rfl) (by kernel_rfl) (by kernel_rfl) (fun _ _ _ h => h) (Or.inl ⟨by rfl, fun w hw => by have z0 := y0 w hw; go_simp <;> (intro h; exact absurd h (by omega))⟩) hS ?_
    try simp only [Act.put, List.setIfInBounds_toArray, List.set_cons_zero, List.set_cons_succ, List.getElem_toArray, List.getElem_cons_zero, List.getElem_cons_succ]
    refine wpAnyH_take (i := 9) (v := .int .i64 ((k : Int) + 1)) rfl (by kernel_rfl) (by kernel_rfl) (by kernel_rfl) (fun _ _ _ h => h) (Or.inl ⟨by rfl, fun w hw => by have z0 := y0 w hw; go_simp <;> (intro h; exact absurd h (by omega))⟩) hS ?_
    try simp only [Act.put, List.setIfInBounds_toArray, List.set_cons_zero, List.set_cons_succ, List.getElem_toArray, List.getElem_cons_zero, List.getElem_cons_succ]
    refine wpAnyH_take (i := 10) (v := .slice AL nr dr) rfl (by kernel_rfl) (by kernel_rfl) (by kernel_rfl) (fun _ _ _ h => h) (Or.inl ⟨by rfl, fun w hw => by have z0 := y0 w hw; go_simp <;> (intro h; exact absurd h (by omega))⟩) hS ?_
    try simp only [Act.put, List.setIfInBounds_toArray, List.set_cons_zero, List.set_cons_succ, List.getElem_toArray, List.getElem_cons_zero, List.getElem_cons_succ]
    refine wpAnyH_ready (rs := [0]) (by kernel_rfl) (by simp) ?_
    refine AllReadyH.cons rfl (fun K hK => ?_) AllReadyH.nil
    go_simp
    have B_t1 := Lib.hid (B_t0.out.alloc B_t0.out.size (.cells #[] 42))
    have O_t1 := Lib.hid (show OwnE ED (t0.alloc (.cells #[] 42)) U1.heap.size (.slice (some ⟨t0.heap.size, 0, none⟩) 0 0) [] from ownE_empty (E := ED) t0 B_t0.out.size)
    refine hK.out _ _ ⟨B_t1.out.size, fun b h1 _ => B_t1.out.block b h1⟩ (fun hS => ?_)
    clear hK K
    try simp only [Act.put, List.setIfInBounds_toArray, List.set_cons_zero, List.set_cons_succ, List.getElem_toArray, List.getElem_cons_zero, List.getElem_cons_succ]
    generalize t0.alloc (.cells #[] 42) = t1 at *
    refine wpAnyH_ready (rs := [5]) (by kernel_rfl) (by simp) ?_
    refine AllReadyH.cons rfl (fun K hK => ?_) AllReadyH.nil
    rw [if_pos (by rfl)]
    refine opw_append_len RD (.tmp 67) (.tmp 71) f.dc k LT.out rfl rfl rfl O_t1.out ((EU1.out.takes k).below B_t1.out) (by simp) (by have := LT.out; omega) B_t1.out.size ?_
    intro v1' t2 h1 h2 h3
    obtain ⟨hO, hB⟩ := ownE_app O_t1.out h1 h2 B_t1.out.size
    obtain ⟨A_2, c_2, rfl, hc_2, hO5⟩ := own_form hO LT.out
    have O_t2 := Lib.hid hO5
    have B_t2 := Lib.hid (B_t1.out.trans hB)
    clear h1 h2 h3 hO hB hO5
    refine hK.out _ _ ⟨B_t2.out.size, fun b h1 _ => B_t2.out.block b h1⟩ (fun hS => ?_)
    clear hK K
    try simp only [Act.put, List.setIfInBounds_toArray, List.set_cons_zero, List.set_cons_succ, List.getElem_toArray, List.getElem_cons_zero, List.getElem_cons_succ]
    have EAL := Lib.hid (show Es ED t2 U1.heap.size AL (f.ds.drop (k + 1)) from HEs.out t2 _ f.ds hnd.out (EU1.out.below B_t2.out))
    refine wpAnyH_ready (rs := [11]) (by kernel_rfl) (by simp) ?_
    refine AllReadyH.cons rfl (fun K hK => ?_) AllReadyH.nil
    rw [if_pos (by rfl)]
    refine opw_append_len RD (.tmp 72) (.tmp 77) dr nr LR.out rfl rfl rfl O_t2.out EAL.out (by have := LT.out; omega) (by have := LR.out; omega) B_t2.out.size ?_
    intro v' t3 h1 h2 h3
    obtain ⟨hO, hB⟩ := ownE_app O_t2.out h1 h2 B_t2.out.size
    have B_t3 := Lib.hid (B_t2.out.trans hB)
    obtain ⟨A2, c2, e5, hc5, -, -⟩ := hO.es
    obtain ⟨nz, hnz⟩ : ∃ n, (f.ds.take k ++ f.ds.drop (k + 1)).length = n := ⟨_, rfl⟩
    rw [hnz] at e5 hc5
    subst e5
    have O_t3 := Lib.hid hO
    have L3 := Lib.hid ((B_t3.out.block U.heap.size hgU1).trans L1.out)
    have zf := ouB_free L3.out 9
    obtain ⟨z0, z1, z2, z3, z4, z5, z6, z7, z8, z9⟩ := ouB_cell L3.out
    have zg : U.heap.size < t3.heap.size := (Array.getElem?_eq_some_iff.1 L3.out).1
    replace hnz := Lib.hid hnz
    clear h1 h2 h3 hO hB
    refine hK.out _ _ ⟨B_t3.out.size, fun b h1 _ => B_t3.out.block b h1⟩ (fun hS => ?_)
    clear hK K
    try simp only [Act.put, List.setIfInBounds_toArray, List.set_cons_zero, List.set_cons_succ, List.getElem_toArray, List.getElem_cons_zero, List.getElem_cons_succ]
    refine wpAnyH_take (i := 12) (v := .pointer (some ⟨U.heap.size, 9, none⟩)) rfl (by kernel_rfl) (by kernel_rfl) (by kernel_rfl) (fun _ _ _ h => h) (Or.inl ⟨by rfl, fun w hw => by have z0 := y0 w hw; go_simp <;> (intro h; exact absurd h (by omega))⟩) hS ?_
    try simp only [Act.put, List.setIfInBounds_toArray, List.set_cons_zero, List.set_cons_succ, List.getElem_toArray, List.getElem_cons_zero, List.getElem_cons_succ]
    refine wpAnyH_ready (rs := [13]) (by kernel_rfl) (by simp) ?_
    refine AllReadyH.cons rfl (fun K hK => ?_) AllReadyH.nil
    go_simp
    refine hK.out _ _ ((show Om (fun b => b = U.heap.size) U1 t3 from ⟨B_t3.out.size, fun b h1 _ => B_t3.out.block b h1⟩).set (.inl rfl)) (fun hS => ?_)
    clear hK K hS y0 hcut wk1
    try simp only [Act.put, List.setIfInBounds_toArray, List.set_cons_zero, List.set_cons_succ, List.getElem_toArray, List.getElem_cons_zero, List.getElem_cons_succ]
    refine wpAnyH_done (by kernel_rfl) ?_ _
    go_upto_region 15 with fail
    have L4 := Lib.hid (ouB_set9 (.slice A2 nz c2) L3.out)
    have O4 := Lib.hid (O_t3.out.setCell (g := U.heap.size) (o := 9) (u := .slice A2 nz c2) hgU1)
    have B4 := Lib.hid ((NB1.out.trans (B_t3.out.mono (show U.heap.size ≤ U1.heap.size by omega))).setCell (p := ⟨U.heap.size, 9, none⟩) (Nat.le_refl _) (.slice A2 nz c2))
    have hs4 : U1.heap.size ≤ (t3.setCell ⟨U.heap.size, 9, none⟩ (.slice A2 nz c2)).heap.size := by have := B_t3.out.size; simpa using this
    clear z0 z1 z2 z3 z4 z5 z6 z7 z8 z9 zf zg L3 O_t3 L1 NB1 F1 EU1 HEs O_t1 O_t2 EAL B_t0 B_t1 B_t2 B_t3
    generalize t3.setCell ⟨U.heap.size, 9, none⟩ (.slice A2 nz c2) = X4 at *
    have F4 := Lib.hid ((B4.out.block gF hgFU).trans FU.out)
    have N4' := Lib.hid ((B4.out.block (w.heap.size + 1) (by omega)).trans NU.out)
    have hbv := HBb.out
    obtain ⟨m, hm⟩ : ∃ m : Nat, b0 % ((p : Int) + 1) = (m : Int) := ⟨(b0 % ((p : Int) + 1)).toNat, by have := Int.emod_nonneg b0 (show (p : Int) + 1 ≠ 0 by omega); omega⟩
    have hmp : m ≤ p := by have := Int.emod_lt_of_pos b0 (show 0 < (p : Int) + 1 by omega); omega
    have qm : b0.tmod ((p : Int) + 1) = (m : Int) := by rw [Int.tmod_eq_emod_of_nonneg hbv.1]; exact hm
    have wb : IntKind.i64.wrap b0 = b0 := by rw [IntKind.wrap_i64]; omega
    have wp1 : IntKind.i64.wrap ((p : Int) + 1) = (p : Int) + 1 := by rw [IntKind.wrap_i64]; omega
    have wm : IntKind.i64.wrap (m : Int) = (m : Int) := by rw [IntKind.wrap_i64]; omega
    have hp1 : ¬ (p : Int) + 1 = 0 := by omega
    replace hm := Lib.hid hm
    clear hbv
    have BX4 := Lib.hid (B4.out.mono (show gB ≤ U.heap.size by omega))
    have g1 : ∀ x : Grow X4, x.w.cell? ⟨gF, 9, none⟩ = some (.slice (some ⟨b, off, none⟩) nd f.dc) := fun x => by
      have h := (scB_cell ((x.below.block gF (by omega)).trans F4.out)).2.2.2.2.2.2.2.2.2
      rwa [hnd.out, hdA.out] at h
    have g2 : ∀ x : Grow X4, x.w.cell? ⟨w.heap.size + 1, 1, none⟩ = some (.int .u8 b0) := fun x => Joins.cell_of_block ((x.below.block _ (Array.getElem?_eq_some_iff.1 N4'.out).1).trans N4'.out) 1
    have g4 : ∀ x : Grow X4, x.w.cell? ⟨b, off + k * 5 + 4, none⟩ = some (.slice u.A p u.c) := fun x => by
      have h := (atD (show AtE ED x.w b (off + k * 5) u from (HDt.out.below BX4.out hbB).below x.below (by omega))).2.2.2.2
      rwa [hp.out] at h
    have ne1 := Grow.ne X4
    try simp only [List.append]
    refine wp_region_grow (by kernel_rfl) (by kernel_rfl) ?_
    repeat (go_big_quiet_step (fail))
    refine wpQuiet_nil ?_
    rintro _ ⟨x, rfl⟩
    have B5 := Lib.hid (bstep B4.out B4.out.size x.below)
    have L5 := Lib.hid ((x.below.block U.heap.size (by omega)).trans L4.out)
    have O5 := Lib.hid (O4.out.keep x.below)
    have F5 := Lib.hid ((x.below.block gF (by omega)).trans F4.out)
    have hs5 : X4.heap.size ≤ x.w.heap.size := x.below.size
    generalize x.w = X5 at *
    clear g1 g2 g4 ne1 x L4 O4 F4 N4' BX4 qm wb wp1 wm hp1
    obtain ⟨q0, q1, q2, q3, q4, q5, q6, q7, q8, q9⟩ := scB_cell F5.out
    rw [hnd.out, hdA.out] at q9
    have hgF5 : gF < X5.heap.size := by omega
    go_upto_region 17 with fail
    have T3 := Lib.hid (show (X5.alloc (.cells #[.int .i64 f.w, .int .i64 f.h, .int .u8 f.k.r, .int .u8 f.k.g, .int .u8 f.k.b, .int .u8 f.k.a, .slice f.vA f.vs.length f.vc, .slice f.tA f.ts.length f.tc, .slice f.pA f.ps.length f.pc, .slice (some ⟨b, off, none⟩) nd f.dc] 29)).heap[X5.heap.size]? = some (ouB f.w f.h f.k (.slice f.vA f.vs.length f.vc) (.slice f.tA f.ts.length f.tc) (.slice f.pA f.ps.length f.pc) (.slice (some ⟨b, off, none⟩) nd f.dc)) from heap_alloc_new _ _)
    have NB3 := Lib.hid (new_below X5 (.cells #[.int .i64 f.w, .int .i64 f.h, .int .u8 f.k.r, .int .u8 f.k.g, .int .u8 f.k.b, .int .u8 f.k.a, .slice f.vA f.vs.length f.vc, .slice f.tA f.ts.length f.tc, .slice f.pA f.ps.length f.pc, .slice (some ⟨b, off, none⟩) nd f.dc] 29))
    have Z3 : (X5.alloc (.cells #[.int .i64 f.w, .int .i64 f.h, .int .u8 f.k.r, .int .u8 f.k.g, .int .u8 f.k.b, .int .u8 f.k.a, .slice f.vA f.vs.length f.vc, .slice f.tA f.ts.length f.tc, .slice f.pA f.ps.length f.pc, .slice (some ⟨b, off, none⟩) nd f.dc] 29)).heap.size = X5.heap.size + 1 := by simp
    generalize X5.alloc (.cells #[.int .i64 f.w, .int .i64 f.h, .int .u8 f.k.r, .int .u8 f.k.g, .int .u8 f.k.b, .int .u8 f.k.a, .slice f.vA f.vs.length f.vc, .slice f.tA f.ts.length f.tc, .slice f.pA f.ps.length f.pc, .slice (some ⟨b, off, none⟩) nd f.dc] 29) = X6 at *
    have hgX6 : X5.heap.size < X6.heap.size := by omega
    replace Z3 := Lib.hid Z3
    clear q0 q1 q2 q3 q4 q5 q6 q7 q8 q9
    have F6 := Lib.hid ((NB3.out.block gF hgF5).trans F5.out)
    have hgF6 : gF < X6.heap.size := by omega
    obtain ⟨q0, q1, q2, q3, q4, q5, q6, q7, q8, q9⟩ := scB_cell F6.out
    rw [hnd.out, hdA.out] at q9
    have oe := ownE_empty (E := ED) (base := X6.heap.size) X6 (Nat.le_refl _)
    have OE := Lib.hid oe
    have BU6 := Lib.hid (B5.out.trans (NB3.out.mono (show U.heap.size ≤ X5.heap.size by omega)))
    have EU6 := Lib.hid (show Es ED (X6.alloc (.cells #[] 42)) X6.heap.size (some ⟨b, off, none⟩) f.ds from (by have h := (KU.out.below (BU6.out.mono (show gB ≤ U.heap.size by omega))).at'.d; rw [hdA.out] at h; exact (h.more (by omega)).below (new_below _ _)))
    clear oe
    go_upto_region 18 with (at_builtin; refine wpList_append_len rfl RD _ _ f.dc nd hnd.out rfl rfl rfl OE.out EU6.out (by simp) (by have := hnd.out; omega) (by simp) ?_; intro v' w7 h1 h2 h3; obtain ⟨hO, hB⟩ := ownE_app OE.out h1 h2 (by simp); obtain ⟨A3, c3, rfl, hc3, hO1⟩ := own_form hO hnd.out; obtain ⟨g3, c3', e3, hg3, hg3b⟩ := ownE_at0 hO1 (fun e => by have := hnd.out; rw [e] at this; simp at this; omega); obtain rfl : A3 = some ⟨g3, 0, none⟩ := (by injection e3); have O7 := Lib.hid hO1; have B7' := Lib.hid ((new_below X6 (.cells #[] 42)).trans hB); have T4 := Lib.hid ((B7'.out.block X5.heap.size hgX6).trans T3.out); have zf := ouB_free T4.out 9; obtain ⟨z0, z1, z2, z3, z4, z5, z6, z7, z8, z9⟩ := ouB_cell T4.out; have zg : X5.heap.size < w7.heap.size := (Array.getElem?_eq_some_iff.1 T4.out).1; clear h1 h2 h3 hO hB hO1 e3)
    have T5 := Lib.hid (ouB_set9 (.slice (some ⟨g3, 0, none⟩) nd c3) T4.out)
    have O8 := Lib.hid (O7.out.setCell (g := X5.heap.size) (o := 9) (u := .slice (some ⟨g3, 0, none⟩) nd c3) hgX6)
    have B8 := Lib.hid ((NB3.out.trans (B7'.out.mono (show X5.heap.size ≤ X6.heap.size by omega))).setCell (p := ⟨X5.heap.size, 9, none⟩) (Nat.le_refl _) (.slice (some ⟨g3, 0, none⟩) nd c3))
    have hg3s : g3 < (w7.setCell ⟨X5.heap.size, 9, none⟩ (.slice (some ⟨g3, 0, none⟩) nd c3)).heap.size := by simpa using hg3b
    clear q0 q1 q2 q3 q4 q5 q6 q7 q8 q9 z0 z1 z2 z3 z4 z5 z6 z7 z8 z9 zf zg T3 NB3 F6 OE EU6 O7 B7' T4 hg3b
    generalize w7.setCell ⟨X5.heap.size, 9, none⟩ (.slice (some ⟨g3, 0, none⟩) nd c3) = X7 at *
    have BU7 := Lib.hid (B5.out.trans (B8.out.mono (show U.heap.size ≤ X5.heap.size by omega)))
    have F7 := Lib.hid ((B8.out.block gF hgF5).trans F5.out)
    have hX57 : X5.heap.size < X7.heap.size := (Array.getElem?_eq_some_iff.1 T5.out).1
    have hgF7 : gF < X7.heap.size := by omega
    have K7 := Lib.hid (KU.out.below (BU7.out.mono (show gB ≤ U.heap.size by omega)))
    obtain ⟨q0, q1, q2, q3, q4, q5, q6, q7, q8, q9⟩ := scB_cell F7.out
    rw [hnd.out, hdA.out] at q9
    obtain ⟨w0', w1', w2', w3', w4', w5', w6', w7', w8', w9'⟩ := ouB_cell T5.out
    obtain ⟨d0, d1, d2, d3, d4⟩ := atD (show AtE ED X7 b (off + k * 5) u from HDt.out.below (BU7.out.mono (show gB ≤ U.heap.size by omega)) hbB)
    rw [hp.out] at d4
    obtain ⟨b5, off5, e5, -, hat5⟩ := (ownE_es O8.out).2.2.at hu.out
    obtain ⟨rfl, rfl⟩ : b5 = g3 ∧ off5 = 0 := by
      have := e5
      simp at this
      exact ⟨this.1.symm, this.2.symm⟩
    have HL5 := Lib.hid (atD (show AtE ED X7 b5 (0 + k * 5) u from hat5))
    have NM1 := Lib.hid (show ¬ gF = b5 by omega)
    have NM2 := Lib.hid (show ¬ b = b5 by omega)
    have NM3 := Lib.hid (show ¬ X5.heap.size = b5 by omega)
    clear e5 hat5
    have hmc : (m : Int) ≤ (u.c : Int) := by omega
    have y0 : ∀ w', Om (fun b => b = b5) X7 w' → w'.cell? ⟨gF, 9, none⟩ = some (.slice (some ⟨b, off, none⟩) nd f.dc) := fun w' h => h.cell (by assumption) NM1.out
    have y1 : ∀ w', Om (fun b => b = b5) X7 w' → w'.cell? ⟨b, off + k * 5 + 4, none⟩ = some (.slice u.A p u.c) := fun w' h => h.cell (by assumption) NM2.out
    have y2 : ∀ w', Om (fun b => b = b5) X7 w' → w'.cell? ⟨X5.heap.size, 9, none⟩ = some (.slice (some ⟨b5, 0, none⟩) nd c3) := fun w' h => h.cell (by assumption) NM3.out
    refine wp_region_held_drew (S := fun w' => Om (fun b => b = b5) X7 w') (by kernel_rfl) (om_drew _ _) (fun hS => ?_)
    have B_t0 := Lib.hid (show Below X7.heap.size X7 X7.drew from (Below.refl _ _).drew)
    generalize X7.drew = t0 at *
    clear q0 q1 q2 q3 q4 q5 q6 q7 q8 q9 d0 d1 d2 d3 d4 w0' w1' w2' w3' w4' w5' w6' w7' w8' w9'
    refine wpAnyH_take (i := 0) (v := .pointer (some ⟨X5.heap.size, 9, none⟩)) rfl (by kernel_rfl) (by kernel_rfl) (by kernel_rfl) (fun _ _ _ h => h) (Or.inl ⟨by rfl, fun w hw => by have z0 := y0 w hw; have z1 := y1 w hw; have z2 := y2 w hw; go_simp <;> (intro h; exact absurd h (by omega))⟩) hS ?_
    try simp only [Act.put, List.setIfInBounds_toArray, List.set_cons_zero, List.set_cons_succ, List.getElem_toArray, List.getElem_cons_zero]
    refine wpAnyH_take (i := 1) (v := .slice (some ⟨b5, 0, none⟩) nd c3) rfl (by kernel_rfl) (by kernel_rfl) (by kernel_rfl) (fun _ _ _ h => h) (Or.inl ⟨by rfl, fun w hw => by have z0 := y0 w hw; have z1 := y1 w hw; have z2 := y2 w hw; go_simp <;> (intro h; exact absurd h (by omega))⟩) hS ?_
    try simp only [Act.put, List.setIfInBounds_toArray, List.set_cons_zero, List.set_cons_succ, List.getElem_toArray, List.getElem_cons_zero, List.getElem_cons_succ]
    refine wpAnyH_take (i := 2) (v := .int .i64 k) rfl (by kernel_rfl) (by kernel_rfl) (by kernel_rfl) (fun _ _ _ h => h) (Or.inl ⟨by rfl, fun w hw => by have z0 := y0 w hw; have z1 := y1 w hw; have z2 := y2 w hw; go_simp <;> (intro h; exact absurd h (by omega))⟩) hS ?_
    try simp only [Act.put, List.setIfInBounds_toArray, List.set_cons_zero, List.set_cons_succ, List.getElem_toArray, List.getElem_cons_zero, List.getElem_cons_succ]
    refine wpAnyH_take (i := 3) (v := .pointer (some ⟨gF, 9, none⟩)) rfl (by kernel_rfl) (by kernel_rfl) (by kernel_rfl) (fun _ _ _ h => h) (Or.inl ⟨by rfl, fun w hw => by have z0 := y0 w hw; have z1 := y1 w hw; have z2 := y2 w hw; go_simp <;> (intro h; exact absurd h (by omega))⟩) hS ?_
    try simp only [Act.put, List.setIfInBounds_toArray, List.set_cons_zero, List.set_cons_succ, List.getElem_toArray, List.getElem_cons_zero, List.getElem_cons_succ]
    refine wpAnyH_take (i := 4) (v := .slice (some ⟨b, off, none⟩) nd f.dc) rfl (by kernel_rfl) (by kernel_rfl) (by kernel_rfl) (fun _ _ _ h => h) (Or.inl ⟨by rfl, fun w hw => by have z0 := y0 w hw; have z1 := y1 w hw; have z2 := y2 w hw; go_simp <;> (intro h; exact absurd h (by omega))⟩) hS ?_
    try simp only [Act.put, List.setIfInBounds_toArray, List.set_cons_zero, List.set_cons_succ, List.getElem_toArray, List.getElem_cons_zero, List.getElem_cons_succ]
    refine wpAnyH_take (i := 5) (v := .int .i64 k) rfl (by kernel_rfl) (by kernel_rfl) (by kernel_rfl) (fun _ _ _ h => h) (Or.inl ⟨by rfl, fun w hw => by have z0 := y0 w hw; have z1 := y1 w hw; have z2 := y2 w hw; go_simp <;> (intro h; exact absurd h (by omega))⟩) hS ?_
    try simp only [Act.put, List.setIfInBounds_toArray, List.set_cons_zero, List.set_cons_succ, List.getElem_toArray, List.getElem_cons_zero, List.getElem_cons_succ]
    refine wpAnyH_take (i := 6) (v := .pointer (some ⟨b, off + k * 5, none⟩)) rfl (by kernel_rfl) (by kernel_rfl) (by kernel_rfl) (fun _ _ _ h => h) (Or.inl ⟨by rfl, fun w hw => by have z0 := y0 w hw; have z1 := y1 w hw; have z2 := y2 w hw; go_simp <;> (intro h; exact absurd h (by omega))⟩) hS ?_
    try simp only [Act.put, List.setIfInBounds_toArray, List.set_cons_zero, List.set_cons_succ, List.getElem_toArray, List.getElem_cons_zero, List.getElem_cons_succ]
    refine wpAnyH_take (i := 7) (v := .pointer (some ⟨b, off + k * 5 + 4, none⟩)) rfl (by kernel_rfl) (by kernel_rfl) (by kernel_rfl) (fun _ _ _ h => h) (Or.inl ⟨by rfl, fun w hw => by have z0 := y0 w hw; have z1 := y1 w hw; have z2 := y2 w hw; go_simp <;> (intro h; exact absurd h (by omega))⟩) hS ?_
    try simp only [Act.put, List.setIfInBounds_toArray, List.set_cons_zero, List.set_cons_succ, List.getElem_toArray, List.getElem_cons_zero, List.getElem_cons_succ]
    refine wpAnyH_take (i := 8) (v := .slice u.A p u.c) rfl (by kernel_rfl) (by kernel_rfl) (by kernel_rfl) (fun _ _ _ h => h) (Or.inl ⟨by rfl, fun w hw => by have z0 := y0 w hw; have z1 := y1 w hw; have z2 := y2 w hw; go_simp <;> (intro h; exact absurd h (by omega))⟩) hS ?_
    try simp only [Act.put, List.setIfInBounds_toArray, List.set_cons_zero, List.set_cons_succ, List.getElem_toArray, List.getElem_cons_zero, List.getElem_cons_succ]
    refine wpAnyH_take (i := 9) (v := .int .i64 m) rfl (by kernel_rfl) (by kernel_rfl) (by kernel_rfl) (fun _ _ _ h => h) (Or.inl ⟨by rfl, fun w hw => by have z0 := y0 w hw; have z1 := y1 w hw; have z2 := y2 w hw; go_simp <;> (intro h; exact absurd h (by omega))⟩) hS ?_
    try simp only [Act.put, List.setIfInBounds_toArray, List.set_cons_zero, List.set_cons_succ, List.getElem_toArray, List.getElem_cons_zero, List.getElem_cons_succ]
    refine wpAnyH_take (i := 10) (v := .slice u.A m u.c) rfl (by kernel_rfl) (by kernel_rfl) (by kernel_rfl) (fun _ _ _ h => h) (Or.inl ⟨by rfl, fun w hw => by have z0 := y0 w hw; have z1 := y1 w hw; have z2 := y2 w hw; go_simp <;> (intro h; exact absurd h (by omega))⟩) hS ?_
    try simp only [Act.put, List.setIfInBounds_toArray, List.set_cons_zero, List.set_cons_succ, List.getElem_toArray, List.getElem_cons_zero, List.getElem_cons_succ]
    refine wpAnyH_take (i := 11) (v := .pointer (some ⟨b5, k * 5, none⟩)) rfl (by kernel_rfl) (by kernel_rfl) (by kernel_rfl) (fun _ _ _ h => h) (Or.inl ⟨by rfl, fun w hw => by have z0 := y0 w hw; have z1 := y1 w hw; have z2 := y2 w hw; go_simp <;> (intro h; exact absurd h (by omega))⟩) hS ?_
    try simp only [Act.put, List.setIfInBounds_toArray, List.set_cons_zero, List.set_cons_succ, List.getElem_toArray, List.getElem_cons_zero, List.getElem_cons_succ]
    refine wpAnyH_take (i := 12) (v := .pointer (some ⟨b5, k * 5 + 4, none⟩)) rfl (by kernel_rfl) (by kernel_rfl) (by kernel_rfl) (fun _ _ _ h => h) (Or.inl ⟨by rfl, fun w hw => by have z0 := y0 w hw; have z1 := y1 w hw; have z2 := y2 w hw; go_simp <;> (intro h; exact absurd h (by omega))⟩) hS ?_
    try simp only [Act.put, List.setIfInBounds_toArray, List.set_cons_zero, List.set_cons_succ, List.getElem_toArray, List.getElem_cons_zero, List.getElem_cons_succ]
    have O9 := Lib.hid (O8.out.keep B_t0.out)
    have of9 := ownE_free O9.out (k * 5 + 4)
    obtain ⟨l0, l1, l2, l3, l4⟩ := HL5.out
    rw [Nat.zero_add, hp.out] at l4
    have c9 : t0.cell? ⟨b5, k * 5 + 4, none⟩ = some (.slice u.A p u.c) := (B_t0.out.cell (p := ⟨b5, k * 5 + 4, none⟩) hg3s).trans l4
    have z9' : b5 < t0.heap.size := World.block_lt_of_cell? _ _ c9
    clear l0 l1 l2 l3 l4
    refine wpAnyH_ready (rs := [13]) (by kernel_rfl) (by simp) ?_
    refine AllReadyH.cons rfl (fun K hK => ?_) AllReadyH.nil
    go_simp
    refine hK.out _ _ ((show Om (fun b => b = b5) X7 t0 from ⟨B_t0.out.size, fun b h1 _ => B_t0.out.block b h1⟩).set (.inl rfl)) (fun hS => ?_)
    clear hK K hS y0 y1 y2
    try simp only [Act.put, List.setIfInBounds_toArray, List.set_cons_zero, List.set_cons_succ, List.getElem_toArray, List.getElem_cons_zero, List.getElem_cons_succ]
    refine wpAnyH_done (by kernel_rfl) ?_ _
    go_upto_region 19 with fail
    have hcl : (cutD m u.x).tris.length = m := by
      show (u.x.tris.take m).length = m
      rw [List.length_take, hp.out]
      omega
    have O10' := Lib.hid (show OwnE ED (t0.setCell ⟨b5, k * 5 + 4, none⟩ (.slice u.A m u.c)) X6.heap.size (.slice (some ⟨b5, 0, none⟩) nd c3) (f.ds.set k ⟨cutD m u.x, u.A, u.c⟩) from ownE_set (r := 4) (u := u) (u' := (⟨cutD m u.x, u.A, u.c⟩ : Lo Dr)) (x := .slice u.A m u.c) O9.out hu.out (by decide) (by
      show [Value.int .i64 u.x.id, .int .i64 u.x.prog, .int .i64 u.x.tex, .bool u.x.op, .slice u.A (cutD m u.x).tris.length u.c] = _
      rw [hcl]
      rfl))
    have BZ := Lib.hid ((B8.out.trans (B_t0.out.mono (show X5.heap.size ≤ X7.heap.size by omega))).setCell (p := ⟨b5, k * 5 + 4, none⟩) (by show X5.heap.size ≤ b5; omega) (.slice u.A m u.c))
    have TZ := Lib.hid (show (t0.setCell ⟨b5, k * 5 + 4, none⟩ (.slice u.A m u.c)).heap[X5.heap.size]? = some (ouB f.w f.h f.k (.slice f.vA f.vs.length f.vc) (.slice f.tA f.ts.length f.tc) (.slice f.pA f.ps.length f.pc) (.slice (some ⟨b5, 0, none⟩) nd c3)) from (heap_setCell_other _ _ _ _ (by simp; omega)).trans ((B_t0.out.block X5.heap.size hX57).trans T5.out))
    clear of9 c9 z9' O8 O9 T5 B8 HL5
    generalize t0.setCell ⟨b5, k * 5 + 4, none⟩ (.slice u.A m u.c) = Z at *
    have hXZ := BZ.out.size
    have BUZ := Lib.hid (B5.out.trans (BZ.out.mono (show U.heap.size ≤ X5.heap.size by omega)))
    have KZ := Lib.hid (KU.out.below (BUZ.out.mono (show gB ≤ U.heap.size by omega)))
    have hmu := HMu.out
    have hdx : ∀ l ∈ f.ds, Es ER Z Z.heap.size l.A l.x.tris := fun l hl => (KZ.out.at'.dx l hl).more (by omega)
    have hlen := hnd.out
    have hsub : ∀ l ∈ f.ds.take k ++ f.ds.drop (k + 1), l ∈ f.ds := fun l hl => by
      rcases List.mem_append.1 hl with hl | hl
      · exact List.mem_of_mem_take hl
      · exact List.mem_of_mem_drop hl
    have hpu : f.p.ds[k]? = some u.x := by
      show (f.ds.map Lo.x)[k]? = some u.x
      rw [List.getElem?_map, hu.out]
      rfl
    have KL := Lib.hid (KZ.out.wl (ls := f.ds.take k ++ f.ds.drop (k + 1)) (A := A2) (c := c2) (base := U1.heap.size) (by omega) (by
        rw [hnz.out]
        exact O5.out.keep BZ.out) (fun l hl => hdx l (hsub l hl)) (fun l hl => KZ.out.cap.dx l (hsub l hl)) (fun l hl => d_okl KZ.out l (hsub l hl)) (fun l hl => KZ.out.sfew.dx l (hsub l hl)) (by
        rw [List.length_append, List.length_take, List.length_drop]
        omega))
    have hcok : (cutD m u.x).ok := by
      have h := d_okl KZ.out u hmu
      exact ⟨h.id, h.prog, h.tex, fun t ht => h.tris t (List.mem_of_mem_take ht)⟩
    have hEc : Es ER Z Z.heap.size u.A (cutD m u.x).tris := (hdx u hmu).takes m
    have KC := Lib.hid (KZ.out.wl (ls := f.ds.set k ⟨cutD m u.x, u.A, u.c⟩) (A := some ⟨b5, 0, none⟩) (c := c3) (base := X6.heap.size) (by omega) (by
        rw [List.length_set, hlen]
        exact O10'.out) (fun l hl => by
        rcases mem_set hl with hl | rfl
        · exact hdx l hl
        · exact hEc) (fun l hl => by
        rcases mem_set hl with hl | rfl
        · exact KZ.out.cap.dx l hl
        · show (cutD m u.x).tris.length ≤ u.c
          omega) (fun l hl => by
        rcases mem_set hl with hl | rfl
        · exact d_okl KZ.out l hl
        · exact hcok) (fun l hl => by
        rcases mem_set hl with hl | rfl
        · exact KZ.out.sfew.dx l hl
        · show (cutD m u.x).tris.length ≤ 1000
          omega) (by rw [List.length_set]; omega))
    have PL := Lib.hid (show (f.wl (f.ds.take k ++ f.ds.drop (k + 1)) A2 c2).p = f.p.wd (f.p.ds.take k ++ f.p.ds.drop (k + 1)) by
      rw [wl_p, List.map_append, List.map_take, List.map_drop]
      rfl)
    have PC := Lib.hid (show (f.wl (f.ds.set k ⟨cutD m u.x, u.A, u.c⟩) (some ⟨b5, 0, none⟩) c3).p = f.p.wd (f.p.ds.set k (cutD m u.x)) by rw [wl_p, List.map_set]; rfl)
    have WL := Lib.hid (show Z.heap[U.heap.size]? = some (scB (f.wl (f.ds.take k ++ f.ds.drop (k + 1)) A2 c2)) from by
      rw [(BZ.out.block U.heap.size (by omega)).trans L5.out]
      unfold scB ouB Sc.wl
      rw [hnz.out])
    have WC := Lib.hid (show Z.heap[X5.heap.size]? = some (scB (f.wl (f.ds.set k ⟨cutD m u.x, u.A, u.c⟩) (some ⟨b5, 0, none⟩) c3)) from by
      rw [TZ.out]
      unfold scB ouB Sc.wl
      simp [hlen])
    have FZ := Lib.hid ((BZ.out.block gF hgF5).trans F5.out)
    obtain ⟨y8, hy8⟩ : ∃ y, f.wl (f.ds.take k ++ f.ds.drop (k + 1)) A2 c2 = y := ⟨_, rfl⟩
    obtain ⟨y9, hy9⟩ : ∃ y, f.wl (f.ds.set k ⟨cutD m u.x, u.A, u.c⟩) (some ⟨b5, 0, none⟩) c3 = y := ⟨_, rfl⟩
    rw [hy8] at KL PL WL
    rw [hy9] at KC PC WC
    obtain ⟨nc, hnc⟩ : ∃ c, (count f.p : Int) = c := ⟨_, rfl⟩
    have hnc60 : 0 ≤ nc ∧ nc ≤ 60 := by have := count_le HFit.out; omega
    have ec1 := count_less hpu
    have ec2 := count_cut (k := m) hpu (by rw [hp.out]; exact hmp)
    rw [hnc, hp.out] at ec1 ec2
    obtain ⟨nl, hnl⟩ : ∃ c, nc - (p : Int) = c := ⟨_, rfl⟩
    obtain ⟨nq, hnq⟩ : ∃ c, nl + (m : Int) = c := ⟨_, rfl⟩
    have wn1 : IntKind.i64.wrap (nc - (p : Int)) = nl := by rw [IntKind.wrap_i64]; omega
    have wn2 : IntKind.i64.wrap (nl + (m : Int)) = nq := by rw [IntKind.wrap_i64]; omega
    rw [hnl] at ec1
    rw [hnl, hnq] at ec2
    have C1 := Lib.hid (fun x : Grow Z => KL.out.check (k := 0) (by rw [PL.out]; exact check_less HFit.out.c) (Nat.le_refl _) x.w x.below)
    have C2 := Lib.hid (fun x : Grow Z => KC.out.check (k := 0) (by rw [PC.out]; exact check_cut HFit.out.c hpu) (Nat.le_refl _) x.w x.below)
    have C3 := Lib.hid (fun x : Grow Z => KL.out.count (k := nl) (by rw [PL.out]; exact ec1) (Nat.le_refl _) x.w x.below)
    have C4 := Lib.hid (fun x : Grow Z => (show Calls Try.prog 14 #[.agg #[.int .i64 f.w, .int .i64 f.h, .int .u8 f.k.r, .int .u8 f.k.g, .int .u8 f.k.b, .int .u8 f.k.a, .slice f.vA f.vs.length f.vc, .slice f.tA f.ts.length f.tc, .slice f.pA f.ps.length f.pc, .slice (some ⟨b, off, none⟩) nd f.dc]] x.w (fun e w' => e = .returned (.int .i64 nc) ∧ Below x.w.heap.size x.w w') from by
      have h := KZ.out.count (k := nc) hnc (by omega) x.w x.below
      rwa [hlen, hdA.out] at h))
    have C5 := Lib.hid (fun x : Grow Z => KC.out.count (k := nq) (by rw [PC.out]; exact ec2) (Nat.le_refl _) x.w x.below)
    have g1 := fun x : Grow Z => scB_cell ((x.below.block _ (Array.getElem?_eq_some_iff.1 WL.out).1).trans WL.out)
    have g2 := fun x : Grow Z => scB_cell ((x.below.block _ (Array.getElem?_eq_some_iff.1 WC.out).1).trans WC.out)
    have g3 : ∀ x : Grow Z, x.w.cell? ⟨gF, 0, none⟩ = some (.int .i64 f.w) ∧ x.w.cell? ⟨gF, 1, none⟩ = some (.int .i64 f.h) ∧ x.w.cell? ⟨gF, 2, none⟩ = some (.int .u8 f.k.r) ∧ x.w.cell? ⟨gF, 3, none⟩ = some (.int .u8 f.k.g) ∧ x.w.cell? ⟨gF, 4, none⟩ = some (.int .u8 f.k.b) ∧ x.w.cell? ⟨gF, 5, none⟩ = some (.int .u8 f.k.a) ∧ x.w.cell? ⟨gF, 6, none⟩ = some (.slice f.vA f.vs.length f.vc) ∧ x.w.cell? ⟨gF, 7, none⟩ = some (.slice f.tA f.ts.length f.tc) ∧ x.w.cell? ⟨gF, 8, none⟩ = some (.slice f.pA f.ps.length f.pc) ∧ x.w.cell? ⟨gF, 9, none⟩ = some (.slice (some ⟨b, off, none⟩) nd f.dc) := fun x => by
      have h := scB_cell ((x.below.block _ (Array.getElem?_eq_some_iff.1 FZ.out).1).trans FZ.out)
      rw [hlen, hdA.out] at h
      exact h
    have g4 : ∀ x : Grow Z, x.w.cell? ⟨b, off + k * 5 + 4, none⟩ = some (.slice u.A p u.c) := fun x => by
      have h := (atD (show AtE ED x.w b (off + k * 5) u from (HDt.out.below (BUZ.out.mono (show gB ≤ U.heap.size by omega)) hbB).below x.below (by omega))).2.2.2.2
      rwa [hp.out] at h
    have ne1 := Grow.ne Z
    have BW := Lib.hid (BU.out.trans (BUZ.out.mono BU.out.size))
    clear hy8 hy9 hpu hdx hmu hcok hEc hsub hnc ec1 ec2 hlen hcl KL KC PL PC WL WC hnl hnq hnc60
    try simp only [List.append]
    refine wp_region_grow (by kernel_rfl) (by kernel_rfl) ?_
    repeat (go_big_quiet_step (with_reducible first | exact Grow.calls (C1.out _) | exact Grow.calls (C2.out _) | exact Grow.calls (C3.out _) | exact Grow.calls (C4.out _) | exact Grow.calls (C5.out _)))
    refine wpQuiet_nil ?_
    rintro _ ⟨x, rfl⟩
    go_wp2_with fail
    go_ret
    exact ⟨by simp, bstep BW.out BW.out.size x.below⟩
end Go.Proofs.Ytnpcmoeleigpoaa
