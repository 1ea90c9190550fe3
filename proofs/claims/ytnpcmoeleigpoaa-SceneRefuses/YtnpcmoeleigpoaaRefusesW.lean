/-
  The walk of SceneRefuses.
-/
import Derived.Test.YtnpcmoeleigpoaaRefM
import Derived.BigRegion
namespace Go.Proofs.Ytnpcmoeleigpoaa
open Go.RowKit
attribute [local go_sem ↓] Go.wp_at_zero Go.wp_at_succ

theorem below_drewN' {B : Nat} {a b : World} (h : Below B a b) : Below B a b.drew := h.trans ⟨rfl, rfl, rfl, Nat.le_refl _, fun _ _ => rfl⟩
set_option maxRecDepth 100000 in
set_option maxHeartbeats 8000000 in
theorem refuses_walk (s : Sc) (n : Int) (hn : 0 ≤ n ∧ n ≤ 255) (w : World) (ok : s.ok) (at0 : s.at w w.heap.size) :
    Calls Try.prog 6 #[.agg #[.int .i64 s.w, .int .i64 s.h, .int .u8 s.k.r, .int .u8 s.k.g, .int .u8 s.k.b, .int .u8 s.k.a, .slice s.vA s.vs.length s.vc, .slice s.tA s.ts.length s.tc, .slice s.pA s.ps.length s.pc, .slice s.dA s.ds.length s.dc], .int .u8 n] w fun e w' => e = .returned (.bool true) ∧ Below w.heap.size w w' := by
  obtain ⟨RV⟩ := rowV
  obtain ⟨RT⟩ := rowT
  obtain ⟨RD⟩ := rowD
  have qs := Int.tmod_eq_emod_of_nonneg (b := 10) hn.1
  obtain ⟨m, hm⟩ : ∃ m, n % 10 = m := ⟨_, rfl⟩
  rw [hm] at qs
  have hm9 : m = 0 ∨ m = 1 ∨ m = 2 ∨ m = 3 ∨ m = 4 ∨ m = 5 ∨ m = 6 ∨ m = 7 ∨ m = 8 ∨ m = 9 := by omega
  have HA := Lib.hid at0
  have HK := Lib.hid ok
  replace hm := Lib.hid hm
  replace hm9 := Lib.hid hm9
  clear ok at0
  go_enter Try.func6, Try.ntmps6
  go_wp2_with fail
  with_reducible refine (shown_any _).mono ?_
  rintro e w1 ⟨rfl, hb⟩
  have B1 := Lib.hid (bstep (new_below w (.cells #[.int .i64 s.w, .int .i64 s.h, .int .u8 s.k.r, .int .u8 s.k.g, .int .u8 s.k.b, .int .u8 s.k.a, .slice s.vA s.vs.length s.vc, .slice s.tA s.ts.length s.tc, .slice s.pA s.ps.length s.pc, .slice s.dA s.ds.length s.dc] 29)) (by simp) hb)
  have z : w1.heap[w.heap.size]? = some (scB s) := (hb.block _ (by simp)).trans (heap_alloc_new _ _)
  obtain ⟨z0, z1, z2, z3, z4, z5, z6, z7, z8, z9⟩ := scB_cell z
  have A1 := Lib.hid ((HA.out.below B1.out).more B1.out.size)
  have HFT := Lib.hid (show Calls Try.prog 11 #[.agg #[.int .i64 s.w, .int .i64 s.h, .int .u8 s.k.r, .int .u8 s.k.g, .int .u8 s.k.b, .int .u8 s.k.a, .slice s.vA s.vs.length s.vc, .slice s.tA s.ts.length s.tc, .slice s.pA s.ps.length s.pc, .slice s.dA s.ds.length s.dc], .int .i64 64, .int .i64 20, .int .i64 6, .int .i64 10] w1 (FitsR s 64 20 6 10 w1) from fitr_any s 64 20 6 10 (by omega) (by omega) (by omega) (by omega) (by omega) _ A1.out HK.out)
  clear hb z
  go_wp2_with fail
  with_reducible refine HFT.out.mono ?_
  clear z0 z1 z2 z3 z4 z5 z6 z7 z8 z9 HFT
  rintro e w4 ⟨f, k1, k2, k3, rfl, hp, hok, hfew, hR⟩
  have HR := Lib.hid hR
  have HFit := Lib.hid (show f.p.fit by rw [hp]; exact fitS_fit (p := s.p) HK.out.k)
  have HOk := Lib.hid (show f.p.ok by rw [hp]; exact fitS_ok (ok_p HK.out) (by omega) (by omega) (by omega) (by omega) (by omega))
  have HFew := Lib.hid (show f.p.few by rw [hp]; exact fitS_few (by omega) (by omega) (by omega))
  have hnd : f.ds.length ≤ 6 := by have := HFit.out.d; rwa [show f.p.ds.length = f.ds.length from List.length_map _] at this
  clear hR hp hok hfew
  go_upto_region 3 with fail
  have F1 := Lib.hid (show (w4.alloc (.cells #[.int .i64 f.w, .int .i64 f.h, .int .u8 f.k.r, .int .u8 f.k.g, .int .u8 f.k.b, .int .u8 f.k.a, .slice f.vA f.vs.length f.vc, .slice f.tA f.ts.length f.tc, .slice f.pA f.ps.length f.pc, .slice f.dA f.ds.length f.dc] 29)).heap[w4.heap.size]? = some (scB f) from heap_alloc_new _ _)
  have B2 := Lib.hid (new_below w4 (.cells #[.int .i64 f.w, .int .i64 f.h, .int .u8 f.k.r, .int .u8 f.k.g, .int .u8 f.k.b, .int .u8 f.k.a, .slice f.vA f.vs.length f.vc, .slice f.tA f.ts.length f.tc, .slice f.pA f.ps.length f.pc, .slice f.dA f.ds.length f.dc] 29))
  have Z1 : (w4.alloc (.cells #[.int .i64 f.w, .int .i64 f.h, .int .u8 f.k.r, .int .u8 f.k.g, .int .u8 f.k.b, .int .u8 f.k.a, .slice f.vA f.vs.length f.vc, .slice f.tA f.ts.length f.tc, .slice f.pA f.ps.length f.pc, .slice f.dA f.ds.length f.dc] 29)).heap.size = w4.heap.size + 1 := by simp
  generalize w4.alloc (.cells #[.int .i64 f.w, .int .i64 f.h, .int .u8 f.k.r, .int .u8 f.k.g, .int .u8 f.k.b, .int .u8 f.k.a, .slice f.vA f.vs.length f.vc, .slice f.tA f.ts.length f.tc, .slice f.pA f.ps.length f.pc, .slice f.dA f.ds.length f.dc] 29) = V1 at *
  have hg1 : w4.heap.size < V1.heap.size := by omega
  have aT : w4.heap.size ≤ V1.heap.size := by omega
  have nFT : w4.heap.size ≠ V1.heap.size := by omega
  replace Z1 := Lib.hid Z1
  go_upto_region 4 with fail
  have F2 := Lib.hid (((((Below.refl V1.heap.size V1).alloc (Nat.le_refl _) (.cells #[.int .i64 1, .int .i64 0, .int .i64 0, .int .i64 0] 47)).alloc (by simp) (.cells #[.int .i64 9999, .int .i64 0, .int .i64 (-1), .bool false, .slice (some ⟨V1.heap.size, 0, none⟩) 1 1] 42)).block _ (by omega)).trans F1.out)
  have T2 := Lib.hid (show ((V1.alloc (.cells #[.int .i64 1, .int .i64 0, .int .i64 0, .int .i64 0] 47)).alloc (.cells #[.int .i64 9999, .int .i64 0, .int .i64 (-1), .bool false, .slice (some ⟨V1.heap.size, 0, none⟩) 1 1] 42)).heap[V1.heap.size]? = some (.cells #[.int .i64 1, .int .i64 0, .int .i64 0, .int .i64 0] 47 (0, 0)) from new_keep _ (heap_alloc_new _ _))
  have D2 := Lib.hid (show ((V1.alloc (.cells #[.int .i64 1, .int .i64 0, .int .i64 0, .int .i64 0] 47)).alloc (.cells #[.int .i64 9999, .int .i64 0, .int .i64 (-1), .bool false, .slice (some ⟨V1.heap.size, 0, none⟩) 1 1] 42)).heap[V1.heap.size + 1]? = some (.cells #[.int .i64 9999, .int .i64 0, .int .i64 (-1), .bool false, .slice (some ⟨V1.heap.size, 0, none⟩) 1 1] 42 (0, 0)) by
    have h := heap_alloc_new (V1.alloc (.cells #[.int .i64 1, .int .i64 0, .int .i64 0, .int .i64 0] 47)) (.cells #[.int .i64 9999, .int .i64 0, .int .i64 (-1), .bool false, .slice (some ⟨V1.heap.size, 0, none⟩) 1 1] 42)
    simpa only [World.size_alloc] using h)
  have B3 := Lib.hid (B2.out.trans (((Below.refl V1.heap.size V1).alloc (Nat.le_refl _) (.cells #[.int .i64 1, .int .i64 0, .int .i64 0, .int .i64 0] 47)).alloc (by simp) (.cells #[.int .i64 9999, .int .i64 0, .int .i64 (-1), .bool false, .slice (some ⟨V1.heap.size, 0, none⟩) 1 1] 42) |>.mono (by omega)))
  have Z2 : ((V1.alloc (.cells #[.int .i64 1, .int .i64 0, .int .i64 0, .int .i64 0] 47)).alloc (.cells #[.int .i64 9999, .int .i64 0, .int .i64 (-1), .bool false, .slice (some ⟨V1.heap.size, 0, none⟩) 1 1] 42)).heap.size = V1.heap.size + 2 := by simp
  generalize (V1.alloc (.cells #[.int .i64 1, .int .i64 0, .int .i64 0, .int .i64 0] 47)).alloc (.cells #[.int .i64 9999, .int .i64 0, .int .i64 (-1), .bool false, .slice (some ⟨V1.heap.size, 0, none⟩) 1 1] 42) = V2 at *
  have hgF : w4.heap.size < V2.heap.size := by omega
  have hgD : V1.heap.size + 1 < V2.heap.size := by omega
  replace Z2 := Lib.hid Z2
  clear B2
  have B4 := Lib.hid (B3.out.alloc B3.out.size (.cells #[.int .i64 9999, .int .i64 0, .int .i64 (-1), .bool false, .slice (some ⟨V1.heap.size, 0, none⟩) 1 1] 42))
  have F4 := Lib.hid (new_keep (.cells #[.int .i64 9999, .int .i64 0, .int .i64 (-1), .bool false, .slice (some ⟨V1.heap.size, 0, none⟩) 1 1] 42) F2.out)
  have T4 := Lib.hid (new_keep (.cells #[.int .i64 9999, .int .i64 0, .int .i64 (-1), .bool false, .slice (some ⟨V1.heap.size, 0, none⟩) 1 1] 42) T2.out)
  have OD := Lib.hid (HR.out.d.own.keep B4.out)
  have ES := Lib.hid (es_one (E := ED) (x := ⟨d0, some ⟨V1.heap.size, 0, none⟩, 1⟩) (cs := #[.int .i64 9999, .int .i64 0, .int .i64 (-1), .bool false, .slice (some ⟨V1.heap.size, 0, none⟩) 1 1]) rfl (heap_alloc_new V2 (.cells #[.int .i64 9999, .int .i64 0, .int .i64 (-1), .bool false, .slice (some ⟨V1.heap.size, 0, none⟩) 1 1] 42)))
  obtain ⟨q0, q1, q2, q3, q4, q5, q6, q7, q8, q9⟩ := scB_cell F2.out
  have d0' := Joins.cell_of_block D2.out 0
  have d1' := Joins.cell_of_block D2.out 1
  have d2' := Joins.cell_of_block D2.out 2
  have d3' := Joins.cell_of_block D2.out 3
  have d4' := Joins.cell_of_block D2.out 4
  have hk3 := HR.out.l4
  go_upto_region 5 with (at_builtin; refine wpList_append_len rfl RD _ _ 1 1 (show [(⟨d0, some ⟨V1.heap.size, 0, none⟩, 1⟩ : Lo Dr)].length = 1 from rfl) rfl rfl rfl OD.out ES.out (by omega) (by simp) (by simp; omega) ?_; intro v' w7 h1 h2 h3; obtain ⟨g, c, rfl⟩ := ownsRow_succ h1; have HRM := Lib.hid (rf_mk HR.out HFit.out HOk.out HFew.out B4.out F4.out T4.out (Nat.le_refl _) aT nFT h1 h2 h3); have gz := (Array.getElem?_eq_some_iff.1 HRM.out.1.F).1; simp only [World.size_setCell] at gz; have F7 := Lib.hid (show w7.heap[w4.heap.size]? = some (scB f) from (((om_refl _ _).grown h2 fun r e => .inl e : Om (fun b => (Value.slice f.dA f.ds.length f.dc).ownBlock = some b) _ w7)).blk F4.out fun e => by have := HR.out.d.blk _ e; omega); have fz := ouB_free (w := w7) (g := w4.heap.size) F7.out 9; obtain ⟨-, -, -, -, -, -, -, -, -, y9⟩ := scB_cell F7.out; clear h1 h2 h3)
  have HRf := Lib.hid HRM.out.1
  have BZ := Lib.hid (B1.out.trans (HRM.out.2.mono B1.out.size))
  clear q0 q1 q2 q3 q4 q5 q6 q7 q8 q9 d0' d1' d2' d3' d4' F1 F2 T2 D2 B3 B4 F4 T4 OD ES HRM hgF hgD gz fz F7 y9
  generalize w7.setCell ⟨w4.heap.size, 9, none⟩ (.slice (some ⟨g, 0, none⟩) (f.ds.length + 1) c) = X at *
  generalize V1.heap.size = gT at *
  generalize hgF : w4.heap.size = gF at *
  clear hgF
  obtain ⟨q0, q1, q2, q3, q4, q5, q6, q7, q8, q9⟩ := ouB_cell HRf.out.F
  have qf := ouB_free HRf.out.F
  have hgz : gF < X.heap.size := (Array.getElem?_eq_some_iff.1 HRf.out.F).1
  have wk : IntKind.i64.wrap (((f.ds.length + 1 : Nat) : Int) - 1) = f.ds.length := by rw [IntKind.wrap_i64]; omega
  have hgFw : w.heap.size ≤ gF := by
    have := B1.out.size
    have := HRf.out.l1
    have := HRf.out.l2
    have := HRf.out.l3
    have := HRf.out.aF
    omega
  have hgg : w.heap.size ≤ g := by
    have := B1.out.size
    have := HRf.out.l1
    have := HRf.out.l2
    have := HRf.out.l3
    have := HRf.out.ag
    omega
  have hgTw : w.heap.size ≤ gT := by
    have := B1.out.size
    have := HRf.out.l1
    have := HRf.out.l2
    have := HRf.out.l3
    have := HRf.out.aT
    omega
  have hL : (f.ds ++ [(⟨d0, some ⟨gT, 0, none⟩, 1⟩ : Lo Dr)])[f.ds.length]? = some ⟨d0, some ⟨gT, 0, none⟩, 1⟩ := by
    rw [List.getElem?_append_right (Nat.le_refl _), Nat.sub_self]
    rfl
  obtain ⟨b', off', e', -, hat'⟩ := (ownE_es HRf.out.d).2.2.at hL
  cases e'
  obtain ⟨l0, l1, l2, l3, l4⟩ := atD (show AtE ED X g (0 + f.ds.length * 5) _ from hat')
  rw [Nat.zero_add] at l0 l1 l2 l3 l4
  have l4 : X.cell? ⟨g, f.ds.length * 5 + 4, none⟩ = some (.slice (some ⟨gT, 0, none⟩) 1 1) := l4
  have gf := ownE_free HRf.out.d
  have ggz : g < X.heap.size := World.block_lt_of_cell? _ _ l0
  have tf : ∀ o, X.frozen? ⟨gT, o, none⟩ = false := fun o => by simp [World.frozen?, HRf.out.T]
  have tz' : gT < X.heap.size := (Array.getElem?_eq_some_iff.1 HRf.out.T).1
  have t3 := Joins.cell_of_block HRf.out.T 3
  have hvl : f.vs.length ≤ 1000 := by have := HRf.out.fit.v.2; rw [show f.p.vs.length = f.vs.length from rfl] at this; omega
  have htl : f.ts.length ≤ 1000 := by have := HRf.out.fit.t; rw [len_map_ts] at this; omega
  have hpl : 1 ≤ f.ps.length := by have := HRf.out.fit.q.1; rwa [len_map_ps] at this
  have hb1 := HRf.out.v
  clear hL hat'
  go_upto_region 8 with fail
  rcases hm9.out with rfl | rfl | rfl | rfl | rfl | rfl | rfl | rfl | rfl | rfl
  · go_upto_region 34 with fail
    have GD := Lib.hid HRf.out.w0
    have BW := Lib.hid (BZ.out.setCell (p := ⟨gF, 1, none⟩) hgFw (.int .i64 0))
    clear q0 q1 q2 q3 q4 q5 q6 q7 q8 q9 l0 l1 l2 l3 l4
    generalize X.setCell ⟨gF, 1, none⟩ (.int .i64 0) = Z at *
    obtain ⟨y, hy, hat, hyok, hyfew, hyc⟩ := GD.out
    have CH := Lib.hid (show Calls Try.prog 12 #[.agg #[.int .i64 y.w, .int .i64 y.h, .int .u8 y.k.r, .int .u8 y.k.g, .int .u8 y.k.b, .int .u8 y.k.a, .slice y.vA y.vs.length y.vc, .slice y.tA y.ts.length y.tc, .slice y.pA y.ps.length y.pc, .slice y.dA y.ds.length y.dc]] Z (fun e w' => e = .returned (.int .i64 20) ∧ Below Z.heap.size Z w') from by
      have h := check_scene y Z hat hyok hyfew
      rw [hyc] at h
      exact h)
    obtain ⟨z0, z1, z2, z3, z4, z5, z6, z7, z8, z9⟩ := scB_cell hy
    clear hat hyok hyfew hyc hy
    go_wp2_with fail
    with_reducible refine CH.out.mono ?_
    rintro e w9 ⟨rfl, hb⟩
    have B9 := Lib.hid (bstep BW.out BW.out.size hb)
    clear hb
    go_wp2_with fail
    go_ret
    exact ⟨rfl, B9.out⟩
  · go_upto_region 34 with fail
    have GD := Lib.hid HRf.out.w1
    have BW := Lib.hid ((((BZ.out.setCell (p := ⟨gF, 2, none⟩) hgFw (.int .u8 2)).setCell (p := ⟨gF, 3, none⟩) hgFw (.int .u8 0)).setCell (p := ⟨gF, 4, none⟩) hgFw (.int .u8 0)).setCell (p := ⟨gF, 5, none⟩) hgFw (.int .u8 1))
    clear q0 q1 q2 q3 q4 q5 q6 q7 q8 q9 l0 l1 l2 l3 l4
    generalize (((X.setCell ⟨gF, 2, none⟩ (.int .u8 2)).setCell ⟨gF, 3, none⟩ (.int .u8 0)).setCell ⟨gF, 4, none⟩ (.int .u8 0)).setCell ⟨gF, 5, none⟩ (.int .u8 1) = Z at *
    obtain ⟨y, hy, hat, hyok, hyfew, hyc⟩ := GD.out
    have CH := Lib.hid (show Calls Try.prog 12 #[.agg #[.int .i64 y.w, .int .i64 y.h, .int .u8 y.k.r, .int .u8 y.k.g, .int .u8 y.k.b, .int .u8 y.k.a, .slice y.vA y.vs.length y.vc, .slice y.tA y.ts.length y.tc, .slice y.pA y.ps.length y.pc, .slice y.dA y.ds.length y.dc]] Z (fun e w' => e = .returned (.int .i64 1) ∧ Below Z.heap.size Z w') from by
      have h := check_scene y Z hat hyok hyfew
      rw [hyc] at h
      exact h)
    obtain ⟨z0, z1, z2, z3, z4, z5, z6, z7, z8, z9⟩ := scB_cell hy
    clear hat hyok hyfew hyc hy
    go_wp2_with fail
    with_reducible refine CH.out.mono ?_
    rintro e w9 ⟨rfl, hb⟩
    have B9 := Lib.hid (bstep BW.out BW.out.size hb)
    clear hb
    go_wp2_with fail
    go_ret
    exact ⟨rfl, B9.out⟩
  · go_upto_region 15 with fail
    have y0 : ∀ w', Om (fun b => b = g) X w' → w'.cell? ⟨gF, 9, none⟩ = some (.slice (some ⟨g, 0, none⟩) (f.ds.length + 1) c) := fun w' h => h.cell (by assumption) (HRf.out.nFg)
    refine wp_region_held_drew (S := fun w' => Om (fun b => b = g) X w') (by kernel_rfl) (om_drew _ _) (fun hS => ?_)
    have M0 := Lib.hid (om_drew (fun b => b = g) X)
    have N0 := Lib.hid (om_drew (fun _ => False) X)
    have BD := Lib.hid (below_drewN' BZ.out)
    have Rd := Lib.hid HRf.out
    generalize X.drew = t0 at *
    refine wpAnyH_take (i := 0) (v := .pointer (some ⟨gF, 9, none⟩)) rfl (by kernel_rfl) (by kernel_rfl) (by kernel_rfl) (fun _ _ _ h => h) (Or.inl ⟨by rfl, fun w hw => by have z0 := y0 w hw; go_simp <;> (intro h; exact absurd h (by omega))⟩) hS ?_
    try simp only [Act.put, List.setIfInBounds_toArray, List.set_cons_zero, List.set_cons_succ, List.getElem_toArray, List.getElem_cons_zero]
    refine wpAnyH_take (i := 1) (v := .slice (some ⟨g, 0, none⟩) (f.ds.length + 1) c) rfl (by kernel_rfl) (by kernel_rfl) (by kernel_rfl) (fun _ _ _ h => h) (Or.inl ⟨by rfl, fun w hw => by have z0 := y0 w hw; go_simp <;> (intro h; exact absurd h (by omega))⟩) hS ?_
    try simp only [Act.put, List.setIfInBounds_toArray, List.set_cons_zero, List.set_cons_succ, List.getElem_toArray, List.getElem_cons_zero, List.getElem_cons_succ]
    refine wpAnyH_take (i := 2) (v := .int .i64 f.ds.length) rfl (by kernel_rfl) (by kernel_rfl) (by kernel_rfl) (fun _ _ _ h => h) (Or.inl ⟨by rfl, fun w hw => by have z0 := y0 w hw; go_simp <;> (intro h; exact absurd h (by omega))⟩) hS ?_
    try simp only [Act.put, List.setIfInBounds_toArray, List.set_cons_zero, List.set_cons_succ, List.getElem_toArray, List.getElem_cons_zero, List.getElem_cons_succ]
    obtain ⟨t1, mk1, om1, bm1⟩ := make33 t0
    have M1 := Lib.hid (M0.out.bel (bm1.mono M0.out.1))
    have N1 := Lib.hid (N0.out.bel (bm1.mono N0.out.1))
    have O1 := Lib.hid om1
    have B1' := Lib.hid (bstep BD.out BD.out.size bm1)
    refine wpAnyH_ready (rs := [3]) (by kernel_rfl) (by simp) ?_
    refine AllReadyH.cons rfl (fun K hK => ?_) AllReadyH.nil
    go_simp
    refine hK.out _ _ M1.out (fun hS => ?_)
    clear hK K mk1 om1 bm1
    try simp only [Act.put, List.setIfInBounds_toArray, List.set_cons_zero, List.set_cons_succ, List.getElem_toArray, List.getElem_cons_zero, List.getElem_cons_succ]
    refine wpAnyH_take (i := 4) (v := .pointer (some ⟨g, f.ds.length * 5, none⟩)) rfl (by kernel_rfl) (by kernel_rfl) (by kernel_rfl) (fun _ _ _ h => h) (Or.inl ⟨by rfl, fun w hw => by have z0 := y0 w hw; go_simp <;> (intro h; exact absurd h (by omega))⟩) hS ?_
    try simp only [Act.put, List.setIfInBounds_toArray, List.set_cons_zero, List.set_cons_succ, List.getElem_toArray, List.getElem_cons_zero, List.getElem_cons_succ]
    refine wpAnyH_take (i := 5) (v := .pointer (some ⟨g, f.ds.length * 5 + 4, none⟩)) rfl (by kernel_rfl) (by kernel_rfl) (by kernel_rfl) (fun _ _ _ h => h) (Or.inl ⟨by rfl, fun w hw => by have z0 := y0 w hw; go_simp <;> (intro h; exact absurd h (by omega))⟩) hS ?_
    try simp only [Act.put, List.setIfInBounds_toArray, List.set_cons_zero, List.set_cons_succ, List.getElem_toArray, List.getElem_cons_zero, List.getElem_cons_succ]
    have x4 := M1.out
    have gf1 : t1.frozen? ⟨g, f.ds.length * 5 + 4, none⟩ = false := ownE_free (own_om Rd.out.d N1.out fun _ _ e => e) _
    have c4 : t1.cell? ⟨g, f.ds.length * 5 + 4, none⟩ = some (.slice (some ⟨gT, 0, none⟩) 1 1) := N1.out.cell l4 (fun e => e)
    have gz1 : g < t1.heap.size := World.block_lt_of_cell? _ _ c4
    refine wpAnyH_ready (rs := [6]) (by kernel_rfl) (by simp) ?_
    refine AllReadyH.cons rfl (fun K hK => ?_) AllReadyH.nil
    go_simp
    refine hK.out _ _ (M1.out.set (.inl rfl)) (fun hS => ?_)
    clear hK K hS
    try simp only [Act.put, List.setIfInBounds_toArray, List.set_cons_zero, List.set_cons_succ, List.getElem_toArray, List.getElem_cons_zero, List.getElem_cons_succ]
    refine wpAnyH_done (by kernel_rfl) ?_ _
    go_upto_region 34 with fail
    have GD := Lib.hid (Rd.out.w2 N1.out O1.out N0.out.1)
    have BW := Lib.hid (B1'.out.setCell (p := ⟨g, f.ds.length * 5 + 4, none⟩) hgg (.slice (some ⟨t0.heap.size, 0, none⟩) 33 33))
    clear c4 y0
    clear q0 q1 q2 q3 q4 q5 q6 q7 q8 q9 l0 l1 l2 l3 l4
    generalize t1.setCell ⟨g, f.ds.length * 5 + 4, none⟩ (.slice (some ⟨t0.heap.size, 0, none⟩) 33 33) = Z at *
    obtain ⟨y, hy, hat, hyok, hyfew, hyc⟩ := GD.out
    have CH := Lib.hid (show Calls Try.prog 12 #[.agg #[.int .i64 y.w, .int .i64 y.h, .int .u8 y.k.r, .int .u8 y.k.g, .int .u8 y.k.b, .int .u8 y.k.a, .slice y.vA y.vs.length y.vc, .slice y.tA y.ts.length y.tc, .slice y.pA y.ps.length y.pc, .slice y.dA y.ds.length y.dc]] Z (fun e w' => e = .returned (.int .i64 26) ∧ Below Z.heap.size Z w') from by
      have h := check_scene y Z hat hyok hyfew
      rw [hyc] at h
      exact h)
    obtain ⟨z0, z1, z2, z3, z4, z5, z6, z7, z8, z9⟩ := scB_cell hy
    clear hat hyok hyfew hyc hy
    go_wp2_with fail
    with_reducible refine CH.out.mono ?_
    rintro e w9 ⟨rfl, hb⟩
    have B9 := Lib.hid (bstep BW.out BW.out.size hb)
    clear hb
    go_wp2_with fail
    go_ret
    exact ⟨rfl, B9.out⟩
  · have OT := Lib.hid (HRf.out.v.alloc (.cells #[.int .i64 0, .int .i64 0, .int .i64 0, .int .i64 0, .int .i64 0, .int .i64 0, .int .i64 0, .int .i64 0] 50))
    have ES := Lib.hid (es_one (E := EV) (x := v0) (cs := #[.int .i64 0, .int .i64 0, .int .i64 0, .int .i64 0, .int .i64 0, .int .i64 0, .int .i64 0, .int .i64 0]) rfl (heap_alloc_new X (.cells #[.int .i64 0, .int .i64 0, .int .i64 0, .int .i64 0, .int .i64 0, .int .i64 0, .int .i64 0, .int .i64 0] 50)))
    have hbs := HRf.out
    go_upto_region 34 with (at_builtin; refine wpList_append_len rfl RV _ _ 1 1 (show [v0].length = 1 from rfl) rfl rfl rfl OT.out ES.out (by omega) (by simp) (by have := HRf.out.l1; have := HRf.out.l2; have := HRf.out.l3; have := HRf.out.aF; simp; omega) ?_; intro v' w7 h1 h2 h3; obtain ⟨g2, c2, rfl⟩ := ownsRow_succ h1; have GW := Lib.hid (HRf.out.w3 h1 h2 h3); have B7 := Lib.hid ((BZ.out.alloc BZ.out.size (.cells #[.int .i64 0, .int .i64 0, .int .i64 0, .int .i64 0, .int .i64 0, .int .i64 0, .int .i64 0, .int .i64 0] 50)).grown h2 (by have := BZ.out.size; simp; omega) fun j e => by have := ownE_ge HRf.out.v j e; have := B1.out.size; have := HRf.out.l1; omega); have fz := ouB_free (w := w7) (g := gF) GW.out.2 6; obtain ⟨y0, y1, y2, y3, y4, y5, y6, y7, y8, y9⟩ := ouB_cell GW.out.2; have gz7 : gF < w7.heap.size := (Array.getElem?_eq_some_iff.1 GW.out.2).1; clear h1 h2 h3)
    have GD := Lib.hid GW.out.1
    have BW := Lib.hid (B7.out.setCell (p := ⟨gF, 6, none⟩) hgFw (.slice (some ⟨g2, 0, none⟩) (f.vs.length + 1) c2))
    clear y0 y1 y2 y3 y4 y5 y6 y7 y8 y9 fz gz7 hbs GW B7
    clear q0 q1 q2 q3 q4 q5 q6 q7 q8 q9 l0 l1 l2 l3 l4
    generalize w7.setCell ⟨gF, 6, none⟩ (.slice (some ⟨g2, 0, none⟩) (f.vs.length + 1) c2) = Z at *
    obtain ⟨y, hy, hat, hyok, hyfew, hyc⟩ := GD.out
    have CH := Lib.hid (show Calls Try.prog 12 #[.agg #[.int .i64 y.w, .int .i64 y.h, .int .u8 y.k.r, .int .u8 y.k.g, .int .u8 y.k.b, .int .u8 y.k.a, .slice y.vA y.vs.length y.vc, .slice y.tA y.ts.length y.tc, .slice y.pA y.ps.length y.pc, .slice y.dA y.ds.length y.dc]] Z (fun e w' => e = .returned (.int .i64 21) ∧ Below Z.heap.size Z w') from by
      have h := check_scene y Z hat hyok hyfew
      rw [hyc] at h
      exact h)
    obtain ⟨z0, z1, z2, z3, z4, z5, z6, z7, z8, z9⟩ := scB_cell hy
    clear hat hyok hyfew hyc hy
    go_wp2_with fail
    with_reducible refine CH.out.mono ?_
    rintro e w9 ⟨rfl, hb⟩
    have B9 := Lib.hid (bstep BW.out BW.out.size hb)
    clear hb
    go_wp2_with fail
    go_ret
    exact ⟨rfl, B9.out⟩
  · have OT := Lib.hid (HRf.out.t.own.alloc (.cells #[.int .i64 1, .int .i64 1, .slice none 0 0] 53))
    have ES := Lib.hid (es_one (E := ET) (x := x0) (cs := #[.int .i64 1, .int .i64 1, .slice none 0 0]) rfl (heap_alloc_new X (.cells #[.int .i64 1, .int .i64 1, .slice none 0 0] 53)))
    have hbs := HRf.out
    go_upto_region 34 with (at_builtin; refine wpList_append_len rfl RT _ _ 1 1 (show [x0].length = 1 from rfl) rfl rfl rfl OT.out ES.out (by omega) (by simp) (by have := HRf.out.l1; have := HRf.out.l2; have := HRf.out.l3; have := HRf.out.aF; simp; omega) ?_; intro v' w7 h1 h2 h3; obtain ⟨g2, c2, rfl⟩ := ownsRow_succ h1; have GW := Lib.hid (HRf.out.w4 h1 h2 h3); have B7 := Lib.hid ((BZ.out.alloc BZ.out.size (.cells #[.int .i64 1, .int .i64 1, .slice none 0 0] 53)).grown h2 (by have := BZ.out.size; simp; omega) fun j e => by have := ownE_ge HRf.out.t.own j e; have := B1.out.size; have := HRf.out.l1; omega); have fz := ouB_free (w := w7) (g := gF) GW.out.2 7; obtain ⟨y0, y1, y2, y3, y4, y5, y6, y7, y8, y9⟩ := ouB_cell GW.out.2; have gz7 : gF < w7.heap.size := (Array.getElem?_eq_some_iff.1 GW.out.2).1; clear h1 h2 h3)
    have GD := Lib.hid GW.out.1
    have BW := Lib.hid (B7.out.setCell (p := ⟨gF, 7, none⟩) hgFw (.slice (some ⟨g2, 0, none⟩) (f.ts.length + 1) c2))
    clear y0 y1 y2 y3 y4 y5 y6 y7 y8 y9 fz gz7 hbs GW B7
    clear q0 q1 q2 q3 q4 q5 q6 q7 q8 q9 l0 l1 l2 l3 l4
    generalize w7.setCell ⟨gF, 7, none⟩ (.slice (some ⟨g2, 0, none⟩) (f.ts.length + 1) c2) = Z at *
    obtain ⟨y, hy, hat, hyok, hyfew, hyc⟩ := GD.out
    have CH := Lib.hid (show Calls Try.prog 12 #[.agg #[.int .i64 y.w, .int .i64 y.h, .int .u8 y.k.r, .int .u8 y.k.g, .int .u8 y.k.b, .int .u8 y.k.a, .slice y.vA y.vs.length y.vc, .slice y.tA y.ts.length y.tc, .slice y.pA y.ps.length y.pc, .slice y.dA y.ds.length y.dc]] Z (fun e w' => e = .returned (.int .i64 22) ∧ Below Z.heap.size Z w') from by
      have h := check_scene y Z hat hyok hyfew
      rw [hyc] at h
      exact h)
    obtain ⟨z0, z1, z2, z3, z4, z5, z6, z7, z8, z9⟩ := scB_cell hy
    clear hat hyok hyfew hyc hy
    go_wp2_with fail
    with_reducible refine CH.out.mono ?_
    rintro e w9 ⟨rfl, hb⟩
    have B9 := Lib.hid (bstep BW.out BW.out.size hb)
    clear hb
    go_wp2_with fail
    go_ret
    exact ⟨rfl, B9.out⟩
  · obtain ⟨gP, eP, p1, p2⟩ := HRf.out.pa
    have hoP := HRf.out.p.own
    rw [eP] at hoP
    have pf := ownE_free hoP
    obtain ⟨u0, hu0⟩ := get_lt (l := f.ps) (k := 0) (by omega)
    obtain ⟨b', off', e', -, hat'⟩ := (ownE_es hoP).2.2.at hu0
    cases e'
    have c0 : X.cell? ⟨gP, 0, none⟩ = some (.slice u0.A u0.x.length u0.c) := by have := atP hat'; simpa using this
    have gzP : gP < X.heap.size := World.block_lt_of_cell? _ _ c0
    have hgP : w.heap.size ≤ gP := by
      have := B1.out.size
      have := HRf.out.l1
      have := HRf.out.l2
      omega
    have GD := Lib.hid (HRf.out.w5 eP p1 p2)
    rw [eP] at q8
    have hpl0 : (0 : Int) < f.ps.length := by omega
    have hpl1 : 0 < f.ps.length := by omega
    clear hat' hu0 hoP
    go_upto_region 34 with fail
    have BW := Lib.hid (BZ.out.setCell (p := ⟨gP, 0, none⟩) hgP (.slice none 0 0))
    clear q0 q1 q2 q3 q4 q5 q6 q7 q8 q9 l0 l1 l2 l3 l4
    clear c0
    generalize X.setCell ⟨gP, 0, none⟩ (.slice none 0 0) = Z at *
    obtain ⟨y, hy, hat, hyok, hyfew, hyc⟩ := GD.out
    have CH := Lib.hid (show Calls Try.prog 12 #[.agg #[.int .i64 y.w, .int .i64 y.h, .int .u8 y.k.r, .int .u8 y.k.g, .int .u8 y.k.b, .int .u8 y.k.a, .slice y.vA y.vs.length y.vc, .slice y.tA y.ts.length y.tc, .slice y.pA y.ps.length y.pc, .slice y.dA y.ds.length y.dc]] Z (fun e w' => e = .returned (.int .i64 23) ∧ Below Z.heap.size Z w') from by
      have h := check_scene y Z hat hyok hyfew
      rw [hyc] at h
      exact h)
    obtain ⟨z0, z1, z2, z3, z4, z5, z6, z7, z8, z9⟩ := scB_cell hy
    clear hat hyok hyfew hyc hy
    go_wp2_with fail
    with_reducible refine CH.out.mono ?_
    rintro e w9 ⟨rfl, hb⟩
    have B9 := Lib.hid (bstep BW.out BW.out.size hb)
    clear hb
    go_wp2_with fail
    go_ret
    exact ⟨rfl, B9.out⟩
  · go_upto_region 34 with fail
    have GD := Lib.hid HRf.out.w6
    have BW := Lib.hid (BZ.out.setCell (p := ⟨g, f.ds.length * 5 + 1, none⟩) hgg (.int .i64 f.ps.length))
    clear q0 q1 q2 q3 q4 q5 q6 q7 q8 q9 l0 l1 l2 l3 l4
    generalize X.setCell ⟨g, f.ds.length * 5 + 1, none⟩ (.int .i64 f.ps.length) = Z at *
    obtain ⟨y, hy, hat, hyok, hyfew, hyc⟩ := GD.out
    have CH := Lib.hid (show Calls Try.prog 12 #[.agg #[.int .i64 y.w, .int .i64 y.h, .int .u8 y.k.r, .int .u8 y.k.g, .int .u8 y.k.b, .int .u8 y.k.a, .slice y.vA y.vs.length y.vc, .slice y.tA y.ts.length y.tc, .slice y.pA y.ps.length y.pc, .slice y.dA y.ds.length y.dc]] Z (fun e w' => e = .returned (.int .i64 24) ∧ Below Z.heap.size Z w') from by
      have h := check_scene y Z hat hyok hyfew
      rw [hyc] at h
      exact h)
    obtain ⟨z0, z1, z2, z3, z4, z5, z6, z7, z8, z9⟩ := scB_cell hy
    clear hat hyok hyfew hyc hy
    go_wp2_with fail
    with_reducible refine CH.out.mono ?_
    rintro e w9 ⟨rfl, hb⟩
    have B9 := Lib.hid (bstep BW.out BW.out.size hb)
    clear hb
    go_wp2_with fail
    go_ret
    exact ⟨rfl, B9.out⟩
  · go_upto_region 34 with fail
    have GD := Lib.hid HRf.out.wt
    have BW := Lib.hid (BZ.out.setCell (p := ⟨g, f.ds.length * 5 + 2, none⟩) hgg (.int .i64 f.ts.length))
    clear q0 q1 q2 q3 q4 q5 q6 q7 q8 q9 l0 l1 l2 l3 l4
    generalize X.setCell ⟨g, f.ds.length * 5 + 2, none⟩ (.int .i64 f.ts.length) = Z at *
    obtain ⟨y, hy, hat, hyok, hyfew, hyc⟩ := GD.out
    have CH := Lib.hid (show Calls Try.prog 12 #[.agg #[.int .i64 y.w, .int .i64 y.h, .int .u8 y.k.r, .int .u8 y.k.g, .int .u8 y.k.b, .int .u8 y.k.a, .slice y.vA y.vs.length y.vc, .slice y.tA y.ts.length y.tc, .slice y.pA y.ps.length y.pc, .slice y.dA y.ds.length y.dc]] Z (fun e w' => e = .returned (.int .i64 24) ∧ Below Z.heap.size Z w') from by
      have h := check_scene y Z hat hyok hyfew
      rw [hyc] at h
      exact h)
    obtain ⟨z0, z1, z2, z3, z4, z5, z6, z7, z8, z9⟩ := scB_cell hy
    clear hat hyok hyfew hyc hy
    go_wp2_with fail
    with_reducible refine CH.out.mono ?_
    rintro e w9 ⟨rfl, hb⟩
    have B9 := Lib.hid (bstep BW.out BW.out.size hb)
    clear hb
    go_wp2_with fail
    go_ret
    exact ⟨rfl, B9.out⟩
  · go_upto_region 31 with fail
    have y0 : ∀ w', Om (fun b => b = gT) X w' → w'.cell? ⟨gF, 9, none⟩ = some (.slice (some ⟨g, 0, none⟩) (f.ds.length + 1) c) := fun w' h => h.cell (by assumption) (HRf.out.nFT)
    have y1 : ∀ w', Om (fun b => b = gT) X w' → w'.cell? ⟨g, f.ds.length * 5 + 4, none⟩ = some (.slice (some ⟨gT, 0, none⟩) 1 1) := fun w' h => h.cell (by assumption) (fun e => HRf.out.nTg e.symm)
    have y2 : ∀ w', Om (fun b => b = gT) X w' → w'.cell? ⟨gF, 6, none⟩ = some (.slice f.vA f.vs.length f.vc) := fun w' h => h.cell (by assumption) (HRf.out.nFT)
    refine wp_region_held_drew (S := fun w' => Om (fun b => b = gT) X w') (by kernel_rfl) (om_drew _ _) (fun hS => ?_)
    have M0 := Lib.hid (om_drew (fun b => b = gT) X)
    have N0 := Lib.hid (om_drew (fun _ => False) X)
    have BD := Lib.hid (below_drewN' BZ.out)
    have Rd := Lib.hid HRf.out
    have HRd := Lib.hid (rf_drew HRf.out)
    generalize X.drew = t0 at *
    refine wpAnyH_take (i := 0) (v := .pointer (some ⟨gF, 9, none⟩)) rfl (by kernel_rfl) (by kernel_rfl) (by kernel_rfl) (fun _ _ _ h => h) (Or.inl ⟨by rfl, fun w hw => by have z0 := y0 w hw; have z1 := y1 w hw; have z2 := y2 w hw; go_simp <;> (intro h; exact absurd h (by omega))⟩) hS ?_
    try simp only [Act.put, List.setIfInBounds_toArray, List.set_cons_zero, List.set_cons_succ, List.getElem_toArray, List.getElem_cons_zero]
    refine wpAnyH_take (i := 1) (v := .slice (some ⟨g, 0, none⟩) (f.ds.length + 1) c) rfl (by kernel_rfl) (by kernel_rfl) (by kernel_rfl) (fun _ _ _ h => h) (Or.inl ⟨by rfl, fun w hw => by have z0 := y0 w hw; have z1 := y1 w hw; have z2 := y2 w hw; go_simp <;> (intro h; exact absurd h (by omega))⟩) hS ?_
    try simp only [Act.put, List.setIfInBounds_toArray, List.set_cons_zero, List.set_cons_succ, List.getElem_toArray, List.getElem_cons_zero, List.getElem_cons_succ]
    refine wpAnyH_take (i := 2) (v := .int .i64 f.ds.length) rfl (by kernel_rfl) (by kernel_rfl) (by kernel_rfl) (fun _ _ _ h => h) (Or.inl ⟨by rfl, fun w hw => by have z0 := y0 w hw; have z1 := y1 w hw; have z2 := y2 w hw; go_simp <;> (intro h; exact absurd h (by omega))⟩) hS ?_
    try simp only [Act.put, List.setIfInBounds_toArray, List.set_cons_zero, List.set_cons_succ, List.getElem_toArray, List.getElem_cons_zero, List.getElem_cons_succ]
    refine wpAnyH_take (i := 3) (v := .pointer (some ⟨g, f.ds.length * 5, none⟩)) rfl (by kernel_rfl) (by kernel_rfl) (by kernel_rfl) (fun _ _ _ h => h) (Or.inl ⟨by rfl, fun w hw => by have z0 := y0 w hw; have z1 := y1 w hw; have z2 := y2 w hw; go_simp <;> (intro h; exact absurd h (by omega))⟩) hS ?_
    try simp only [Act.put, List.setIfInBounds_toArray, List.set_cons_zero, List.set_cons_succ, List.getElem_toArray, List.getElem_cons_zero, List.getElem_cons_succ]
    refine wpAnyH_take (i := 4) (v := .pointer (some ⟨g, f.ds.length * 5 + 4, none⟩)) rfl (by kernel_rfl) (by kernel_rfl) (by kernel_rfl) (fun _ _ _ h => h) (Or.inl ⟨by rfl, fun w hw => by have z0 := y0 w hw; have z1 := y1 w hw; have z2 := y2 w hw; go_simp <;> (intro h; exact absurd h (by omega))⟩) hS ?_
    try simp only [Act.put, List.setIfInBounds_toArray, List.set_cons_zero, List.set_cons_succ, List.getElem_toArray, List.getElem_cons_zero, List.getElem_cons_succ]
    refine wpAnyH_take (i := 5) (v := .slice (some ⟨gT, 0, none⟩) 1 1) rfl (by kernel_rfl) (by kernel_rfl) (by kernel_rfl) (fun _ _ _ h => h) (Or.inl ⟨by rfl, fun w hw => by have z0 := y0 w hw; have z1 := y1 w hw; have z2 := y2 w hw; go_simp <;> (intro h; exact absurd h (by omega))⟩) hS ?_
    try simp only [Act.put, List.setIfInBounds_toArray, List.set_cons_zero, List.set_cons_succ, List.getElem_toArray, List.getElem_cons_zero, List.getElem_cons_succ]
    refine wpAnyH_take (i := 6) (v := .pointer (some ⟨gF, 6, none⟩)) rfl (by kernel_rfl) (by kernel_rfl) (by kernel_rfl) (fun _ _ _ h => h) (Or.inl ⟨by rfl, fun w hw => by have z0 := y0 w hw; have z1 := y1 w hw; have z2 := y2 w hw; go_simp <;> (intro h; exact absurd h (by omega))⟩) hS ?_
    try simp only [Act.put, List.setIfInBounds_toArray, List.set_cons_zero, List.set_cons_succ, List.getElem_toArray, List.getElem_cons_zero, List.getElem_cons_succ]
    refine wpAnyH_take (i := 7) (v := .slice f.vA f.vs.length f.vc) rfl (by kernel_rfl) (by kernel_rfl) (by kernel_rfl) (fun _ _ _ h => h) (Or.inl ⟨by rfl, fun w hw => by have z0 := y0 w hw; have z1 := y1 w hw; have z2 := y2 w hw; go_simp <;> (intro h; exact absurd h (by omega))⟩) hS ?_
    try simp only [Act.put, List.setIfInBounds_toArray, List.set_cons_zero, List.set_cons_succ, List.getElem_toArray, List.getElem_cons_zero, List.getElem_cons_succ]
    refine wpAnyH_take (i := 8) (v := .int .i64 f.vs.length) rfl (by kernel_rfl) (by kernel_rfl) (by kernel_rfl) (fun _ _ _ h => h) (Or.inl ⟨by rfl, fun w hw => by have z0 := y0 w hw; have z1 := y1 w hw; have z2 := y2 w hw; go_simp <;> (intro h; exact absurd h (by omega))⟩) hS ?_
    try simp only [Act.put, List.setIfInBounds_toArray, List.set_cons_zero, List.set_cons_succ, List.getElem_toArray, List.getElem_cons_zero, List.getElem_cons_succ]
    refine wpAnyH_take (i := 9) (v := .pointer (some ⟨gT, 0, none⟩)) rfl (by kernel_rfl) (by kernel_rfl) (by kernel_rfl) (fun _ _ _ h => h) (Or.inl ⟨by rfl, fun w hw => by have z0 := y0 w hw; have z1 := y1 w hw; have z2 := y2 w hw; go_simp <;> (intro h; exact absurd h (by omega))⟩) hS ?_
    try simp only [Act.put, List.setIfInBounds_toArray, List.set_cons_zero, List.set_cons_succ, List.getElem_toArray, List.getElem_cons_zero, List.getElem_cons_succ]
    refine wpAnyH_take (i := 10) (v := .pointer (some ⟨gT, 1, none⟩)) rfl (by kernel_rfl) (by kernel_rfl) (by kernel_rfl) (fun _ _ _ h => h) (Or.inl ⟨by rfl, fun w hw => by have z0 := y0 w hw; have z1 := y1 w hw; have z2 := y2 w hw; go_simp <;> (intro h; exact absurd h (by omega))⟩) hS ?_
    try simp only [Act.put, List.setIfInBounds_toArray, List.set_cons_zero, List.set_cons_succ, List.getElem_toArray, List.getElem_cons_zero, List.getElem_cons_succ]
    refine wpAnyH_take (i := 11) (v := .pointer (some ⟨gT, 3, none⟩)) rfl (by kernel_rfl) (by kernel_rfl) (by kernel_rfl) (fun _ _ _ h => h) (Or.inl ⟨by rfl, fun w hw => by have z0 := y0 w hw; have z1 := y1 w hw; have z2 := y2 w hw; go_simp <;> (intro h; exact absurd h (by omega))⟩) hS ?_
    try simp only [Act.put, List.setIfInBounds_toArray, List.set_cons_zero, List.set_cons_succ, List.getElem_toArray, List.getElem_cons_zero, List.getElem_cons_succ]
    have c3 := Joins.cell_of_block HRd.out.T 3
    have ft : t0.frozen? ⟨gT, 3, none⟩ = false := by simp [World.frozen?, HRd.out.T]
    have gt : gT < t0.heap.size := (Array.getElem?_eq_some_iff.1 HRd.out.T).1
    refine wpAnyH_ready (rs := [12]) (by kernel_rfl) (by simp) ?_
    refine AllReadyH.cons rfl (fun K hK => ?_) AllReadyH.nil
    go_simp
    refine hK.out _ _ (M0.out.set (.inl rfl)) (fun hS => ?_)
    clear hK K hS
    try simp only [Act.put, List.setIfInBounds_toArray, List.set_cons_zero, List.set_cons_succ, List.getElem_toArray, List.getElem_cons_zero, List.getElem_cons_succ]
    refine wpAnyH_done (by kernel_rfl) ?_ _
    go_upto_region 34 with fail
    have GD := Lib.hid HRd.out.w8
    have BW := Lib.hid (BD.out.setCell (p := ⟨gT, 3, none⟩) hgTw (.int .i64 f.vs.length))
    clear c3 y0 y1 y2
    clear q0 q1 q2 q3 q4 q5 q6 q7 q8 q9 l0 l1 l2 l3 l4
    generalize t0.setCell ⟨gT, 3, none⟩ (.int .i64 f.vs.length) = Z at *
    obtain ⟨y, hy, hat, hyok, hyfew, hyc⟩ := GD.out
    have CH := Lib.hid (show Calls Try.prog 12 #[.agg #[.int .i64 y.w, .int .i64 y.h, .int .u8 y.k.r, .int .u8 y.k.g, .int .u8 y.k.b, .int .u8 y.k.a, .slice y.vA y.vs.length y.vc, .slice y.tA y.ts.length y.tc, .slice y.pA y.ps.length y.pc, .slice y.dA y.ds.length y.dc]] Z (fun e w' => e = .returned (.int .i64 24) ∧ Below Z.heap.size Z w') from by
      have h := check_scene y Z hat hyok hyfew
      rw [hyc] at h
      exact h)
    obtain ⟨z0, z1, z2, z3, z4, z5, z6, z7, z8, z9⟩ := scB_cell hy
    clear hat hyok hyfew hyc hy
    go_wp2_with fail
    with_reducible refine CH.out.mono ?_
    rintro e w9 ⟨rfl, hb⟩
    have B9 := Lib.hid (bstep BW.out BW.out.size hb)
    clear hb
    go_wp2_with fail
    go_ret
    exact ⟨rfl, B9.out⟩
  · go_upto_region 34 with fail
    have GD := Lib.hid HRf.out.w9
    have BW := Lib.hid (BZ.out.setCell (p := ⟨g, f.ds.length * 5, none⟩) hgg (.int .i64 10000))
    clear q0 q1 q2 q3 q4 q5 q6 q7 q8 q9 l0 l1 l2 l3 l4
    generalize X.setCell ⟨g, f.ds.length * 5, none⟩ (.int .i64 10000) = Z at *
    obtain ⟨y, hy, hat, hyok, hyfew, hyc⟩ := GD.out
    have CH := Lib.hid (show Calls Try.prog 12 #[.agg #[.int .i64 y.w, .int .i64 y.h, .int .u8 y.k.r, .int .u8 y.k.g, .int .u8 y.k.b, .int .u8 y.k.a, .slice y.vA y.vs.length y.vc, .slice y.tA y.ts.length y.tc, .slice y.pA y.ps.length y.pc, .slice y.dA y.ds.length y.dc]] Z (fun e w' => e = .returned (.int .i64 24) ∧ Below Z.heap.size Z w') from by
      have h := check_scene y Z hat hyok hyfew
      rw [hyc] at h
      exact h)
    obtain ⟨z0, z1, z2, z3, z4, z5, z6, z7, z8, z9⟩ := scB_cell hy
    clear hat hyok hyfew hyc hy
    go_wp2_with fail
    with_reducible refine CH.out.mono ?_
    rintro e w9 ⟨rfl, hb⟩
    have B9 := Lib.hid (bstep BW.out BW.out.size hb)
    clear hb
    go_wp2_with fail
    go_ret
    exact ⟨rfl, B9.out⟩
end Go.Proofs.Ytnpcmoeleigpoaa
