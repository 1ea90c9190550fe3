/-
  The reference's Bytes.
-/
import Derived.Test.YtfmmfaeognoleaaGreatM12
import Derived.Test.YtfmmfaeognoleaaGreatM10
import Derived.BigRegion
namespace Go.Proofs.YtfmmfaeognoleaaGreat
open Go.RowKit
attribute [local go_sem ↓] Go.wp_at_zero Go.wp_at_succ

set_option maxRecDepth 100000 in
set_option maxHeartbeats 16000000 in
theorem rbytes15_any (s : Sc) (hok : s.ok) (hf : s.few) (w : World) (ha : s.at w w.heap.size) (hn : (nS s.p).length ≤ 100000000) :
    Calls Tryz.prog 14 #[.agg #[.int .i64 s.w, .int .i64 s.h, .int .u8 s.k.r, .int .u8 s.k.g, .int .u8 s.k.b, .int .u8 s.k.a, .slice s.vA s.vs.length s.vc, .slice s.tA s.ts.length s.tc, .slice s.pA s.ps.length s.pc, .slice s.dA s.ds.length s.dc]] w (P.Made 5 .u8 w.heap.size w (P.put (nS s.p))) := by
  obtain ⟨RN⟩ := rowN
  obtain ⟨YV, YT, YP, YD, hV, hT, hP, hD, hend⟩ := scene_steps s hn
  have HIn := Lib.hid (ins_nS (ok_p hok) (few_p hf))
  rw [← hend] at hn HIn ⊢
  have HV := Lib.hid hV
  have HT := Lib.hid hT
  have HP := Lib.hid hP
  have HD := Lib.hid hD
  have HA := Lib.hid ha
  have HOk := Lib.hid hok
  have HF := Lib.hid hf
  have HN := Lib.hid hn
  have hG : (w.alloc (.cells #[.int .i64 s.w, .int .i64 s.h, .int .u8 s.k.r, .int .u8 s.k.g, .int .u8 s.k.b, .int .u8 s.k.a, .slice s.vA s.vs.length s.vc, .slice s.tA s.ts.length s.tc, .slice s.pA s.ps.length s.pc, .slice s.dA s.ds.length s.dc] 29)).heap[w.heap.size]? = some (scB s) := heap_alloc_new _ _
  have hB := new_below w (.cells #[.int .i64 s.w, .int .i64 s.h, .int .u8 s.k.r, .int .u8 s.k.g, .int .u8 s.k.b, .int .u8 s.k.a, .slice s.vA s.vs.length s.vc, .slice s.tA s.ts.length s.tc, .slice s.pA s.ps.length s.pc, .slice s.dA s.ds.length s.dc] 29)
  have hZ : (w.alloc (.cells #[.int .i64 s.w, .int .i64 s.h, .int .u8 s.k.r, .int .u8 s.k.g, .int .u8 s.k.b, .int .u8 s.k.a, .slice s.vA s.vs.length s.vc, .slice s.tA s.ts.length s.tc, .slice s.pA s.ps.length s.pc, .slice s.dA s.ds.length s.dc] 29)).heap.size = w.heap.size + 1 := World.size_alloc _ _
  clear hV hT hP hD ha hok hf hn hend
  go_enter Tryz.func14, Tryz.ntmps14
  go_upto_region 1 with fail
  obtain ⟨W0, hW0⟩ : ∃ W, w.alloc (.cells #[.int .i64 s.w, .int .i64 s.h, .int .u8 s.k.r, .int .u8 s.k.g, .int .u8 s.k.b, .int .u8 s.k.a, .slice s.vA s.vs.length s.vc, .slice s.tA s.ts.length s.tc, .slice s.pA s.ps.length s.pc, .slice s.dA s.ds.length s.dc] 29) = W := ⟨_, rfl⟩
  rw [hW0] at hG hB hZ
  rw [hW0]
  clear hW0
  have HG := Lib.hid hG
  have HB := Lib.hid hB
  obtain ⟨c0, c1, c2, c3, c4, c5, -, -, -, -⟩ := scB_cell hG
  have gl := scB_lt hG
  clear hG hB
  have y0 : ∀ w', Om (fun _ => False) W0 w' → w'.cell? ⟨w.heap.size, 0, none⟩ = some (.int .i64 s.w) := fun w' h => h.cell (by assumption) (fun h => h)
  have y1 : ∀ w', Om (fun _ => False) W0 w' → w'.cell? ⟨w.heap.size, 1, none⟩ = some (.int .i64 s.h) := fun w' h => h.cell (by assumption) (fun h => h)
  have y2 : ∀ w', Om (fun _ => False) W0 w' → w'.cell? ⟨w.heap.size, 2, none⟩ = some (.int .u8 s.k.r) := fun w' h => h.cell (by assumption) (fun h => h)
  have y3 : ∀ w', Om (fun _ => False) W0 w' → w'.cell? ⟨w.heap.size, 3, none⟩ = some (.int .u8 s.k.g) := fun w' h => h.cell (by assumption) (fun h => h)
  have y4 : ∀ w', Om (fun _ => False) W0 w' → w'.cell? ⟨w.heap.size, 4, none⟩ = some (.int .u8 s.k.b) := fun w' h => h.cell (by assumption) (fun h => h)
  have y5 : ∀ w', Om (fun _ => False) W0 w' → w'.cell? ⟨w.heap.size, 5, none⟩ = some (.int .u8 s.k.a) := fun w' h => h.cell (by assumption) (fun h => h)
  refine wp_region_held_drew (S := fun w' => Om (fun _ => False) W0 w') (by kernel_rfl) (om_drew _ _) (fun hS => ?_)
  have B_t0 := Lib.hid (show Below W0.heap.size W0 W0.drew from (Below.refl _ _).drew)
  have M_t0 := Lib.hid (om_drew (fun _ => False) W0)
  have D_t0 := Lib.hid (show Below W0.heap.size W0 W0.drew from (Below.refl _ _).drew)
  generalize W0.drew = t0 at *
  refine wpAnyH_take (i := 0) (v := .pointer (some ⟨w.heap.size, 0, none⟩)) rfl (by kernel_rfl) (by kernel_rfl) (by kernel_rfl) (fun _ _ _ h => h) (Or.inl ⟨by rfl, fun w hw => by have z0 := y0 w hw; have z1 := y1 w hw; have z2 := y2 w hw; have z3 := y3 w hw; have z4 := y4 w hw; have z5 := y5 w hw; go_simp⟩) hS ?_
  try simp only [Act.put, List.setIfInBounds_toArray, List.set_cons_zero, List.set_cons_succ, List.getElem_toArray, List.getElem_cons_zero]
  refine wpAnyH_take (i := 1) (v := .int .i64 s.w) rfl (by kernel_rfl) (by kernel_rfl) (by kernel_rfl) (fun _ _ _ h => h) (Or.inl ⟨by rfl, fun w hw => by have z0 := y0 w hw; have z1 := y1 w hw; have z2 := y2 w hw; have z3 := y3 w hw; have z4 := y4 w hw; have z5 := y5 w hw; go_simp⟩) hS ?_
  try simp only [Act.put, List.setIfInBounds_toArray, List.set_cons_zero, List.set_cons_succ, List.getElem_toArray, List.getElem_cons_zero, List.getElem_cons_succ]
  refine wpAnyH_take (i := 2) (v := .pointer (some ⟨w.heap.size, 1, none⟩)) rfl (by kernel_rfl) (by kernel_rfl) (by kernel_rfl) (fun _ _ _ h => h) (Or.inl ⟨by rfl, fun w hw => by have z0 := y0 w hw; have z1 := y1 w hw; have z2 := y2 w hw; have z3 := y3 w hw; have z4 := y4 w hw; have z5 := y5 w hw; go_simp⟩) hS ?_
  try simp only [Act.put, List.setIfInBounds_toArray, List.set_cons_zero, List.set_cons_succ, List.getElem_toArray, List.getElem_cons_zero, List.getElem_cons_succ]
  refine wpAnyH_take (i := 3) (v := .int .i64 s.h) rfl (by kernel_rfl) (by kernel_rfl) (by kernel_rfl) (fun _ _ _ h => h) (Or.inl ⟨by rfl, fun w hw => by have z0 := y0 w hw; have z1 := y1 w hw; have z2 := y2 w hw; have z3 := y3 w hw; have z4 := y4 w hw; have z5 := y5 w hw; go_simp⟩) hS ?_
  try simp only [Act.put, List.setIfInBounds_toArray, List.set_cons_zero, List.set_cons_succ, List.getElem_toArray, List.getElem_cons_zero, List.getElem_cons_succ]
  refine wpAnyH_take (i := 5) (v := .pointer (some ⟨w.heap.size, 2, none⟩)) rfl (by kernel_rfl) (by kernel_rfl) (by kernel_rfl) (fun _ _ _ h => h) (Or.inl ⟨by rfl, fun w hw => by have z0 := y0 w hw; have z1 := y1 w hw; have z2 := y2 w hw; have z3 := y3 w hw; have z4 := y4 w hw; have z5 := y5 w hw; go_simp⟩) hS ?_
  try simp only [Act.put, List.setIfInBounds_toArray, List.set_cons_zero, List.set_cons_succ, List.getElem_toArray, List.getElem_cons_zero, List.getElem_cons_succ]
  refine wpAnyH_take (i := 6) (v := .agg #[.int .u8 s.k.r, .int .u8 s.k.g, .int .u8 s.k.b, .int .u8 s.k.a]) rfl (by kernel_rfl) (by kernel_rfl) (by kernel_rfl) (fun _ _ _ h => h) (Or.inl ⟨by rfl, fun w hw => by have z0 := y0 w hw; have z1 := y1 w hw; have z2 := y2 w hw; have z3 := y3 w hw; have z4 := y4 w hw; have z5 := y5 w hw; go_simp⟩) hS ?_
  try simp only [Act.put, List.setIfInBounds_toArray, List.set_cons_zero, List.set_cons_succ, List.getElem_toArray, List.getElem_cons_zero, List.getElem_cons_succ]
  refine wpAnyH_ready (rs := [4, 7]) (by kernel_rfl) (by simp) ?_
  refine AllReadyH.cons rfl (fun K hK => ?_) ?_
  · skip
    go_simp
    refine hK.out _ _ (M_t0.out.alloc _) (fun hS => ?_)
    clear hK K hS
    try simp only [Act.put, List.setIfInBounds_toArray, List.set_cons_zero, List.set_cons_succ, List.getElem_toArray, List.getElem_cons_zero, List.getElem_cons_succ]
    obtain ⟨t1, ht⟩ : ∃ t, t = t0.alloc (.cells #[.int .i64 s.w, .int .i64 s.h] 3) := ⟨_, rfl⟩
    change wpAnyH _ _ _ _ _ _ _ _ (t0.alloc (.cells #[.int .i64 s.w, .int .i64 s.h] 3))
    rw [← ht]
    have B_t1 := Lib.hid (show Below W0.heap.size W0 t1 by rw [ht]; exact B_t0.out.alloc B_t0.out.size _)
    have M_t1 := Lib.hid (show Om (fun _ => False) W0 t1 by rw [ht]; exact M_t0.out.alloc _)
    have N_t1 := Lib.hid (show Below t0.heap.size t0 t1 by rw [ht]; exact new_below _ _)
    have RB_t1 := Lib.hid (show RB w (scB s) [s.w, s.h] (.slice (some ⟨t0.heap.size, 0, none⟩) 2 2) t1 by rw [ht]; exact rb_new (ys := [s.w, s.h]) (HB.out.trans (B_t0.out.mono (by omega))) ((B_t0.out.block _ gl).trans HG.out) rfl (by simp))
    have hS := M_t1.out
    clear ht
    refine wpAnyH_ready (rs := [7]) (by kernel_rfl) (by simp) ?_
    refine AllReadyH.cons rfl (fun K hK => ?_) AllReadyH.nil
    go_simp
    with_reducible refine (parts15_any s.k HOk.out.k t1).mono ?_
    rintro e t2 ⟨v_t2, rfl, ho, hb⟩
    have B_t2 := Lib.hid (bstep B_t1.out B_t1.out.size hb)
    have M_t2 := Lib.hid (M_t1.out.bel (hb.mono M_t1.out.1))
    have N_t2 := Lib.hid hb
    obtain ⟨A_t2, c_t2, rfl, -, -, hes⟩ := ho.es
    have E_t2 := Lib.hid hes
    clear ho hes
    have RB_t2 := Lib.hid (RB_t1.out.keep N_t2.out)
    clear hb
    refine hK.out _ _ M_t2.out (fun hS => ?_)
    clear hK K
    try simp only [Act.put, List.setIfInBounds_toArray, List.set_cons_zero, List.set_cons_succ, List.getElem_toArray, List.getElem_cons_zero, List.getElem_cons_succ]
    refine wpAnyH_ready (rs := [8]) (by kernel_rfl) (by simp) ?_
    refine AllReadyH.cons rfl (fun K hK => ?_) AllReadyH.nil
    rw [if_pos (by rfl)]
    refine opw_rb RN RB_t2.out (.tmp 15) (.tmp 18) c_t2 4 6 rfl rfl rfl rfl E_t2.out (acc' := [s.w, s.h] ++ nC s.k) rfl rfl (by decide) ?_
    intro A1 x1 w1 hR hg
    have HR1 := Lib.hid hR
    have hg2 := ownE_ge RB_t2.out.o
    have M7 := Lib.hid (M_t2.out.grown hg (fun r e => .inr (by have := hg2 r e; omega)))
    clear hR hg hg2
    refine hK.out _ _ M7.out (fun hS => ?_)
    clear hK K
    try simp only [Act.put, List.setIfInBounds_toArray, List.set_cons_zero, List.set_cons_succ, List.getElem_toArray, List.getElem_cons_zero, List.getElem_cons_succ]
    refine wpAnyH_take (i := 9) (v := .slice A1 6 x1) rfl (by kernel_rfl) (by kernel_rfl) (by kernel_rfl) (fun _ _ _ h => h) (Or.inl ⟨by rfl, fun w hw => by go_simp⟩) hS ?_
    try simp only [Act.put, List.setIfInBounds_toArray, List.set_cons_zero, List.set_cons_succ, List.getElem_toArray, List.getElem_cons_zero, List.getElem_cons_succ]
    refine wpAnyH_done (by kernel_rfl) ?_ _
    clear hS M7 y0 y1 y2 y3 y4 y5
    obtain ⟨c0, c1, c2, c3, c4, c5, c6, c7, c8, c9⟩ := scB_cell HR1.out.g
    have gl := HR1.out.lt
    go_wp2_with (at_builtin; refine wpl_rb (ys := [(s.vs.length : Int)]) (acc' := YV 0) rfl RN (HR1.out.alloc (.cells #[.int .i64 s.vs.length] 3)) _ _ 1 1 _ rfl rfl rfl rfl (es_ints _ [(s.vs.length : Int)] #[.int .i64 s.vs.length] rfl (by simp)) HV.out.zero.symm rfl HV.out.len ?_; intro A2 x2 w2 hR2)
    have HR2 := Lib.hid hR2
    clear hR2 HR1
    clear c0 c1 c2 c3 c4 c5 c6 c7 c8 c9 gl
    go_loopw [3, 4] (fun v i wr => ∃ (j : Nat) (A' : Option Addr) (c' : Nat), j ≤ s.vs.length ∧ i = .int .i64 j ∧ v = .slice A' (YV j).length c' ∧ RB w (scB s) (YV j) (.slice A' (YV j).length c') wr) (fun _ i _ => s.vs.length - (intOf i).toNat)
    case atStart => exact ⟨0, _, _, Nat.zero_le _, rfl, rfl, HR2.out⟩
    case round =>
      obtain ⟨j, A1, x1, hj, rfl, rfl, hR⟩ := hrel
      have HR := Lib.hid hR
      obtain ⟨c0, c1, c2, c3, c4, c5, c6, c7, c8, c9⟩ := scB_cell hR.g
      have gl := hR.lt
      clear hR
      by_cases hlt : j < s.vs.length
      · have hfew := HF.out.vs
        obtain ⟨u, hu⟩ := get_lt hlt
        obtain ⟨b, off, hA, hbB, hat⟩ := HA.out.v.at hu
        obtain ⟨d0, d1, d2, d3, d4, d5, d6, d7⟩ := atV (show AtE EV wr b (off + j * 8) u from hat.below HR.out.b hbB)
        have hbw : b < wr.heap.size := by omega
        have hy := Lib.hid (HV.out.step j u hu)
        have HCl := Lib.hid (vert15_any u wr)
        rw [hA] at c6
        replace hu := Lib.hid hu
        replace hA := Lib.hid hA
        clear hat
        go_wp2_with fail
        with_reducible refine (HCl.out).mono ?_
        rintro e w3 ⟨v3, rfl, ho, hb⟩
        obtain ⟨A3, x3, rfl, -, -, hes⟩ := ho.es
        have HE3 := Lib.hid hes
        have HR3 := Lib.hid (HR.out.keep hb)
        clear ho hb hes
        go_wp2_with (at_builtin; refine wpl_rb (ys := nV u) (acc' := YV (j + 1)) rfl RN HR3.out _ _ x3 (nV u).length _ rfl rfl rfl rfl HE3.out hy.out.1.symm rfl hy.out.2 ?_; intro A2 x2 w4 hR4)
        go_roundw
        case rel => exact ⟨j + 1, A2, x2, by omega, by go_num, rfl, hR4⟩
        case measure => simp [intOf]; omega
      · obtain rfl : j = s.vs.length := by omega
        go_upto_region 7 with fail
        have HR3 := HR
        clear hj hlt HR c0 c1 c2 c3 c4 c5 c6 c7 c8 c9 gl
        obtain ⟨c0, c1, c2, c3, c4, c5, c6, c7, c8, c9⟩ := scB_cell HR3.out.g
        have gl := HR3.out.lt
        go_wp2_with (at_builtin; refine wpl_rb (ys := [(s.ts.length : Int)]) (acc' := YT 0) rfl RN (HR3.out.alloc (.cells #[.int .i64 s.ts.length] 3)) _ _ 1 1 _ rfl rfl rfl rfl (es_ints _ [(s.ts.length : Int)] #[.int .i64 s.ts.length] rfl (by simp)) HT.out.zero.symm rfl HT.out.len ?_; intro A2 x2 w2 hR2)
        have HR4 := Lib.hid hR2
        clear hR2 HR3
        clear c0 c1 c2 c3 c4 c5 c6 c7 c8 c9 gl
        go_loopw [3, 5] (fun v i wr => ∃ (j : Nat) (A' : Option Addr) (c' : Nat), j ≤ s.ts.length ∧ i = .int .i64 j ∧ v = .slice A' (YT j).length c' ∧ RB w (scB s) (YT j) (.slice A' (YT j).length c') wr) (fun _ i _ => s.ts.length - (intOf i).toNat)
        case atStart => exact ⟨0, _, _, Nat.zero_le _, rfl, rfl, HR4.out⟩
        case round =>
          obtain ⟨j, A1, x1, hj, rfl, rfl, hR⟩ := hrel
          have HR := Lib.hid hR
          obtain ⟨c0, c1, c2, c3, c4, c5, c6, c7, c8, c9⟩ := scB_cell hR.g
          have gl := hR.lt
          clear hR
          by_cases hlt : j < s.ts.length
          · have hfew := HF.out.ts
            obtain ⟨u, hu⟩ := get_lt hlt
            obtain ⟨b, off, hA, hbB, hat⟩ := HA.out.t.at hu
            obtain ⟨d0, d1, d2⟩ := atT (show AtE ET wr b (off + j * 3) u from hat.below HR.out.b hbB)
            have hbw : b < wr.heap.size := by omega
            obtain ⟨Z, hZ, hze⟩ := stp_tex HT.out hu
            replace hZ := Lib.hid hZ
            replace hze := Lib.hid hze
            have hz0 := Lib.hid (show YT j ++ [u.x.w, u.x.h, (u.x.px.length : Int)] = Z 0 by rw [hZ.out.zero]; simp)
            rw [hA] at c7
            have hjn : (j : Int) < s.ts.length := by omega
            have hv2b : ∀ x, (Value.slice A1 (YT j).length x1).ownBlock = some x → w.heap.size + 1 ≤ x := fun x e => ownE_ge HR.out.o x e
            have NM1 := Lib.hid (show ¬ (Value.slice A1 (YT j).length x1).ownBlock = some w.heap.size from fun e => by have := hv2b _ e; omega)
            have NM2 := Lib.hid (show ¬ (Value.slice A1 (YT j).length x1).ownBlock = some b from fun e => by have := hv2b _ e; omega)
            replace hu := Lib.hid hu
            replace hA := Lib.hid hA
            replace hat := Lib.hid hat
            clear hv2b
            go_upto_region 11 with fail
            have y0 : ∀ w', Om (fun b => (Value.slice A1 (YT j).length x1).ownBlock = some b) wr w' → w'.cell? ⟨w.heap.size, 7, none⟩ = some (.slice (some ⟨b, off, none⟩) s.ts.length s.tc) := fun w' h => h.cell (by assumption) (NM1.out)
            have y1 : ∀ w', Om (fun b => (Value.slice A1 (YT j).length x1).ownBlock = some b) wr w' → w'.cell? ⟨b, off + j * 3, none⟩ = some (.int .i64 u.x.w) := fun w' h => h.cell (by assumption) (NM2.out)
            have y2 : ∀ w', Om (fun b => (Value.slice A1 (YT j).length x1).ownBlock = some b) wr w' → w'.cell? ⟨b, off + j * 3 + 1, none⟩ = some (.int .i64 u.x.h) := fun w' h => h.cell (by assumption) (NM2.out)
            have y3 : ∀ w', Om (fun b => (Value.slice A1 (YT j).length x1).ownBlock = some b) wr w' → w'.cell? ⟨b, off + j * 3 + 2, none⟩ = some (.slice u.A u.x.px.length u.c) := fun w' h => h.cell (by assumption) (NM2.out)
            refine wp_region_held_drew (S := fun w' => Om (fun b => (Value.slice A1 (YT j).length x1).ownBlock = some b) wr w') (by kernel_rfl) (om_drew _ _) (fun hS => ?_)
            have B_t0 := Lib.hid (show Below wr.heap.size wr wr.drew from (Below.refl _ _).drew)
            have M_t0 := Lib.hid (om_drew (fun b => (Value.slice A1 (YT j).length x1).ownBlock = some b) wr)
            have D_t0 := Lib.hid (show Below wr.heap.size wr wr.drew from (Below.refl _ _).drew)
            generalize wr.drew = t0 at *
            refine wpAnyH_take (i := 0) (v := .slice A1 (YT j).length x1) rfl (by kernel_rfl) (by kernel_rfl) (by kernel_rfl) (fun _ _ _ h => h) (Or.inl ⟨by rfl, fun w hw => by have z0 := y0 w hw; have z1 := y1 w hw; have z2 := y2 w hw; have z3 := y3 w hw; go_simp⟩) hS ?_
            try simp only [Act.put, List.setIfInBounds_toArray, List.set_cons_zero, List.set_cons_succ, List.getElem_toArray, List.getElem_cons_zero]
            refine wpAnyH_take (i := 1) (v := .pointer (some ⟨w.heap.size, 7, none⟩)) rfl (by kernel_rfl) (by kernel_rfl) (by kernel_rfl) (fun _ _ _ h => h) (Or.inl ⟨by rfl, fun w hw => by have z0 := y0 w hw; have z1 := y1 w hw; have z2 := y2 w hw; have z3 := y3 w hw; go_simp⟩) hS ?_
            try simp only [Act.put, List.setIfInBounds_toArray, List.set_cons_zero, List.set_cons_succ, List.getElem_toArray, List.getElem_cons_zero, List.getElem_cons_succ]
            refine wpAnyH_take (i := 2) (v := .slice (some ⟨b, off, none⟩) s.ts.length s.tc) rfl (by kernel_rfl) (by kernel_rfl) (by kernel_rfl) (fun _ _ _ h => h) (Or.inl ⟨by rfl, fun w hw => by have z0 := y0 w hw; have z1 := y1 w hw; have z2 := y2 w hw; have z3 := y3 w hw; go_simp⟩) hS ?_
            try simp only [Act.put, List.setIfInBounds_toArray, List.set_cons_zero, List.set_cons_succ, List.getElem_toArray, List.getElem_cons_zero, List.getElem_cons_succ]
            refine wpAnyH_take (i := 3) (v := .int .i64 j) rfl (by kernel_rfl) (by kernel_rfl) (by kernel_rfl) (fun _ _ _ h => h) (Or.inl ⟨by rfl, fun w hw => by have z0 := y0 w hw; have z1 := y1 w hw; have z2 := y2 w hw; have z3 := y3 w hw; go_simp⟩) hS ?_
            try simp only [Act.put, List.setIfInBounds_toArray, List.set_cons_zero, List.set_cons_succ, List.getElem_toArray, List.getElem_cons_zero, List.getElem_cons_succ]
            refine wpAnyH_take (i := 4) (v := .pointer (some ⟨b, off + j * 3, none⟩)) rfl (by kernel_rfl) (by kernel_rfl) (by kernel_rfl) (fun _ _ _ h => h) (Or.inl ⟨by rfl, fun w hw => by have z0 := y0 w hw; have z1 := y1 w hw; have z2 := y2 w hw; have z3 := y3 w hw; go_simp⟩) hS ?_
            try simp only [Act.put, List.setIfInBounds_toArray, List.set_cons_zero, List.set_cons_succ, List.getElem_toArray, List.getElem_cons_zero, List.getElem_cons_succ]
            refine wpAnyH_take (i := 5) (v := .pointer (some ⟨b, off + j * 3, none⟩)) rfl (by kernel_rfl) (by kernel_rfl) (by kernel_rfl) (fun _ _ _ h => h) (Or.inl ⟨by rfl, fun w hw => by have z0 := y0 w hw; have z1 := y1 w hw; have z2 := y2 w hw; have z3 := y3 w hw; go_simp⟩) hS ?_
            try simp only [Act.put, List.setIfInBounds_toArray, List.set_cons_zero, List.set_cons_succ, List.getElem_toArray, List.getElem_cons_zero, List.getElem_cons_succ]
            refine wpAnyH_take (i := 6) (v := .int .i64 u.x.w) rfl (by kernel_rfl) (by kernel_rfl) (by kernel_rfl) (fun _ _ _ h => h) (Or.inl ⟨by rfl, fun w hw => by have z0 := y0 w hw; have z1 := y1 w hw; have z2 := y2 w hw; have z3 := y3 w hw; go_simp⟩) hS ?_
            try simp only [Act.put, List.setIfInBounds_toArray, List.set_cons_zero, List.set_cons_succ, List.getElem_toArray, List.getElem_cons_zero, List.getElem_cons_succ]
            refine wpAnyH_take (i := 7) (v := .pointer (some ⟨w.heap.size, 7, none⟩)) rfl (by kernel_rfl) (by kernel_rfl) (by kernel_rfl) (fun _ _ _ h => h) (Or.inl ⟨by rfl, fun w hw => by have z0 := y0 w hw; have z1 := y1 w hw; have z2 := y2 w hw; have z3 := y3 w hw; go_simp⟩) hS ?_
            try simp only [Act.put, List.setIfInBounds_toArray, List.set_cons_zero, List.set_cons_succ, List.getElem_toArray, List.getElem_cons_zero, List.getElem_cons_succ]
            refine wpAnyH_take (i := 8) (v := .slice (some ⟨b, off, none⟩) s.ts.length s.tc) rfl (by kernel_rfl) (by kernel_rfl) (by kernel_rfl) (fun _ _ _ h => h) (Or.inl ⟨by rfl, fun w hw => by have z0 := y0 w hw; have z1 := y1 w hw; have z2 := y2 w hw; have z3 := y3 w hw; go_simp⟩) hS ?_
            try simp only [Act.put, List.setIfInBounds_toArray, List.set_cons_zero, List.set_cons_succ, List.getElem_toArray, List.getElem_cons_zero, List.getElem_cons_succ]
            refine wpAnyH_take (i := 9) (v := .int .i64 j) rfl (by kernel_rfl) (by kernel_rfl) (by kernel_rfl) (fun _ _ _ h => h) (Or.inl ⟨by rfl, fun w hw => by have z0 := y0 w hw; have z1 := y1 w hw; have z2 := y2 w hw; have z3 := y3 w hw; go_simp⟩) hS ?_
            try simp only [Act.put, List.setIfInBounds_toArray, List.set_cons_zero, List.set_cons_succ, List.getElem_toArray, List.getElem_cons_zero, List.getElem_cons_succ]
            refine wpAnyH_take (i := 10) (v := .pointer (some ⟨b, off + j * 3, none⟩)) rfl (by kernel_rfl) (by kernel_rfl) (by kernel_rfl) (fun _ _ _ h => h) (Or.inl ⟨by rfl, fun w hw => by have z0 := y0 w hw; have z1 := y1 w hw; have z2 := y2 w hw; have z3 := y3 w hw; go_simp⟩) hS ?_
            try simp only [Act.put, List.setIfInBounds_toArray, List.set_cons_zero, List.set_cons_succ, List.getElem_toArray, List.getElem_cons_zero, List.getElem_cons_succ]
            refine wpAnyH_take (i := 11) (v := .pointer (some ⟨b, off + j * 3 + 1, none⟩)) rfl (by kernel_rfl) (by kernel_rfl) (by kernel_rfl) (fun _ _ _ h => h) (Or.inl ⟨by rfl, fun w hw => by have z0 := y0 w hw; have z1 := y1 w hw; have z2 := y2 w hw; have z3 := y3 w hw; go_simp⟩) hS ?_
            try simp only [Act.put, List.setIfInBounds_toArray, List.set_cons_zero, List.set_cons_succ, List.getElem_toArray, List.getElem_cons_zero, List.getElem_cons_succ]
            refine wpAnyH_take (i := 12) (v := .int .i64 u.x.h) rfl (by kernel_rfl) (by kernel_rfl) (by kernel_rfl) (fun _ _ _ h => h) (Or.inl ⟨by rfl, fun w hw => by have z0 := y0 w hw; have z1 := y1 w hw; have z2 := y2 w hw; have z3 := y3 w hw; go_simp⟩) hS ?_
            try simp only [Act.put, List.setIfInBounds_toArray, List.set_cons_zero, List.set_cons_succ, List.getElem_toArray, List.getElem_cons_zero, List.getElem_cons_succ]
            refine wpAnyH_take (i := 13) (v := .pointer (some ⟨w.heap.size, 7, none⟩)) rfl (by kernel_rfl) (by kernel_rfl) (by kernel_rfl) (fun _ _ _ h => h) (Or.inl ⟨by rfl, fun w hw => by have z0 := y0 w hw; have z1 := y1 w hw; have z2 := y2 w hw; have z3 := y3 w hw; go_simp⟩) hS ?_
            try simp only [Act.put, List.setIfInBounds_toArray, List.set_cons_zero, List.set_cons_succ, List.getElem_toArray, List.getElem_cons_zero, List.getElem_cons_succ]
            refine wpAnyH_take (i := 14) (v := .slice (some ⟨b, off, none⟩) s.ts.length s.tc) rfl (by kernel_rfl) (by kernel_rfl) (by kernel_rfl) (fun _ _ _ h => h) (Or.inl ⟨by rfl, fun w hw => by have z0 := y0 w hw; have z1 := y1 w hw; have z2 := y2 w hw; have z3 := y3 w hw; go_simp⟩) hS ?_
            try simp only [Act.put, List.setIfInBounds_toArray, List.set_cons_zero, List.set_cons_succ, List.getElem_toArray, List.getElem_cons_zero, List.getElem_cons_succ]
            refine wpAnyH_take (i := 15) (v := .int .i64 j) rfl (by kernel_rfl) (by kernel_rfl) (by kernel_rfl) (fun _ _ _ h => h) (Or.inl ⟨by rfl, fun w hw => by have z0 := y0 w hw; have z1 := y1 w hw; have z2 := y2 w hw; have z3 := y3 w hw; go_simp⟩) hS ?_
            try simp only [Act.put, List.setIfInBounds_toArray, List.set_cons_zero, List.set_cons_succ, List.getElem_toArray, List.getElem_cons_zero, List.getElem_cons_succ]
            refine wpAnyH_take (i := 16) (v := .pointer (some ⟨b, off + j * 3, none⟩)) rfl (by kernel_rfl) (by kernel_rfl) (by kernel_rfl) (fun _ _ _ h => h) (Or.inl ⟨by rfl, fun w hw => by have z0 := y0 w hw; have z1 := y1 w hw; have z2 := y2 w hw; have z3 := y3 w hw; go_simp⟩) hS ?_
            try simp only [Act.put, List.setIfInBounds_toArray, List.set_cons_zero, List.set_cons_succ, List.getElem_toArray, List.getElem_cons_zero, List.getElem_cons_succ]
            refine wpAnyH_take (i := 17) (v := .pointer (some ⟨b, off + j * 3 + 2, none⟩)) rfl (by kernel_rfl) (by kernel_rfl) (by kernel_rfl) (fun _ _ _ h => h) (Or.inl ⟨by rfl, fun w hw => by have z0 := y0 w hw; have z1 := y1 w hw; have z2 := y2 w hw; have z3 := y3 w hw; go_simp⟩) hS ?_
            try simp only [Act.put, List.setIfInBounds_toArray, List.set_cons_zero, List.set_cons_succ, List.getElem_toArray, List.getElem_cons_zero, List.getElem_cons_succ]
            refine wpAnyH_take (i := 18) (v := .slice u.A u.x.px.length u.c) rfl (by kernel_rfl) (by kernel_rfl) (by kernel_rfl) (fun _ _ _ h => h) (Or.inl ⟨by rfl, fun w hw => by have z0 := y0 w hw; have z1 := y1 w hw; have z2 := y2 w hw; have z3 := y3 w hw; go_simp⟩) hS ?_
            try simp only [Act.put, List.setIfInBounds_toArray, List.set_cons_zero, List.set_cons_succ, List.getElem_toArray, List.getElem_cons_zero, List.getElem_cons_succ]
            refine wpAnyH_take (i := 19) (v := .int .i64 u.x.px.length) rfl (by kernel_rfl) (by kernel_rfl) (by kernel_rfl) (fun _ _ _ h => h) (Or.inl ⟨by rfl, fun w hw => by have z0 := y0 w hw; have z1 := y1 w hw; have z2 := y2 w hw; have z3 := y3 w hw; go_simp⟩) hS ?_
            try simp only [Act.put, List.setIfInBounds_toArray, List.set_cons_zero, List.set_cons_succ, List.getElem_toArray, List.getElem_cons_zero, List.getElem_cons_succ]
            refine wpAnyH_ready (rs := [20]) (by kernel_rfl) (by simp) ?_
            refine AllReadyH.cons rfl (fun K hK => ?_) AllReadyH.nil
            go_simp
            refine hK.out _ _ (M_t0.out.alloc _) (fun hS => ?_)
            clear hK K hS
            try simp only [Act.put, List.setIfInBounds_toArray, List.set_cons_zero, List.set_cons_succ, List.getElem_toArray, List.getElem_cons_zero, List.getElem_cons_succ]
            obtain ⟨t1, ht⟩ : ∃ t, t = t0.alloc (.cells #[.int .i64 u.x.w, .int .i64 u.x.h, .int .i64 u.x.px.length] 3) := ⟨_, rfl⟩
            change wpAnyH _ _ _ _ _ _ _ _ (t0.alloc (.cells #[.int .i64 u.x.w, .int .i64 u.x.h, .int .i64 u.x.px.length] 3))
            rw [← ht]
            have B_t1 := Lib.hid (show Below wr.heap.size wr t1 by rw [ht]; exact B_t0.out.alloc B_t0.out.size _)
            have M_t1 := Lib.hid (show Om (fun b => (Value.slice A1 (YT j).length x1).ownBlock = some b) wr t1 by rw [ht]; exact M_t0.out.alloc _)
            have N_t1 := Lib.hid (show Below t0.heap.size t0 t1 by rw [ht]; exact new_below _ _)
            have E_row := Lib.hid (show Es EN t1 t1.heap.size (some ⟨t0.heap.size, 0, none⟩) [u.x.w, u.x.h, (u.x.px.length : Int)] by rw [ht]; exact es_ints _ _ _ rfl (by simp))
            have hS := M_t1.out
            clear ht
            refine wpAnyH_ready (rs := [21]) (by kernel_rfl) (by simp) ?_
            refine AllReadyH.cons rfl (fun K hK => ?_) AllReadyH.nil
            rw [if_pos (by rfl)]
            refine opw_rb RN (HR.out.keep (B_t1.out)) (.tmp 54) (.tmp 74) 3 3 _ rfl rfl rfl rfl E_row.out (acc' := Z 0) hz0.out rfl hZ.out.len ?_
            intro A2 x2 w4 hR4 hg
            have HR4 := Lib.hid hR4
            have hg2 := ownE_ge HR.out.o
            have M7 := Lib.hid (M_t1.out.grown hg (fun r e => .inl e))
            clear hR4 hg hg2
            refine hK.out _ _ M7.out (fun hS => ?_)
            clear hK K
            try simp only [Act.put, List.setIfInBounds_toArray, List.set_cons_zero, List.set_cons_succ, List.getElem_toArray, List.getElem_cons_zero, List.getElem_cons_succ]
            refine wpAnyH_take (i := 22) (v := .slice A2 (Z 0).length x2) rfl (by kernel_rfl) (by kernel_rfl) (by kernel_rfl) (fun _ _ _ h => h) (Or.inl ⟨by rfl, fun w hw => by go_simp⟩) hS ?_
            try simp only [Act.put, List.setIfInBounds_toArray, List.set_cons_zero, List.set_cons_succ, List.getElem_toArray, List.getElem_cons_zero, List.getElem_cons_succ]
            refine wpAnyH_done (by kernel_rfl) ?_ _
            clear hS M7 y0 y1 y2 y3 E_row
            go_wp2_with fail
            go_loopw [3, 6] (fun v i wr => ∃ (k : Nat) (A' : Option Addr) (c' : Nat), k ≤ u.x.px.length ∧ i = .int .i64 k ∧ v = .slice A' (Z k).length c' ∧ RB w (scB s) (Z k) (.slice A' (Z k).length c') wr) (fun _ i _ => u.x.px.length - (intOf i).toNat)
            case atStart => exact ⟨0, _, _, Nat.zero_le _, rfl, rfl, HR4.out⟩
            case round =>
              obtain ⟨k, A2, x2, hk, rfl, rfl, hR⟩ := hrel
              have HR2 := Lib.hid hR
              obtain ⟨c0, c1, c2, c3, c4, c5, c6, c7, c8, c9⟩ := scB_cell hR.g
              rw [hA.out] at c7
              have gl := hR.lt
              obtain ⟨d0, d1, d2⟩ := atT (show AtE ET wr b (off + j * 3) u from hat.out.below hR.b hbB)
              have hbw : b < wr.heap.size := by omega
              clear hR HR4
              by_cases hlk : k < u.x.px.length
              · have hfew2 := HF.out.tx u (List.mem_of_getElem? hu.out)
                obtain ⟨p, hp⟩ := get_lt hlk
                obtain ⟨b2, off2, hA2, hbB2, hat2⟩ := (HA.out.tx u (List.mem_of_getElem? hu.out)).at hp
                obtain ⟨e0, e1, e2, e3⟩ := atC (show AtE EC wr b2 (off2 + k * 4) p from hat2.below HR2.out.b hbB2)
                have hbw2 : b2 < wr.heap.size := by omega
                have hy := Lib.hid (hZ.out.step k p hp)
                have HCl := Lib.hid (parts15_any p ((HOk.out.ts u (List.mem_of_getElem? hu.out)).2.2.1 p (List.mem_of_getElem? hp)) wr)
                rw [hA2] at d2
                replace hp := Lib.hid hp
                replace hA2 := Lib.hid hA2
                clear hat2
                go_wp2_with fail
                with_reducible refine (HCl.out).mono ?_
                rintro e w3 ⟨v3, rfl, ho, hb⟩
                obtain ⟨A3, x3, rfl, -, -, hes⟩ := ho.es
                have HE3 := Lib.hid hes
                have HR3 := Lib.hid (HR2.out.keep hb)
                clear ho hb hes
                go_wp2_with (at_builtin; refine wpl_rb (ys := nC p) (acc' := Z (k + 1)) rfl RN HR3.out _ _ x3 (nC p).length _ rfl rfl rfl rfl HE3.out hy.out.1.symm rfl hy.out.2 ?_; intro A4 x4 w4 hR4)
                go_roundw
                case rel => exact ⟨k + 1, A4, x4, by omega, by go_num, rfl, hR4⟩
                case measure => simp [intOf]; omega
              · obtain rfl : k = u.x.px.length := by omega
                go_wp2_with fail
                go_roundw
                case rel => exact ⟨j + 1, A2, x2, by omega, by go_num, by rw [hze.out], by rw [← hze.out]; exact HR2.out⟩
                case measure => simp [intOf]; omega
          · obtain rfl : j = s.ts.length := by omega
            go_upto_region 16 with fail
            have HR5 := HR
            clear hj hlt HR c0 c1 c2 c3 c4 c5 c6 c7 c8 c9 gl
            obtain ⟨c0, c1, c2, c3, c4, c5, c6, c7, c8, c9⟩ := scB_cell HR5.out.g
            have gl := HR5.out.lt
            go_wp2_with (at_builtin; refine wpl_rb (ys := [(s.ps.length : Int)]) (acc' := YP 0) rfl RN (HR5.out.alloc (.cells #[.int .i64 s.ps.length] 3)) _ _ 1 1 _ rfl rfl rfl rfl (es_ints _ [(s.ps.length : Int)] #[.int .i64 s.ps.length] rfl (by simp)) HP.out.zero.symm rfl HP.out.len ?_; intro A2 x2 w2 hR2)
            have HR6 := Lib.hid hR2
            clear hR2 HR5
            clear c0 c1 c2 c3 c4 c5 c6 c7 c8 c9 gl
            go_loopw [3, 7] (fun v i wr => ∃ (j : Nat) (A' : Option Addr) (c' : Nat), j ≤ s.ps.length ∧ i = .int .i64 j ∧ v = .slice A' (YP j).length c' ∧ RB w (scB s) (YP j) (.slice A' (YP j).length c') wr) (fun _ i _ => s.ps.length - (intOf i).toNat)
            case atStart => exact ⟨0, _, _, Nat.zero_le _, rfl, rfl, HR6.out⟩
            case round =>
              obtain ⟨j, A1, x1, hj, rfl, rfl, hR⟩ := hrel
              have HR := Lib.hid hR
              obtain ⟨c0, c1, c2, c3, c4, c5, c6, c7, c8, c9⟩ := scB_cell hR.g
              have gl := hR.lt
              clear hR
              by_cases hlt : j < s.ps.length
              · have hfew := HF.out.ps
                obtain ⟨u, hu⟩ := get_lt hlt
                obtain ⟨b, off, hA, hbB, hat⟩ := HA.out.p.at hu
                have d0 : wr.cell? ⟨b, off + j, none⟩ = some (.slice u.A u.x.length u.c) := by simpa using atP (show AtE EP wr b (off + j * 1) u from hat.below HR.out.b hbB)
                have hbw : b < wr.heap.size := by omega
                obtain ⟨Z, hZ, hze⟩ := stp_prog HP.out hu
                replace hZ := Lib.hid hZ
                replace hze := Lib.hid hze
                rw [hA] at c8
                have hjn : (j : Int) < s.ps.length := by omega
                replace hu := Lib.hid hu
                replace hA := Lib.hid hA
                replace hat := Lib.hid hat
                go_wp2_with (at_builtin; refine wpl_rb (ys := [(u.x.length : Int)]) (acc' := Z 0) rfl RN (HR.out.alloc (.cells #[.int .i64 u.x.length] 3)) _ _ 1 1 _ rfl rfl rfl rfl (es_ints _ [(u.x.length : Int)] #[.int .i64 u.x.length] rfl (by simp)) hZ.out.zero.symm rfl hZ.out.len ?_; intro A2 x2 w2 hR2)
                have HR4 := Lib.hid hR2
                clear hR2 HR c0 c1 c2 c3 c4 c5 c6 c7 c8 c9 gl d0 hbw
                go_loopw [3, 8] (fun v i wr => ∃ (k : Nat) (A' : Option Addr) (c' : Nat), k ≤ u.x.length ∧ i = .int .i64 k ∧ v = .slice A' (Z k).length c' ∧ RB w (scB s) (Z k) (.slice A' (Z k).length c') wr) (fun _ i _ => u.x.length - (intOf i).toNat)
                case atStart => exact ⟨0, _, _, Nat.zero_le _, rfl, rfl, HR4.out⟩
                case round =>
                  obtain ⟨k, A2, x2, hk, rfl, rfl, hR⟩ := hrel
                  have HR2 := Lib.hid hR
                  obtain ⟨c0, c1, c2, c3, c4, c5, c6, c7, c8, c9⟩ := scB_cell hR.g
                  rw [hA.out] at c8
                  have gl := hR.lt
                  have d0 : wr.cell? ⟨b, off + j, none⟩ = some (.slice u.A u.x.length u.c) := by simpa using atP (show AtE EP wr b (off + j * 1) u from hat.out.below hR.b hbB)
                  have hbw : b < wr.heap.size := by omega
                  clear hR HR4
                  by_cases hlk : k < u.x.length
                  · have hfew2 := HF.out.px u (List.mem_of_getElem? hu.out)
                    obtain ⟨p, hp⟩ := get_lt hlk
                    obtain ⟨b2, off2, hA2, hbB2, hat2⟩ := (HA.out.px u (List.mem_of_getElem? hu.out)).at hp
                    obtain ⟨e0, e1, e2, e3, e4⟩ := C.atI (show AtE C.EI wr b2 (off2 + k * 5) p from hat2.below HR2.out.b hbB2)
                    have hbw2 : b2 < wr.heap.size := by omega
                    have hy := Lib.hid (hZ.out.step k p hp)
                    have hpo := (HOk.out.ps u (List.mem_of_getElem? hu.out)).1 p (List.mem_of_getElem? hp)
                    have g1 := w64u hpo.o
                    have g2 := w64u hpo.d
                    have g3 := w64u hpo.a
                    have g4 := w64u hpo.b
                    rw [hA2] at d0
                    replace hp := Lib.hid hp
                    replace hA2 := Lib.hid hA2
                    clear hat2 hpo
                    go_upto_region 25 with fail
                    have hS : (wr.alloc (.cells #[.int .u8 p.o, .int .u8 p.d, .int .u8 p.a, .int .u8 p.b, .int .i64 p.n] 76)).heap[wr.heap.size]? = some (.cells #[.int .u8 p.o, .int .u8 p.d, .int .u8 p.a, .int .u8 p.b, .int .i64 p.n] 76 (0, 0)) := heap_alloc_new _ _
                    have hB : Below wr.heap.size wr (wr.alloc (.cells #[.int .u8 p.o, .int .u8 p.d, .int .u8 p.a, .int .u8 p.b, .int .i64 p.n] 76)) := new_below _ _
                    obtain ⟨V, hT⟩ : ∃ T, (wr.alloc (.cells #[.int .u8 p.o, .int .u8 p.d, .int .u8 p.a, .int .u8 p.b, .int .i64 p.n] 76)) = T := ⟨_, rfl⟩
                    rw [hT] at hS hB
                    rw [hT]
                    clear hT
                    have q0 := Joins.cell_of_block hS 0
                    have q1 := Joins.cell_of_block hS 1
                    have q2 := Joins.cell_of_block hS 2
                    have q3 := Joins.cell_of_block hS 3
                    have q4 := Joins.cell_of_block hS 4
                    have hv : wr.heap.size < V.heap.size := (Array.getElem?_eq_some_iff.1 hS).1
                    have HR3 := Lib.hid ((HR2.out.keep hB).alloc (.cells #[.int .i64 p.o, .int .i64 p.d, .int .i64 p.a, .int .i64 p.b, .int .i64 p.n] 3))
                    have HE3 := Lib.hid (es_ints V (nI p) #[.int .i64 p.o, .int .i64 p.d, .int .i64 p.a, .int .i64 p.b, .int .i64 p.n] rfl (by simp [nI]))
                    clear hS hB c0 c1 c2 c3 c4 c5 c6 c7 c8 c9 gl d0 e0 e1 e2 e3 e4 hbw hbw2
                    go_wp2_with (at_builtin; refine wpl_rb (ys := nI p) (acc' := Z (k + 1)) rfl RN HR3.out _ _ 5 5 _ rfl rfl rfl rfl HE3.out hy.out.1.symm rfl hy.out.2 ?_; intro A4 x4 w4 hR4)
                    go_roundw
                    case rel => exact ⟨k + 1, A4, x4, by omega, by go_num, rfl, hR4⟩
                    case measure => simp [intOf]; omega
                  · obtain rfl : k = u.x.length := by omega
                    go_wp2_with fail
                    go_roundw
                    case rel => exact ⟨j + 1, A2, x2, by omega, by go_num, by rw [hze.out], by rw [← hze.out]; exact HR2.out⟩
                    case measure => simp [intOf]; omega
              · obtain rfl : j = s.ps.length := by omega
                go_upto_region 26 with fail
                have HR7 := HR
                clear hj hlt HR c0 c1 c2 c3 c4 c5 c6 c7 c8 c9 gl
                obtain ⟨c0, c1, c2, c3, c4, c5, c6, c7, c8, c9⟩ := scB_cell HR7.out.g
                have gl := HR7.out.lt
                go_wp2_with (at_builtin; refine wpl_rb (ys := [(s.ds.length : Int)]) (acc' := YD 0) rfl RN (HR7.out.alloc (.cells #[.int .i64 s.ds.length] 3)) _ _ 1 1 _ rfl rfl rfl rfl (es_ints _ [(s.ds.length : Int)] #[.int .i64 s.ds.length] rfl (by simp)) HD.out.zero.symm rfl HD.out.len ?_; intro A2 x2 w2 hR2)
                have HR8 := Lib.hid hR2
                clear hR2 HR7
                clear c0 c1 c2 c3 c4 c5 c6 c7 c8 c9 gl
                go_loopw [3, 10] (fun v i wr => ∃ (j : Nat) (A' : Option Addr) (c' : Nat), j ≤ s.ds.length ∧ i = .int .i64 j ∧ v = .slice A' (YD j).length c' ∧ RB w (scB s) (YD j) (.slice A' (YD j).length c') wr) (fun _ i _ => s.ds.length - (intOf i).toNat)
                case atStart => exact ⟨0, _, _, Nat.zero_le _, rfl, rfl, HR8.out⟩
                case round =>
                  obtain ⟨j, A1, x1, hj, rfl, rfl, hR⟩ := hrel
                  have HR := Lib.hid hR
                  obtain ⟨c0, c1, c2, c3, c4, c5, c6, c7, c8, c9⟩ := scB_cell hR.g
                  have gl := hR.lt
                  clear hR
                  by_cases hlt : j < s.ds.length
                  · have hfew := HF.out.ds
                    obtain ⟨u, hu⟩ := get_lt hlt
                    obtain ⟨b, off, hA, hbB, hat⟩ := HA.out.d.at hu
                    obtain ⟨d0, d1, d2, d3, d4⟩ := atD (show AtE ED wr b (off + j * 5) u from hat.below HR.out.b hbB)
                    have hbw : b < wr.heap.size := by omega
                    have hy := Lib.hid (HD.out.step j u hu)
                    have HCl := Lib.hid (draw15_any u (HF.out.dx u (List.mem_of_getElem? hu)) wr (((HA.out.dx u (List.mem_of_getElem? hu)).below HR.out.b).more HR.out.b.size))
                    rw [hA] at c9
                    replace hu := Lib.hid hu
                    replace hA := Lib.hid hA
                    clear hat
                    go_wp2_with fail
                    with_reducible refine (HCl.out).mono ?_
                    rintro e w3 ⟨v3, rfl, ho, hb⟩
                    obtain ⟨A3, x3, rfl, -, -, hes⟩ := ho.es
                    have HE3 := Lib.hid hes
                    have HR3 := Lib.hid (HR.out.keep hb)
                    clear ho hb hes
                    go_wp2_with (at_builtin; refine wpl_rb (ys := nD u.x) (acc' := YD (j + 1)) rfl RN HR3.out _ _ x3 (nD u.x).length _ rfl rfl rfl rfl HE3.out hy.out.1.symm rfl hy.out.2 ?_; intro A2 x2 w4 hR4)
                    go_roundw
                    case rel => exact ⟨j + 1, A2, x2, by omega, by go_num, rfl, hR4⟩
                    case measure => simp [intOf]; omega
                  · obtain rfl : j = s.ds.length := by omega
                    go_upto_region 31 with fail
                    have HR9 := HR
                    clear hj hlt HR c0 c1 c2 c3 c4 c5 c6 c7 c8 c9 gl
                    obtain ⟨-, -, hes⟩ := ownE_es HR9.out.o
                    have HPt := Lib.hid (P.rput_any A1 x1 (YD s.ds.length) wr.heap.size wr (sl_of_es hes) (Nat.le_refl _) HIn.out HN.out)
                    clear hes
                    go_wp2_with fail
                    with_reducible refine (HPt.out).mono ?_
                    rintro e w5 ⟨v5, rfl, ho, hb⟩
                    go_wp2_with fail
                    go_ret
                    exact ⟨v5, rfl, ho.less HR9.out.b.size, bstep HR9.out.b HR9.out.b.size hb⟩
  refine AllReadyH.cons rfl (fun K hK => ?_) ?_
  · skip
    go_simp
    with_reducible refine (parts15_any s.k HOk.out.k t0).mono ?_
    rintro e t3 ⟨v_t3, rfl, ho, hb⟩
    have B_t3 := Lib.hid (bstep B_t0.out B_t0.out.size hb)
    have M_t3 := Lib.hid (M_t0.out.bel (hb.mono M_t0.out.1))
    have N_t3 := Lib.hid hb
    obtain ⟨A_t3, c_t3, rfl, -, -, hes⟩ := ho.es
    have E_t3 := Lib.hid hes
    clear ho hes
    clear hb
    refine hK.out _ _ M_t3.out (fun hS => ?_)
    clear hK K
    try simp only [Act.put, List.setIfInBounds_toArray, List.set_cons_zero, List.set_cons_succ, List.getElem_toArray, List.getElem_cons_zero, List.getElem_cons_succ]
    refine wpAnyH_ready (rs := [4]) (by kernel_rfl) (by simp) ?_
    refine AllReadyH.cons rfl (fun K hK => ?_) AllReadyH.nil
    go_simp
    refine hK.out _ _ (M_t3.out.alloc _) (fun hS => ?_)
    clear hK K hS
    try simp only [Act.put, List.setIfInBounds_toArray, List.set_cons_zero, List.set_cons_succ, List.getElem_toArray, List.getElem_cons_zero, List.getElem_cons_succ]
    obtain ⟨t4, ht⟩ : ∃ t, t = t3.alloc (.cells #[.int .i64 s.w, .int .i64 s.h] 3) := ⟨_, rfl⟩
    change wpAnyH _ _ _ _ _ _ _ _ (t3.alloc (.cells #[.int .i64 s.w, .int .i64 s.h] 3))
    rw [← ht]
    have B_t4 := Lib.hid (show Below W0.heap.size W0 t4 by rw [ht]; exact B_t3.out.alloc B_t3.out.size _)
    have M_t4 := Lib.hid (show Om (fun _ => False) W0 t4 by rw [ht]; exact M_t3.out.alloc _)
    have N_t4 := Lib.hid (show Below t3.heap.size t3 t4 by rw [ht]; exact new_below _ _)
    have RB_t4 := Lib.hid (show RB w (scB s) [s.w, s.h] (.slice (some ⟨t3.heap.size, 0, none⟩) 2 2) t4 by rw [ht]; exact rb_new (ys := [s.w, s.h]) (HB.out.trans (B_t3.out.mono (by omega))) ((B_t3.out.block _ gl).trans HG.out) rfl (by simp))
    have E_t4 := Lib.hid (E_t3.out.below N_t4.out)
    have hS := M_t4.out
    clear ht
    refine wpAnyH_ready (rs := [8]) (by kernel_rfl) (by simp) ?_
    refine AllReadyH.cons rfl (fun K hK => ?_) AllReadyH.nil
    rw [if_pos (by rfl)]
    refine opw_rb RN RB_t4.out (.tmp 15) (.tmp 18) c_t3 4 6 rfl rfl rfl rfl E_t4.out (acc' := [s.w, s.h] ++ nC s.k) rfl rfl (by decide) ?_
    intro A1 x1 w1 hR hg
    have HR1 := Lib.hid hR
    have hg2 := ownE_ge RB_t4.out.o
    have M7 := Lib.hid (M_t4.out.grown hg (fun r e => .inr (by have := hg2 r e; omega)))
    clear hR hg hg2
    refine hK.out _ _ M7.out (fun hS => ?_)
    clear hK K
    try simp only [Act.put, List.setIfInBounds_toArray, List.set_cons_zero, List.set_cons_succ, List.getElem_toArray, List.getElem_cons_zero, List.getElem_cons_succ]
    refine wpAnyH_take (i := 9) (v := .slice A1 6 x1) rfl (by kernel_rfl) (by kernel_rfl) (by kernel_rfl) (fun _ _ _ h => h) (Or.inl ⟨by rfl, fun w hw => by go_simp⟩) hS ?_
    try simp only [Act.put, List.setIfInBounds_toArray, List.set_cons_zero, List.set_cons_succ, List.getElem_toArray, List.getElem_cons_zero, List.getElem_cons_succ]
    refine wpAnyH_done (by kernel_rfl) ?_ _
    clear hS M7 y0 y1 y2 y3 y4 y5
    obtain ⟨c0, c1, c2, c3, c4, c5, c6, c7, c8, c9⟩ := scB_cell HR1.out.g
    have gl := HR1.out.lt
    go_wp2_with (at_builtin; refine wpl_rb (ys := [(s.vs.length : Int)]) (acc' := YV 0) rfl RN (HR1.out.alloc (.cells #[.int .i64 s.vs.length] 3)) _ _ 1 1 _ rfl rfl rfl rfl (es_ints _ [(s.vs.length : Int)] #[.int .i64 s.vs.length] rfl (by simp)) HV.out.zero.symm rfl HV.out.len ?_; intro A2 x2 w2 hR2)
    have HR2 := Lib.hid hR2
    clear hR2 HR1
    clear c0 c1 c2 c3 c4 c5 c6 c7 c8 c9 gl
    go_loopw [3, 4] (fun v i wr => ∃ (j : Nat) (A' : Option Addr) (c' : Nat), j ≤ s.vs.length ∧ i = .int .i64 j ∧ v = .slice A' (YV j).length c' ∧ RB w (scB s) (YV j) (.slice A' (YV j).length c') wr) (fun _ i _ => s.vs.length - (intOf i).toNat)
    case atStart => exact ⟨0, _, _, Nat.zero_le _, rfl, rfl, HR2.out⟩
    case round =>
      obtain ⟨j, A1, x1, hj, rfl, rfl, hR⟩ := hrel
      have HR := Lib.hid hR
      obtain ⟨c0, c1, c2, c3, c4, c5, c6, c7, c8, c9⟩ := scB_cell hR.g
      have gl := hR.lt
      clear hR
      by_cases hlt : j < s.vs.length
      · have hfew := HF.out.vs
        obtain ⟨u, hu⟩ := get_lt hlt
        obtain ⟨b, off, hA, hbB, hat⟩ := HA.out.v.at hu
        obtain ⟨d0, d1, d2, d3, d4, d5, d6, d7⟩ := atV (show AtE EV wr b (off + j * 8) u from hat.below HR.out.b hbB)
        have hbw : b < wr.heap.size := by omega
        have hy := Lib.hid (HV.out.step j u hu)
        have HCl := Lib.hid (vert15_any u wr)
        rw [hA] at c6
        replace hu := Lib.hid hu
        replace hA := Lib.hid hA
        clear hat
        go_wp2_with fail
        with_reducible refine (HCl.out).mono ?_
        rintro e w3 ⟨v3, rfl, ho, hb⟩
        obtain ⟨A3, x3, rfl, -, -, hes⟩ := ho.es
        have HE3 := Lib.hid hes
        have HR3 := Lib.hid (HR.out.keep hb)
        clear ho hb hes
        go_wp2_with (at_builtin; refine wpl_rb (ys := nV u) (acc' := YV (j + 1)) rfl RN HR3.out _ _ x3 (nV u).length _ rfl rfl rfl rfl HE3.out hy.out.1.symm rfl hy.out.2 ?_; intro A2 x2 w4 hR4)
        go_roundw
        case rel => exact ⟨j + 1, A2, x2, by omega, by go_num, rfl, hR4⟩
        case measure => simp [intOf]; omega
      · obtain rfl : j = s.vs.length := by omega
        go_upto_region 7 with fail
        have HR3 := HR
        clear hj hlt HR c0 c1 c2 c3 c4 c5 c6 c7 c8 c9 gl
        obtain ⟨c0, c1, c2, c3, c4, c5, c6, c7, c8, c9⟩ := scB_cell HR3.out.g
        have gl := HR3.out.lt
        go_wp2_with (at_builtin; refine wpl_rb (ys := [(s.ts.length : Int)]) (acc' := YT 0) rfl RN (HR3.out.alloc (.cells #[.int .i64 s.ts.length] 3)) _ _ 1 1 _ rfl rfl rfl rfl (es_ints _ [(s.ts.length : Int)] #[.int .i64 s.ts.length] rfl (by simp)) HT.out.zero.symm rfl HT.out.len ?_; intro A2 x2 w2 hR2)
        have HR4 := Lib.hid hR2
        clear hR2 HR3
        clear c0 c1 c2 c3 c4 c5 c6 c7 c8 c9 gl
        go_loopw [3, 5] (fun v i wr => ∃ (j : Nat) (A' : Option Addr) (c' : Nat), j ≤ s.ts.length ∧ i = .int .i64 j ∧ v = .slice A' (YT j).length c' ∧ RB w (scB s) (YT j) (.slice A' (YT j).length c') wr) (fun _ i _ => s.ts.length - (intOf i).toNat)
        case atStart => exact ⟨0, _, _, Nat.zero_le _, rfl, rfl, HR4.out⟩
        case round =>
          obtain ⟨j, A1, x1, hj, rfl, rfl, hR⟩ := hrel
          have HR := Lib.hid hR
          obtain ⟨c0, c1, c2, c3, c4, c5, c6, c7, c8, c9⟩ := scB_cell hR.g
          have gl := hR.lt
          clear hR
          by_cases hlt : j < s.ts.length
          · have hfew := HF.out.ts
            obtain ⟨u, hu⟩ := get_lt hlt
            obtain ⟨b, off, hA, hbB, hat⟩ := HA.out.t.at hu
            obtain ⟨d0, d1, d2⟩ := atT (show AtE ET wr b (off + j * 3) u from hat.below HR.out.b hbB)
            have hbw : b < wr.heap.size := by omega
            obtain ⟨Z, hZ, hze⟩ := stp_tex HT.out hu
            replace hZ := Lib.hid hZ
            replace hze := Lib.hid hze
            have hz0 := Lib.hid (show YT j ++ [u.x.w, u.x.h, (u.x.px.length : Int)] = Z 0 by rw [hZ.out.zero]; simp)
            rw [hA] at c7
            have hjn : (j : Int) < s.ts.length := by omega
            have hv2b : ∀ x, (Value.slice A1 (YT j).length x1).ownBlock = some x → w.heap.size + 1 ≤ x := fun x e => ownE_ge HR.out.o x e
            have NM1 := Lib.hid (show ¬ (Value.slice A1 (YT j).length x1).ownBlock = some w.heap.size from fun e => by have := hv2b _ e; omega)
            have NM2 := Lib.hid (show ¬ (Value.slice A1 (YT j).length x1).ownBlock = some b from fun e => by have := hv2b _ e; omega)
            replace hu := Lib.hid hu
            replace hA := Lib.hid hA
            replace hat := Lib.hid hat
            clear hv2b
            go_upto_region 11 with fail
            have y0 : ∀ w', Om (fun b => (Value.slice A1 (YT j).length x1).ownBlock = some b) wr w' → w'.cell? ⟨w.heap.size, 7, none⟩ = some (.slice (some ⟨b, off, none⟩) s.ts.length s.tc) := fun w' h => h.cell (by assumption) (NM1.out)
            have y1 : ∀ w', Om (fun b => (Value.slice A1 (YT j).length x1).ownBlock = some b) wr w' → w'.cell? ⟨b, off + j * 3, none⟩ = some (.int .i64 u.x.w) := fun w' h => h.cell (by assumption) (NM2.out)
            have y2 : ∀ w', Om (fun b => (Value.slice A1 (YT j).length x1).ownBlock = some b) wr w' → w'.cell? ⟨b, off + j * 3 + 1, none⟩ = some (.int .i64 u.x.h) := fun w' h => h.cell (by assumption) (NM2.out)
            have y3 : ∀ w', Om (fun b => (Value.slice A1 (YT j).length x1).ownBlock = some b) wr w' → w'.cell? ⟨b, off + j * 3 + 2, none⟩ = some (.slice u.A u.x.px.length u.c) := fun w' h => h.cell (by assumption) (NM2.out)
            refine wp_region_held_drew (S := fun w' => Om (fun b => (Value.slice A1 (YT j).length x1).ownBlock = some b) wr w') (by kernel_rfl) (om_drew _ _) (fun hS => ?_)
            have B_t0 := Lib.hid (show Below wr.heap.size wr wr.drew from (Below.refl _ _).drew)
            have M_t0 := Lib.hid (om_drew (fun b => (Value.slice A1 (YT j).length x1).ownBlock = some b) wr)
            have D_t0 := Lib.hid (show Below wr.heap.size wr wr.drew from (Below.refl _ _).drew)
            generalize wr.drew = t0 at *
            refine wpAnyH_take (i := 0) (v := .slice A1 (YT j).length x1) rfl (by kernel_rfl) (by kernel_rfl) (by kernel_rfl) (fun _ _ _ h => h) (Or.inl ⟨by rfl, fun w hw => by have z0 := y0 w hw; have z1 := y1 w hw; have z2 := y2 w hw; have z3 := y3 w hw; go_simp⟩) hS ?_
            try simp only [Act.put, List.setIfInBounds_toArray, List.set_cons_zero, List.set_cons_succ, List.getElem_toArray, List.getElem_cons_zero]
            refine wpAnyH_take (i := 1) (v := .pointer (some ⟨w.heap.size, 7, none⟩)) rfl (by kernel_rfl) (by kernel_rfl) (by kernel_rfl) (fun _ _ _ h => h) (Or.inl ⟨by rfl, fun w hw => by have z0 := y0 w hw; have z1 := y1 w hw; have z2 := y2 w hw; have z3 := y3 w hw; go_simp⟩) hS ?_
            try simp only [Act.put, List.setIfInBounds_toArray, List.set_cons_zero, List.set_cons_succ, List.getElem_toArray, List.getElem_cons_zero, List.getElem_cons_succ]
            refine wpAnyH_take (i := 2) (v := .slice (some ⟨b, off, none⟩) s.ts.length s.tc) rfl (by kernel_rfl) (by kernel_rfl) (by kernel_rfl) (fun _ _ _ h => h) (Or.inl ⟨by rfl, fun w hw => by have z0 := y0 w hw; have z1 := y1 w hw; have z2 := y2 w hw; have z3 := y3 w hw; go_simp⟩) hS ?_
            try simp only [Act.put, List.setIfInBounds_toArray, List.set_cons_zero, List.set_cons_succ, List.getElem_toArray, List.getElem_cons_zero, List.getElem_cons_succ]
            refine wpAnyH_take (i := 3) (v := .int .i64 j) rfl (by kernel_rfl) (by kernel_rfl) (by kernel_rfl) (fun _ _ _ h => h) (Or.inl ⟨by rfl, fun w hw => by have z0 := y0 w hw; have z1 := y1 w hw; have z2 := y2 w hw; have z3 := y3 w hw; go_simp⟩) hS ?_
            try simp only [Act.put, List.setIfInBounds_toArray, List.set_cons_zero, List.set_cons_succ, List.getElem_toArray, List.getElem_cons_zero, List.getElem_cons_succ]
            refine wpAnyH_take (i := 4) (v := .pointer (some ⟨b, off + j * 3, none⟩)) rfl (by kernel_rfl) (by kernel_rfl) (by kernel_rfl) (fun _ _ _ h => h) (Or.inl ⟨by rfl, fun w hw => by have z0 := y0 w hw; have z1 := y1 w hw; have z2 := y2 w hw; have z3 := y3 w hw; go_simp⟩) hS ?_
            try simp only [Act.put, List.setIfInBounds_toArray, List.set_cons_zero, List.set_cons_succ, List.getElem_toArray, List.getElem_cons_zero, List.getElem_cons_succ]
            refine wpAnyH_take (i := 5) (v := .pointer (some ⟨b, off + j * 3, none⟩)) rfl (by kernel_rfl) (by kernel_rfl) (by kernel_rfl) (fun _ _ _ h => h) (Or.inl ⟨by rfl, fun w hw => by have z0 := y0 w hw; have z1 := y1 w hw; have z2 := y2 w hw; have z3 := y3 w hw; go_simp⟩) hS ?_
            try simp only [Act.put, List.setIfInBounds_toArray, List.set_cons_zero, List.set_cons_succ, List.getElem_toArray, List.getElem_cons_zero, List.getElem_cons_succ]
            refine wpAnyH_take (i := 6) (v := .int .i64 u.x.w) rfl (by kernel_rfl) (by kernel_rfl) (by kernel_rfl) (fun _ _ _ h => h) (Or.inl ⟨by rfl, fun w hw => by have z0 := y0 w hw; have z1 := y1 w hw; have z2 := y2 w hw; have z3 := y3 w hw; go_simp⟩) hS ?_
            try simp only [Act.put, List.setIfInBounds_toArray, List.set_cons_zero, List.set_cons_succ, List.getElem_toArray, List.getElem_cons_zero, List.getElem_cons_succ]
            refine wpAnyH_take (i := 7) (v := .pointer (some ⟨w.heap.size, 7, none⟩)) rfl (by kernel_rfl) (by kernel_rfl) (by kernel_rfl) (fun _ _ _ h => h) (Or.inl ⟨by rfl, fun w hw => by have z0 := y0 w hw; have z1 := y1 w hw; have z2 := y2 w hw; have z3 := y3 w hw; go_simp⟩) hS ?_
            try simp only [Act.put, List.setIfInBounds_toArray, List.set_cons_zero, List.set_cons_succ, List.getElem_toArray, List.getElem_cons_zero, List.getElem_cons_succ]
            refine wpAnyH_take (i := 8) (v := .slice (some ⟨b, off, none⟩) s.ts.length s.tc) rfl (by kernel_rfl) (by kernel_rfl) (by kernel_rfl) (fun _ _ _ h => h) (Or.inl ⟨by rfl, fun w hw => by have z0 := y0 w hw; have z1 := y1 w hw; have z2 := y2 w hw; have z3 := y3 w hw; go_simp⟩) hS ?_
            try simp only [Act.put, List.setIfInBounds_toArray, List.set_cons_zero, List.set_cons_succ, List.getElem_toArray, List.getElem_cons_zero, List.getElem_cons_succ]
            refine wpAnyH_take (i := 9) (v := .int .i64 j) rfl (by kernel_rfl) (by kernel_rfl) (by kernel_rfl) (fun _ _ _ h => h) (Or.inl ⟨by rfl, fun w hw => by have z0 := y0 w hw; have z1 := y1 w hw; have z2 := y2 w hw; have z3 := y3 w hw; go_simp⟩) hS ?_
            try simp only [Act.put, List.setIfInBounds_toArray, List.set_cons_zero, List.set_cons_succ, List.getElem_toArray, List.getElem_cons_zero, List.getElem_cons_succ]
            refine wpAnyH_take (i := 10) (v := .pointer (some ⟨b, off + j * 3, none⟩)) rfl (by kernel_rfl) (by kernel_rfl) (by kernel_rfl) (fun _ _ _ h => h) (Or.inl ⟨by rfl, fun w hw => by have z0 := y0 w hw; have z1 := y1 w hw; have z2 := y2 w hw; have z3 := y3 w hw; go_simp⟩) hS ?_
            try simp only [Act.put, List.setIfInBounds_toArray, List.set_cons_zero, List.set_cons_succ, List.getElem_toArray, List.getElem_cons_zero, List.getElem_cons_succ]
            refine wpAnyH_take (i := 11) (v := .pointer (some ⟨b, off + j * 3 + 1, none⟩)) rfl (by kernel_rfl) (by kernel_rfl) (by kernel_rfl) (fun _ _ _ h => h) (Or.inl ⟨by rfl, fun w hw => by have z0 := y0 w hw; have z1 := y1 w hw; have z2 := y2 w hw; have z3 := y3 w hw; go_simp⟩) hS ?_
            try simp only [Act.put, List.setIfInBounds_toArray, List.set_cons_zero, List.set_cons_succ, List.getElem_toArray, List.getElem_cons_zero, List.getElem_cons_succ]
            refine wpAnyH_take (i := 12) (v := .int .i64 u.x.h) rfl (by kernel_rfl) (by kernel_rfl) (by kernel_rfl) (fun _ _ _ h => h) (Or.inl ⟨by rfl, fun w hw => by have z0 := y0 w hw; have z1 := y1 w hw; have z2 := y2 w hw; have z3 := y3 w hw; go_simp⟩) hS ?_
            try simp only [Act.put, List.setIfInBounds_toArray, List.set_cons_zero, List.set_cons_succ, List.getElem_toArray, List.getElem_cons_zero, List.getElem_cons_succ]
            refine wpAnyH_take (i := 13) (v := .pointer (some ⟨w.heap.size, 7, none⟩)) rfl (by kernel_rfl) (by kernel_rfl) (by kernel_rfl) (fun _ _ _ h => h) (Or.inl ⟨by rfl, fun w hw => by have z0 := y0 w hw; have z1 := y1 w hw; have z2 := y2 w hw; have z3 := y3 w hw; go_simp⟩) hS ?_
            try simp only [Act.put, List.setIfInBounds_toArray, List.set_cons_zero, List.set_cons_succ, List.getElem_toArray, List.getElem_cons_zero, List.getElem_cons_succ]
            refine wpAnyH_take (i := 14) (v := .slice (some ⟨b, off, none⟩) s.ts.length s.tc) rfl (by kernel_rfl) (by kernel_rfl) (by kernel_rfl) (fun _ _ _ h => h) (Or.inl ⟨by rfl, fun w hw => by have z0 := y0 w hw; have z1 := y1 w hw; have z2 := y2 w hw; have z3 := y3 w hw; go_simp⟩) hS ?_
            try simp only [Act.put, List.setIfInBounds_toArray, List.set_cons_zero, List.set_cons_succ, List.getElem_toArray, List.getElem_cons_zero, List.getElem_cons_succ]
            refine wpAnyH_take (i := 15) (v := .int .i64 j) rfl (by kernel_rfl) (by kernel_rfl) (by kernel_rfl) (fun _ _ _ h => h) (Or.inl ⟨by rfl, fun w hw => by have z0 := y0 w hw; have z1 := y1 w hw; have z2 := y2 w hw; have z3 := y3 w hw; go_simp⟩) hS ?_
            try simp only [Act.put, List.setIfInBounds_toArray, List.set_cons_zero, List.set_cons_succ, List.getElem_toArray, List.getElem_cons_zero, List.getElem_cons_succ]
            refine wpAnyH_take (i := 16) (v := .pointer (some ⟨b, off + j * 3, none⟩)) rfl (by kernel_rfl) (by kernel_rfl) (by kernel_rfl) (fun _ _ _ h => h) (Or.inl ⟨by rfl, fun w hw => by have z0 := y0 w hw; have z1 := y1 w hw; have z2 := y2 w hw; have z3 := y3 w hw; go_simp⟩) hS ?_
            try simp only [Act.put, List.setIfInBounds_toArray, List.set_cons_zero, List.set_cons_succ, List.getElem_toArray, List.getElem_cons_zero, List.getElem_cons_succ]
            refine wpAnyH_take (i := 17) (v := .pointer (some ⟨b, off + j * 3 + 2, none⟩)) rfl (by kernel_rfl) (by kernel_rfl) (by kernel_rfl) (fun _ _ _ h => h) (Or.inl ⟨by rfl, fun w hw => by have z0 := y0 w hw; have z1 := y1 w hw; have z2 := y2 w hw; have z3 := y3 w hw; go_simp⟩) hS ?_
            try simp only [Act.put, List.setIfInBounds_toArray, List.set_cons_zero, List.set_cons_succ, List.getElem_toArray, List.getElem_cons_zero, List.getElem_cons_succ]
            refine wpAnyH_take (i := 18) (v := .slice u.A u.x.px.length u.c) rfl (by kernel_rfl) (by kernel_rfl) (by kernel_rfl) (fun _ _ _ h => h) (Or.inl ⟨by rfl, fun w hw => by have z0 := y0 w hw; have z1 := y1 w hw; have z2 := y2 w hw; have z3 := y3 w hw; go_simp⟩) hS ?_
            try simp only [Act.put, List.setIfInBounds_toArray, List.set_cons_zero, List.set_cons_succ, List.getElem_toArray, List.getElem_cons_zero, List.getElem_cons_succ]
            refine wpAnyH_take (i := 19) (v := .int .i64 u.x.px.length) rfl (by kernel_rfl) (by kernel_rfl) (by kernel_rfl) (fun _ _ _ h => h) (Or.inl ⟨by rfl, fun w hw => by have z0 := y0 w hw; have z1 := y1 w hw; have z2 := y2 w hw; have z3 := y3 w hw; go_simp⟩) hS ?_
            try simp only [Act.put, List.setIfInBounds_toArray, List.set_cons_zero, List.set_cons_succ, List.getElem_toArray, List.getElem_cons_zero, List.getElem_cons_succ]
            refine wpAnyH_ready (rs := [20]) (by kernel_rfl) (by simp) ?_
            refine AllReadyH.cons rfl (fun K hK => ?_) AllReadyH.nil
            go_simp
            refine hK.out _ _ (M_t0.out.alloc _) (fun hS => ?_)
            clear hK K hS
            try simp only [Act.put, List.setIfInBounds_toArray, List.set_cons_zero, List.set_cons_succ, List.getElem_toArray, List.getElem_cons_zero, List.getElem_cons_succ]
            obtain ⟨t1, ht⟩ : ∃ t, t = t0.alloc (.cells #[.int .i64 u.x.w, .int .i64 u.x.h, .int .i64 u.x.px.length] 3) := ⟨_, rfl⟩
            change wpAnyH _ _ _ _ _ _ _ _ (t0.alloc (.cells #[.int .i64 u.x.w, .int .i64 u.x.h, .int .i64 u.x.px.length] 3))
            rw [← ht]
            have B_t1 := Lib.hid (show Below wr.heap.size wr t1 by rw [ht]; exact B_t0.out.alloc B_t0.out.size _)
            have M_t1 := Lib.hid (show Om (fun b => (Value.slice A1 (YT j).length x1).ownBlock = some b) wr t1 by rw [ht]; exact M_t0.out.alloc _)
            have N_t1 := Lib.hid (show Below t0.heap.size t0 t1 by rw [ht]; exact new_below _ _)
            have E_row := Lib.hid (show Es EN t1 t1.heap.size (some ⟨t0.heap.size, 0, none⟩) [u.x.w, u.x.h, (u.x.px.length : Int)] by rw [ht]; exact es_ints _ _ _ rfl (by simp))
            have hS := M_t1.out
            clear ht
            refine wpAnyH_ready (rs := [21]) (by kernel_rfl) (by simp) ?_
            refine AllReadyH.cons rfl (fun K hK => ?_) AllReadyH.nil
            rw [if_pos (by rfl)]
            refine opw_rb RN (HR.out.keep (B_t1.out)) (.tmp 54) (.tmp 74) 3 3 _ rfl rfl rfl rfl E_row.out (acc' := Z 0) hz0.out rfl hZ.out.len ?_
            intro A2 x2 w4 hR4 hg
            have HR4 := Lib.hid hR4
            have hg2 := ownE_ge HR.out.o
            have M7 := Lib.hid (M_t1.out.grown hg (fun r e => .inl e))
            clear hR4 hg hg2
            refine hK.out _ _ M7.out (fun hS => ?_)
            clear hK K
            try simp only [Act.put, List.setIfInBounds_toArray, List.set_cons_zero, List.set_cons_succ, List.getElem_toArray, List.getElem_cons_zero, List.getElem_cons_succ]
            refine wpAnyH_take (i := 22) (v := .slice A2 (Z 0).length x2) rfl (by kernel_rfl) (by kernel_rfl) (by kernel_rfl) (fun _ _ _ h => h) (Or.inl ⟨by rfl, fun w hw => by go_simp⟩) hS ?_
            try simp only [Act.put, List.setIfInBounds_toArray, List.set_cons_zero, List.set_cons_succ, List.getElem_toArray, List.getElem_cons_zero, List.getElem_cons_succ]
            refine wpAnyH_done (by kernel_rfl) ?_ _
            clear hS M7 y0 y1 y2 y3 E_row
            go_wp2_with fail
            go_loopw [3, 6] (fun v i wr => ∃ (k : Nat) (A' : Option Addr) (c' : Nat), k ≤ u.x.px.length ∧ i = .int .i64 k ∧ v = .slice A' (Z k).length c' ∧ RB w (scB s) (Z k) (.slice A' (Z k).length c') wr) (fun _ i _ => u.x.px.length - (intOf i).toNat)
            case atStart => exact ⟨0, _, _, Nat.zero_le _, rfl, rfl, HR4.out⟩
            case round =>
              obtain ⟨k, A2, x2, hk, rfl, rfl, hR⟩ := hrel
              have HR2 := Lib.hid hR
              obtain ⟨c0, c1, c2, c3, c4, c5, c6, c7, c8, c9⟩ := scB_cell hR.g
              rw [hA.out] at c7
              have gl := hR.lt
              obtain ⟨d0, d1, d2⟩ := atT (show AtE ET wr b (off + j * 3) u from hat.out.below hR.b hbB)
              have hbw : b < wr.heap.size := by omega
              clear hR HR4
              by_cases hlk : k < u.x.px.length
              · have hfew2 := HF.out.tx u (List.mem_of_getElem? hu.out)
                obtain ⟨p, hp⟩ := get_lt hlk
                obtain ⟨b2, off2, hA2, hbB2, hat2⟩ := (HA.out.tx u (List.mem_of_getElem? hu.out)).at hp
                obtain ⟨e0, e1, e2, e3⟩ := atC (show AtE EC wr b2 (off2 + k * 4) p from hat2.below HR2.out.b hbB2)
                have hbw2 : b2 < wr.heap.size := by omega
                have hy := Lib.hid (hZ.out.step k p hp)
                have HCl := Lib.hid (parts15_any p ((HOk.out.ts u (List.mem_of_getElem? hu.out)).2.2.1 p (List.mem_of_getElem? hp)) wr)
                rw [hA2] at d2
                replace hp := Lib.hid hp
                replace hA2 := Lib.hid hA2
                clear hat2
                go_wp2_with fail
                with_reducible refine (HCl.out).mono ?_
                rintro e w3 ⟨v3, rfl, ho, hb⟩
                obtain ⟨A3, x3, rfl, -, -, hes⟩ := ho.es
                have HE3 := Lib.hid hes
                have HR3 := Lib.hid (HR2.out.keep hb)
                clear ho hb hes
                go_wp2_with (at_builtin; refine wpl_rb (ys := nC p) (acc' := Z (k + 1)) rfl RN HR3.out _ _ x3 (nC p).length _ rfl rfl rfl rfl HE3.out hy.out.1.symm rfl hy.out.2 ?_; intro A4 x4 w4 hR4)
                go_roundw
                case rel => exact ⟨k + 1, A4, x4, by omega, by go_num, rfl, hR4⟩
                case measure => simp [intOf]; omega
              · obtain rfl : k = u.x.px.length := by omega
                go_wp2_with fail
                go_roundw
                case rel => exact ⟨j + 1, A2, x2, by omega, by go_num, by rw [hze.out], by rw [← hze.out]; exact HR2.out⟩
                case measure => simp [intOf]; omega
          · obtain rfl : j = s.ts.length := by omega
            go_upto_region 16 with fail
            have HR5 := HR
            clear hj hlt HR c0 c1 c2 c3 c4 c5 c6 c7 c8 c9 gl
            obtain ⟨c0, c1, c2, c3, c4, c5, c6, c7, c8, c9⟩ := scB_cell HR5.out.g
            have gl := HR5.out.lt
            go_wp2_with (at_builtin; refine wpl_rb (ys := [(s.ps.length : Int)]) (acc' := YP 0) rfl RN (HR5.out.alloc (.cells #[.int .i64 s.ps.length] 3)) _ _ 1 1 _ rfl rfl rfl rfl (es_ints _ [(s.ps.length : Int)] #[.int .i64 s.ps.length] rfl (by simp)) HP.out.zero.symm rfl HP.out.len ?_; intro A2 x2 w2 hR2)
            have HR6 := Lib.hid hR2
            clear hR2 HR5
            clear c0 c1 c2 c3 c4 c5 c6 c7 c8 c9 gl
            go_loopw [3, 7] (fun v i wr => ∃ (j : Nat) (A' : Option Addr) (c' : Nat), j ≤ s.ps.length ∧ i = .int .i64 j ∧ v = .slice A' (YP j).length c' ∧ RB w (scB s) (YP j) (.slice A' (YP j).length c') wr) (fun _ i _ => s.ps.length - (intOf i).toNat)
            case atStart => exact ⟨0, _, _, Nat.zero_le _, rfl, rfl, HR6.out⟩
            case round =>
              obtain ⟨j, A1, x1, hj, rfl, rfl, hR⟩ := hrel
              have HR := Lib.hid hR
              obtain ⟨c0, c1, c2, c3, c4, c5, c6, c7, c8, c9⟩ := scB_cell hR.g
              have gl := hR.lt
              clear hR
              by_cases hlt : j < s.ps.length
              · have hfew := HF.out.ps
                obtain ⟨u, hu⟩ := get_lt hlt
                obtain ⟨b, off, hA, hbB, hat⟩ := HA.out.p.at hu
                have d0 : wr.cell? ⟨b, off + j, none⟩ = some (.slice u.A u.x.length u.c) := by simpa using atP (show AtE EP wr b (off + j * 1) u from hat.below HR.out.b hbB)
                have hbw : b < wr.heap.size := by omega
                obtain ⟨Z, hZ, hze⟩ := stp_prog HP.out hu
                replace hZ := Lib.hid hZ
                replace hze := Lib.hid hze
                rw [hA] at c8
                have hjn : (j : Int) < s.ps.length := by omega
                replace hu := Lib.hid hu
                replace hA := Lib.hid hA
                replace hat := Lib.hid hat
                go_wp2_with (at_builtin; refine wpl_rb (ys := [(u.x.length : Int)]) (acc' := Z 0) rfl RN (HR.out.alloc (.cells #[.int .i64 u.x.length] 3)) _ _ 1 1 _ rfl rfl rfl rfl (es_ints _ [(u.x.length : Int)] #[.int .i64 u.x.length] rfl (by simp)) hZ.out.zero.symm rfl hZ.out.len ?_; intro A2 x2 w2 hR2)
                have HR4 := Lib.hid hR2
                clear hR2 HR c0 c1 c2 c3 c4 c5 c6 c7 c8 c9 gl d0 hbw
                go_loopw [3, 8] (fun v i wr => ∃ (k : Nat) (A' : Option Addr) (c' : Nat), k ≤ u.x.length ∧ i = .int .i64 k ∧ v = .slice A' (Z k).length c' ∧ RB w (scB s) (Z k) (.slice A' (Z k).length c') wr) (fun _ i _ => u.x.length - (intOf i).toNat)
                case atStart => exact ⟨0, _, _, Nat.zero_le _, rfl, rfl, HR4.out⟩
                case round =>
                  obtain ⟨k, A2, x2, hk, rfl, rfl, hR⟩ := hrel
                  have HR2 := Lib.hid hR
                  obtain ⟨c0, c1, c2, c3, c4, c5, c6, c7, c8, c9⟩ := scB_cell hR.g
                  rw [hA.out] at c8
                  have gl := hR.lt
                  have d0 : wr.cell? ⟨b, off + j, none⟩ = some (.slice u.A u.x.length u.c) := by simpa using atP (show AtE EP wr b (off + j * 1) u from hat.out.below hR.b hbB)
                  have hbw : b < wr.heap.size := by omega
                  clear hR HR4
                  by_cases hlk : k < u.x.length
                  · have hfew2 := HF.out.px u (List.mem_of_getElem? hu.out)
                    obtain ⟨p, hp⟩ := get_lt hlk
                    obtain ⟨b2, off2, hA2, hbB2, hat2⟩ := (HA.out.px u (List.mem_of_getElem? hu.out)).at hp
                    obtain ⟨e0, e1, e2, e3, e4⟩ := C.atI (show AtE C.EI wr b2 (off2 + k * 5) p from hat2.below HR2.out.b hbB2)
                    have hbw2 : b2 < wr.heap.size := by omega
                    have hy := Lib.hid (hZ.out.step k p hp)
                    have hpo := (HOk.out.ps u (List.mem_of_getElem? hu.out)).1 p (List.mem_of_getElem? hp)
                    have g1 := w64u hpo.o
                    have g2 := w64u hpo.d
                    have g3 := w64u hpo.a
                    have g4 := w64u hpo.b
                    rw [hA2] at d0
                    replace hp := Lib.hid hp
                    replace hA2 := Lib.hid hA2
                    clear hat2 hpo
                    go_upto_region 25 with fail
                    have hS : (wr.alloc (.cells #[.int .u8 p.o, .int .u8 p.d, .int .u8 p.a, .int .u8 p.b, .int .i64 p.n] 76)).heap[wr.heap.size]? = some (.cells #[.int .u8 p.o, .int .u8 p.d, .int .u8 p.a, .int .u8 p.b, .int .i64 p.n] 76 (0, 0)) := heap_alloc_new _ _
                    have hB : Below wr.heap.size wr (wr.alloc (.cells #[.int .u8 p.o, .int .u8 p.d, .int .u8 p.a, .int .u8 p.b, .int .i64 p.n] 76)) := new_below _ _
                    obtain ⟨V, hT⟩ : ∃ T, (wr.alloc (.cells #[.int .u8 p.o, .int .u8 p.d, .int .u8 p.a, .int .u8 p.b, .int .i64 p.n] 76)) = T := ⟨_, rfl⟩
                    rw [hT] at hS hB
                    rw [hT]
                    clear hT
                    have q0 := Joins.cell_of_block hS 0
                    have q1 := Joins.cell_of_block hS 1
                    have q2 := Joins.cell_of_block hS 2
                    have q3 := Joins.cell_of_block hS 3
                    have q4 := Joins.cell_of_block hS 4
                    have hv : wr.heap.size < V.heap.size := (Array.getElem?_eq_some_iff.1 hS).1
                    have HR3 := Lib.hid ((HR2.out.keep hB).alloc (.cells #[.int .i64 p.o, .int .i64 p.d, .int .i64 p.a, .int .i64 p.b, .int .i64 p.n] 3))
                    have HE3 := Lib.hid (es_ints V (nI p) #[.int .i64 p.o, .int .i64 p.d, .int .i64 p.a, .int .i64 p.b, .int .i64 p.n] rfl (by simp [nI]))
                    clear hS hB c0 c1 c2 c3 c4 c5 c6 c7 c8 c9 gl d0 e0 e1 e2 e3 e4 hbw hbw2
                    go_wp2_with (at_builtin; refine wpl_rb (ys := nI p) (acc' := Z (k + 1)) rfl RN HR3.out _ _ 5 5 _ rfl rfl rfl rfl HE3.out hy.out.1.symm rfl hy.out.2 ?_; intro A4 x4 w4 hR4)
                    go_roundw
                    case rel => exact ⟨k + 1, A4, x4, by omega, by go_num, rfl, hR4⟩
                    case measure => simp [intOf]; omega
                  · obtain rfl : k = u.x.length := by omega
                    go_wp2_with fail
                    go_roundw
                    case rel => exact ⟨j + 1, A2, x2, by omega, by go_num, by rw [hze.out], by rw [← hze.out]; exact HR2.out⟩
                    case measure => simp [intOf]; omega
              · obtain rfl : j = s.ps.length := by omega
                go_upto_region 26 with fail
                have HR7 := HR
                clear hj hlt HR c0 c1 c2 c3 c4 c5 c6 c7 c8 c9 gl
                obtain ⟨c0, c1, c2, c3, c4, c5, c6, c7, c8, c9⟩ := scB_cell HR7.out.g
                have gl := HR7.out.lt
                go_wp2_with (at_builtin; refine wpl_rb (ys := [(s.ds.length : Int)]) (acc' := YD 0) rfl RN (HR7.out.alloc (.cells #[.int .i64 s.ds.length] 3)) _ _ 1 1 _ rfl rfl rfl rfl (es_ints _ [(s.ds.length : Int)] #[.int .i64 s.ds.length] rfl (by simp)) HD.out.zero.symm rfl HD.out.len ?_; intro A2 x2 w2 hR2)
                have HR8 := Lib.hid hR2
                clear hR2 HR7
                clear c0 c1 c2 c3 c4 c5 c6 c7 c8 c9 gl
                go_loopw [3, 10] (fun v i wr => ∃ (j : Nat) (A' : Option Addr) (c' : Nat), j ≤ s.ds.length ∧ i = .int .i64 j ∧ v = .slice A' (YD j).length c' ∧ RB w (scB s) (YD j) (.slice A' (YD j).length c') wr) (fun _ i _ => s.ds.length - (intOf i).toNat)
                case atStart => exact ⟨0, _, _, Nat.zero_le _, rfl, rfl, HR8.out⟩
                case round =>
                  obtain ⟨j, A1, x1, hj, rfl, rfl, hR⟩ := hrel
                  have HR := Lib.hid hR
                  obtain ⟨c0, c1, c2, c3, c4, c5, c6, c7, c8, c9⟩ := scB_cell hR.g
                  have gl := hR.lt
                  clear hR
                  by_cases hlt : j < s.ds.length
                  · have hfew := HF.out.ds
                    obtain ⟨u, hu⟩ := get_lt hlt
                    obtain ⟨b, off, hA, hbB, hat⟩ := HA.out.d.at hu
                    obtain ⟨d0, d1, d2, d3, d4⟩ := atD (show AtE ED wr b (off + j * 5) u from hat.below HR.out.b hbB)
                    have hbw : b < wr.heap.size := by omega
                    have hy := Lib.hid (HD.out.step j u hu)
                    have HCl := Lib.hid (draw15_any u (HF.out.dx u (List.mem_of_getElem? hu)) wr (((HA.out.dx u (List.mem_of_getElem? hu)).below HR.out.b).more HR.out.b.size))
                    rw [hA] at c9
                    replace hu := Lib.hid hu
                    replace hA := Lib.hid hA
                    clear hat
                    go_wp2_with fail
                    with_reducible refine (HCl.out).mono ?_
                    rintro e w3 ⟨v3, rfl, ho, hb⟩
                    obtain ⟨A3, x3, rfl, -, -, hes⟩ := ho.es
                    have HE3 := Lib.hid hes
                    have HR3 := Lib.hid (HR.out.keep hb)
                    clear ho hb hes
                    go_wp2_with (at_builtin; refine wpl_rb (ys := nD u.x) (acc' := YD (j + 1)) rfl RN HR3.out _ _ x3 (nD u.x).length _ rfl rfl rfl rfl HE3.out hy.out.1.symm rfl hy.out.2 ?_; intro A2 x2 w4 hR4)
                    go_roundw
                    case rel => exact ⟨j + 1, A2, x2, by omega, by go_num, rfl, hR4⟩
                    case measure => simp [intOf]; omega
                  · obtain rfl : j = s.ds.length := by omega
                    go_upto_region 31 with fail
                    have HR9 := HR
                    clear hj hlt HR c0 c1 c2 c3 c4 c5 c6 c7 c8 c9 gl
                    obtain ⟨-, -, hes⟩ := ownE_es HR9.out.o
                    have HPt := Lib.hid (P.rput_any A1 x1 (YD s.ds.length) wr.heap.size wr (sl_of_es hes) (Nat.le_refl _) HIn.out HN.out)
                    clear hes
                    go_wp2_with fail
                    with_reducible refine (HPt.out).mono ?_
                    rintro e w5 ⟨v5, rfl, ho, hb⟩
                    go_wp2_with fail
                    go_ret
                    exact ⟨v5, rfl, ho.less HR9.out.b.size, bstep HR9.out.b HR9.out.b.size hb⟩
  exact AllReadyH.nil
end Go.Proofs.YtfmmfaeognoleaaGreat
