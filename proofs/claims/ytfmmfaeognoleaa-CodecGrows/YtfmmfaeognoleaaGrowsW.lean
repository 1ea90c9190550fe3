/-
  The walk of glazierlaw15.CodecGrows.
-/
import Derived.Test.YtfmmfaeognoleaaM10
import Derived.Test.YtfmmfaeognoleaaM6
import Derived.Test.YtfmmfaeognoleaaM8
import Derived.BigRegion
namespace Go.Proofs.Ytfmmfaeognoleaa
open Go.RowKit
attribute [local go_sem ↓] Go.wp_at_zero Go.wp_at_succ

set_option maxRecDepth 100000 in
set_option maxHeartbeats 16000000 in
theorem grows_walk (s : Sc) (v : U.V) (_hv : v.i64) (w : World) (ok : s.ok) (at0 : s.at w w.heap.size) :
    Calls Try.prog 4 #[.agg #[.int .i64 s.w, .int .i64 s.h, .int .u8 s.k.r, .int .u8 s.k.g, .int .u8 s.k.b, .int .u8 s.k.a, .slice s.vA s.vs.length s.vc, .slice s.tA s.ts.length s.tc, .slice s.pA s.ps.length s.pc, .slice s.dA s.ds.length s.dc], .agg #[.int .i64 v.x, .int .i64 v.y, .int .i64 v.z, .int .i64 v.w, .int .i64 v.a, .int .i64 v.b, .int .i64 v.c, .int .i64 v.d]] w fun e w' => e = .returned (.bool true) ∧ Below w.heap.size w w' := by
  obtain ⟨RV⟩ := rowV
  obtain ⟨RT⟩ := rowT
  obtain ⟨RD⟩ := rowD
  have hb0 := bstep (new_below w (.cells #[.int .i64 s.w, .int .i64 s.h, .int .u8 s.k.r, .int .u8 s.k.g, .int .u8 s.k.b, .int .u8 s.k.a, .slice s.vA s.vs.length s.vc, .slice s.tA s.ts.length s.tc, .slice s.pA s.ps.length s.pc, .slice s.dA s.ds.length s.dc] 33)) (by simp) (new_below (w.alloc (.cells #[.int .i64 s.w, .int .i64 s.h, .int .u8 s.k.r, .int .u8 s.k.g, .int .u8 s.k.b, .int .u8 s.k.a, .slice s.vA s.vs.length s.vc, .slice s.tA s.ts.length s.tc, .slice s.pA s.ps.length s.pc, .slice s.dA s.ds.length s.dc] 33)) (.cells #[.int .i64 v.x, .int .i64 v.y, .int .i64 v.z, .int .i64 v.w, .int .i64 v.a, .int .i64 v.b, .int .i64 v.c, .int .i64 v.d] 43))
  have hs0 : ((w.alloc (.cells #[.int .i64 s.w, .int .i64 s.h, .int .u8 s.k.r, .int .u8 s.k.g, .int .u8 s.k.b, .int .u8 s.k.a, .slice s.vA s.vs.length s.vc, .slice s.tA s.ts.length s.tc, .slice s.pA s.ps.length s.pc, .slice s.dA s.ds.length s.dc] 33)).alloc (.cells #[.int .i64 v.x, .int .i64 v.y, .int .i64 v.z, .int .i64 v.w, .int .i64 v.a, .int .i64 v.b, .int .i64 v.c, .int .i64 v.d] 43)).heap.size = w.heap.size + 2 := by simp
  have HG0 := Lib.hid (show ((w.alloc (.cells #[.int .i64 s.w, .int .i64 s.h, .int .u8 s.k.r, .int .u8 s.k.g, .int .u8 s.k.b, .int .u8 s.k.a, .slice s.vA s.vs.length s.vc, .slice s.tA s.ts.length s.tc, .slice s.pA s.ps.length s.pc, .slice s.dA s.ds.length s.dc] 33)).alloc (.cells #[.int .i64 v.x, .int .i64 v.y, .int .i64 v.z, .int .i64 v.w, .int .i64 v.a, .int .i64 v.b, .int .i64 v.c, .int .i64 v.d] 43)).heap[w.heap.size]? = some (scB s) from (heap_alloc_old _ _ (by simp)).trans (heap_alloc_new _ _))
  have HV0 := Lib.hid (show ((w.alloc (.cells #[.int .i64 s.w, .int .i64 s.h, .int .u8 s.k.r, .int .u8 s.k.g, .int .u8 s.k.b, .int .u8 s.k.a, .slice s.vA s.vs.length s.vc, .slice s.tA s.ts.length s.tc, .slice s.pA s.ps.length s.pc, .slice s.dA s.ds.length s.dc] 33)).alloc (.cells #[.int .i64 v.x, .int .i64 v.y, .int .i64 v.z, .int .i64 v.w, .int .i64 v.a, .int .i64 v.b, .int .i64 v.c, .int .i64 v.d] 43)).heap[w.heap.size + 1]? = some (U.vB 43 v) from by
    have h := heap_alloc_new (w.alloc (.cells #[.int .i64 s.w, .int .i64 s.h, .int .u8 s.k.r, .int .u8 s.k.g, .int .u8 s.k.b, .int .u8 s.k.a, .slice s.vA s.vs.length s.vc, .slice s.tA s.ts.length s.tc, .slice s.pA s.ps.length s.pc, .slice s.dA s.ds.length s.dc] 33)) (.cells #[.int .i64 v.x, .int .i64 v.y, .int .i64 v.z, .int .i64 v.w, .int .i64 v.a, .int .i64 v.b, .int .i64 v.c, .int .i64 v.d] 43)
    rw [World.size_alloc] at h
    exact h)
  have HB0 := Lib.hid hb0
  have HF := Lib.hid (show ∀ w1, Below w.heap.size w w1 → Calls Try.prog 11 #[.agg #[.int .i64 s.w, .int .i64 s.h, .int .u8 s.k.r, .int .u8 s.k.g, .int .u8 s.k.b, .int .u8 s.k.a, .slice s.vA s.vs.length s.vc, .slice s.tA s.ts.length s.tc, .slice s.pA s.ps.length s.pc, .slice s.dA s.ds.length s.dc], .int .i64 64, .int .i64 20, .int .i64 4, .int .i64 6] w1 (FitsR s 64 20 4 6 w1) from fun w1 (h : Below w.heap.size w w1) => fitr_any s 64 20 4 6 (by decide) (by decide) (by decide) (by decide) (by decide) w1 ((at0.below h).more h.size) ok)
  have HCk := Lib.hid (fitS_check (p := s.p) (most := 64) (verts := 20) (draws := 4) (tris := 6) (ok_p ok).k (by decide) (by decide) (by decide) (by decide) (by decide))
  have HVi := Lib.hid (fitV_i64 v)
  unfold FitsR at HF
  clear hb0 ok at0
  go_enter Try.func4, Try.ntmps4
  go_wp2_with fail
  with_reducible refine (cshown_any _).mono ?_
  rintro e w1 ⟨rfl, hb⟩
  have HB1 := Lib.hid (bstep HB0.out HB0.out.size hb)
  have hg1 := scB_keep HG0.out hb (scB_lt HG0.out)
  have HV1 := Lib.hid ((hb.block _ (U.vB_lt HV0.out)).trans HV0.out)
  obtain ⟨c0, c1, c2, c3, c4, c5, c6, c7, c8, c9⟩ := scB_cell hg1
  have gl := scB_lt hg1
  clear hb HG0 HB0 hg1 HV0 hs0
  go_wp2_with fail
  with_reducible refine (HF.out w1 HB1.out).mono ?_
  rintro e w2 ⟨f, h1, h2, h3, rfl, hfp, hfo, hff, hfr⟩
  have HB2 := Lib.hid (bstep HB1.out HB1.out.size hfr.b)
  have HV2 := Lib.hid ((hfr.b.block _ (U.vB_lt HV1.out)).trans HV1.out)
  have HF2 := Lib.hid (has_new hfr.at)
  have HV3 := Lib.hid (U.vB_alloc (.cells #[.int .i64 f.w, .int .i64 f.h, .int .u8 f.k.r, .int .u8 f.k.g, .int .u8 f.k.b, .int .u8 f.k.a, .slice f.vA f.vs.length f.vc, .slice f.tA f.ts.length f.tc, .slice f.pA f.ps.length f.pc, .slice f.dA f.ds.length f.dc] 33) HV2.out)
  have HB3 := Lib.hid (bstep HB2.out HB2.out.size (new_below w2 (.cells #[.int .i64 f.w, .int .i64 f.h, .int .u8 f.k.r, .int .u8 f.k.g, .int .u8 f.k.b, .int .u8 f.k.a, .slice f.vA f.vs.length f.vc, .slice f.tA f.ts.length f.tc, .slice f.pA f.ps.length f.pc, .slice f.dA f.ds.length f.dc] 33)))
  have hck : check f.p = 0 := by rw [hfp]; exact HCk.out
  have hv1 : 1 ≤ f.p.vs.length := by rw [hfp]; exact fitVs_len.1
  clear c0 c1 c2 c3 c4 c5 c6 c7 c8 c9 gl HF HCk hfr hfp HB1 HB2 HV1 HV2
  go_upto_region 3 with fail
  obtain ⟨t, ht⟩ : ∃ t, w2.alloc (.cells #[.int .i64 f.w, .int .i64 f.h, .int .u8 f.k.r, .int .u8 f.k.g, .int .u8 f.k.b, .int .u8 f.k.a, .slice f.vA f.vs.length f.vc, .slice f.tA f.ts.length f.tc, .slice f.pA f.ps.length f.pc, .slice f.dA f.ds.length f.dc] 33) = t := ⟨_, rfl⟩
  rw [ht] at HF2 HV3 HB3
  rw [ht]
  clear ht
  generalize hgF : w2.heap.size = gF at *
  generalize hgV : w.heap.size + 1 = gV at *
  have hlen := len_check hck
  have HBy := Lib.hid (bytes_any f hfo hff t HF2.out.a (by omega))
  have HCk := Lib.hid hck
  have HOk := Lib.hid (ok_p hfo)
  have HFw := Lib.hid (few_p hff)
  have HCp := Lib.hid hfo
  have hfds : f.ds.length ≤ 8 := by
    have h := (check_ok.1 hck).2.1
    rwa [show f.p.ds.length = f.ds.length from List.length_map _] at h
  have hfvs : f.vs.length ≤ 64 := (check_ok.1 hck).1.room.v
  have hfts : f.ts.length ≤ 4 := by
    have h := (check_ok.1 hck).1.room.t
    rwa [show f.p.ts.length = f.ts.length from List.length_map _] at h
  have HL := Lib.hid hlen
  have Hv1 := Lib.hid hv1
  obtain ⟨x0, x1, x2, x3, x4, x5, x6, x7, x8, x9⟩ := scB_cell HF2.out.b
  have xl := HF2.out.lt
  clear hck hfo hff hlen hv1
  go_wp2_with fail
  with_reducible refine (HBy.out).mono ?_
  rintro e w3 ⟨v1, rfl, ho, hb⟩
  obtain ⟨A1, e1, rfl, hc1, hcm1, hsl⟩ := ho.sl
  have K3 := Lib.hid (show Gr w gF gV f v A1 (P.put (nS f.p)) w3 from ⟨bstep HB3.out HB3.out.size hb, HF2.out.below hb, (hb.block _ (U.vB_lt HV3.out)).trans HV3.out, hsl⟩)
  have HBt := Lib.hid (P.put_byt (nS f.p))
  have hbl : (P.put (nS f.p)).length ≤ 100000 := by have := (P.put_len (ins_nS HOk.out HFw.out)).2; have := HL.out; omega
  have HAl := Lib.hid (fun (W : World) (h : P.Sl .u8 W W.heap.size A1 (P.put (nS f.p))) => P.rall_any A1 e1 (P.put (nS f.p)) W h HBt.out hc1 hbl)
  have HSq := Lib.hid (P.seq_all (ins_nS HOk.out HFw.out))
  obtain ⟨bs, hbs⟩ : ∃ bs, P.put (nS f.p) = bs := ⟨_, rfl⟩
  rw [hbs] at K3 HBt hbl HAl HSq
  rw [hbs]
  replace hbs := Lib.hid hbs
  clear ho hb hsl x0 x1 x2 x3 x4 x5 x6 x7 x8 x9 xl HBy HF2 HV3 HB3
  obtain ⟨x0, x1, x2, x3, x4, x5, x6, x7, x8, x9⟩ := scB_cell K3.out.F.b
  have xl := K3.out.F.lt
  go_upto_region 5 with fail
  have K4' := Lib.hid (K3.out.below (new_below w3 (.cells #[.int .i64 f.w, .int .i64 f.h, .int .u8 f.k.r, .int .u8 f.k.g, .int .u8 f.k.b, .int .u8 f.k.a, .slice f.vA f.vs.length f.vc, .slice f.tA f.ts.length f.tc, .slice f.pA f.ps.length f.pc, .slice f.dA f.ds.length f.dc] 33)))
  have G4 := Lib.hid (show (w3.alloc (.cells #[.int .i64 f.w, .int .i64 f.h, .int .u8 f.k.r, .int .u8 f.k.g, .int .u8 f.k.b, .int .u8 f.k.a, .slice f.vA f.vs.length f.vc, .slice f.tA f.ts.length f.tc, .slice f.pA f.ps.length f.pc, .slice f.dA f.ds.length f.dc] 33)).heap[w3.heap.size]? = some (scB f) from heap_alloc_new _ _)
  have A4 := Lib.hid (show f.at (w3.alloc (.cells #[.int .i64 f.w, .int .i64 f.h, .int .u8 f.k.r, .int .u8 f.k.g, .int .u8 f.k.b, .int .u8 f.k.a, .slice f.vA f.vs.length f.vc, .slice f.tA f.ts.length f.tc, .slice f.pA f.ps.length f.pc, .slice f.dA f.ds.length f.dc] 33)) w3.heap.size from K3.out.F.a.below (new_below w3 (.cells #[.int .i64 f.w, .int .i64 f.h, .int .u8 f.k.r, .int .u8 f.k.g, .int .u8 f.k.b, .int .u8 f.k.a, .slice f.vA f.vs.length f.vc, .slice f.tA f.ts.length f.tc, .slice f.pA f.ps.length f.pc, .slice f.dA f.ds.length f.dc] 33)))
  have N4 := Lib.hid (new_below w3 (.cells #[.int .i64 f.w, .int .i64 f.h, .int .u8 f.k.r, .int .u8 f.k.g, .int .u8 f.k.b, .int .u8 f.k.a, .slice f.vA f.vs.length f.vc, .slice f.tA f.ts.length f.tc, .slice f.pA f.ps.length f.pc, .slice f.dA f.ds.length f.dc] 33))
  have L4 : w3.heap.size < (w3.alloc (.cells #[.int .i64 f.w, .int .i64 f.h, .int .u8 f.k.r, .int .u8 f.k.g, .int .u8 f.k.b, .int .u8 f.k.a, .slice f.vA f.vs.length f.vc, .slice f.tA f.ts.length f.tc, .slice f.pA f.ps.length f.pc, .slice f.dA f.ds.length f.dc] 33)).heap.size := by simp
  have F4 : gF < w3.heap.size := K3.out.F.lt
  obtain ⟨u4, ht⟩ : ∃ t, w3.alloc (.cells #[.int .i64 f.w, .int .i64 f.h, .int .u8 f.k.r, .int .u8 f.k.g, .int .u8 f.k.b, .int .u8 f.k.a, .slice f.vA f.vs.length f.vc, .slice f.tA f.ts.length f.tc, .slice f.pA f.ps.length f.pc, .slice f.dA f.ds.length f.dc] 33) = t := ⟨_, rfl⟩
  rw [ht] at K4' G4 A4 L4 N4
  rw [ht]
  clear ht x0 x1 x2 x3 x4 x5 x6 x7 x8 x9 xl
  obtain ⟨x0, x1, x2, x3, x4, x5, x6, x7, x8, x9⟩ := scB_cell K4'.out.F.b
  obtain ⟨p0, p1, p2, p3, p4, p5, p6, p7⟩ := U.vB_cell K4'.out.V
  have NM1 := Lib.hid (show ¬ gF = w3.heap.size by omega)
  have NM2 := Lib.hid (show ¬ gV = w3.heap.size by have := U.vB_lt K3.out.V; omega)
  have hgF4 : gF < u4.heap.size := by omega
  have hgV4 : gV < u4.heap.size := U.vB_lt K4'.out.V
  have y0 : ∀ w', Om (fun b => b = w3.heap.size) u4 w' → w'.cell? ⟨gF, 6, none⟩ = some (.slice f.vA f.vs.length f.vc) := fun w' h => h.cell (by assumption) (NM1.out)
  have y1 : ∀ w', Om (fun b => b = w3.heap.size) u4 w' → w'.cell? ⟨gV, 0, none⟩ = some (.int .i64 v.x) := fun w' h => h.cell (by assumption) (NM2.out)
  have y2 : ∀ w', Om (fun b => b = w3.heap.size) u4 w' → w'.cell? ⟨gV, 1, none⟩ = some (.int .i64 v.y) := fun w' h => h.cell (by assumption) (NM2.out)
  have y3 : ∀ w', Om (fun b => b = w3.heap.size) u4 w' → w'.cell? ⟨gV, 2, none⟩ = some (.int .i64 v.z) := fun w' h => h.cell (by assumption) (NM2.out)
  have y4 : ∀ w', Om (fun b => b = w3.heap.size) u4 w' → w'.cell? ⟨gV, 3, none⟩ = some (.int .i64 v.w) := fun w' h => h.cell (by assumption) (NM2.out)
  have y5 : ∀ w', Om (fun b => b = w3.heap.size) u4 w' → w'.cell? ⟨gV, 4, none⟩ = some (.int .i64 v.a) := fun w' h => h.cell (by assumption) (NM2.out)
  have y6 : ∀ w', Om (fun b => b = w3.heap.size) u4 w' → w'.cell? ⟨gV, 5, none⟩ = some (.int .i64 v.b) := fun w' h => h.cell (by assumption) (NM2.out)
  have y7 : ∀ w', Om (fun b => b = w3.heap.size) u4 w' → w'.cell? ⟨gV, 6, none⟩ = some (.int .i64 v.c) := fun w' h => h.cell (by assumption) (NM2.out)
  have y8 : ∀ w', Om (fun b => b = w3.heap.size) u4 w' → w'.cell? ⟨gV, 7, none⟩ = some (.int .i64 v.d) := fun w' h => h.cell (by assumption) (NM2.out)
  refine wp_region_held_drew (S := fun w' => Om (fun b => b = w3.heap.size) u4 w') (by kernel_rfl) (om_drew _ _) (fun hS => ?_)
  have B_t0 := Lib.hid (show Below u4.heap.size u4 u4.drew from (Below.refl _ _).drew)
  have M_t0 := Lib.hid (om_drew (fun b => b = w3.heap.size) u4)
  generalize u4.drew = t0 at *
  refine wpAnyH_take (i := 1) (v := .pointer (some ⟨gF, 6, none⟩)) rfl (by kernel_rfl) (by kernel_rfl) (by kernel_rfl) (fun _ _ _ h => h) (Or.inl ⟨by rfl, fun w hw => by have z0 := y0 w hw; have z1 := y1 w hw; have z2 := y2 w hw; have z3 := y3 w hw; have z4 := y4 w hw; have z5 := y5 w hw; have z6 := y6 w hw; have z7 := y7 w hw; have z8 := y8 w hw; go_simp⟩) hS ?_
  try simp only [Act.put, List.setIfInBounds_toArray, List.set_cons_zero, List.set_cons_succ, List.getElem_toArray, List.getElem_cons_zero, List.getElem_cons_succ]
  refine wpAnyH_take (i := 2) (v := .slice f.vA f.vs.length f.vc) rfl (by kernel_rfl) (by kernel_rfl) (by kernel_rfl) (fun _ _ _ h => h) (Or.inl ⟨by rfl, fun w hw => by have z0 := y0 w hw; have z1 := y1 w hw; have z2 := y2 w hw; have z3 := y3 w hw; have z4 := y4 w hw; have z5 := y5 w hw; have z6 := y6 w hw; have z7 := y7 w hw; have z8 := y8 w hw; go_simp⟩) hS ?_
  try simp only [Act.put, List.setIfInBounds_toArray, List.set_cons_zero, List.set_cons_succ, List.getElem_toArray, List.getElem_cons_zero, List.getElem_cons_succ]
  refine wpAnyH_take (i := 4) (v := .agg #[.int .i64 v.x, .int .i64 v.y, .int .i64 v.z, .int .i64 v.w, .int .i64 v.a, .int .i64 v.b, .int .i64 v.c, .int .i64 v.d]) rfl (by kernel_rfl) (by kernel_rfl) (by kernel_rfl) (fun _ _ _ h => h) (Or.inl ⟨by rfl, fun w hw => by have z0 := y0 w hw; have z1 := y1 w hw; have z2 := y2 w hw; have z3 := y3 w hw; have z4 := y4 w hw; have z5 := y5 w hw; have z6 := y6 w hw; have z7 := y7 w hw; have z8 := y8 w hw; go_simp⟩) hS ?_
  try simp only [Act.put, List.setIfInBounds_toArray, List.set_cons_zero, List.set_cons_succ, List.getElem_toArray, List.getElem_cons_zero, List.getElem_cons_succ]
  refine wpAnyH_ready (rs := [0]) (by kernel_rfl) (by simp) ?_
  refine AllReadyH.cons rfl (fun K hK => ?_) AllReadyH.nil
  go_simp
  refine hK.out _ _ (M_t0.out.alloc _) (fun hS => ?_)
  clear hK K hS
  try simp only [Act.put, List.setIfInBounds_toArray, List.set_cons_zero, List.set_cons_succ, List.getElem_toArray, List.getElem_cons_zero, List.getElem_cons_succ]
  obtain ⟨t1, ht⟩ : ∃ t, t = t0.alloc (.cells #[] 43) := ⟨_, rfl⟩
  change wpAnyH _ _ _ _ _ _ _ _ (t0.alloc (.cells #[] 43))
  rw [← ht]
  have B_t1 := Lib.hid (show Below u4.heap.size u4 t1 by rw [ht]; exact B_t0.out.alloc B_t0.out.size _)
  have M_t1 := Lib.hid (show Om (fun b => b = w3.heap.size) u4 t1 by rw [ht]; exact M_t0.out.alloc _)
  have G_t1 := Lib.hid (show t1.heap[t0.heap.size]? = some (.cells #[] 43 (0, 0)) by rw [ht]; exact heap_alloc_new _ _)
  have Z_t1 : t1.heap.size = t0.heap.size + 1 := by rw [ht]; simp
  have hS := M_t1.out
  clear ht
  refine wpAnyH_ready (rs := [3]) (by kernel_rfl) (by simp) ?_
  refine AllReadyH.cons rfl (fun K hK => ?_) AllReadyH.nil
  rw [if_pos (by rfl)]
  refine opw_append_es RV (.tmp 22) (.tmp 24) f.vc rfl rfl rfl (show OwnE EV t1 u4.heap.size (.slice (some ⟨t0.heap.size, 0, none⟩) 0 0) [] from ⟨by simp [Elem.flat], .inr ⟨t0.heap.size, 0, #[], rfl, B_t0.out.size, G_t1.out, Nat.le_refl _, by unfold maxLen; omega, by simp, by simp [Elem.flat]⟩⟩) ((A4.out.v).below (B_t1.out.mono (by omega))) (by simp) (by omega) (by have := B_t1.out.size; omega) ?_
  intro v' t2 h1 h2 h3
  obtain ⟨hO, hB⟩ := ownE_app (xs := []) (show OwnE EV t1 u4.heap.size (.slice (some ⟨t0.heap.size, 0, none⟩) 0 0) [] from ⟨by simp [Elem.flat], .inr ⟨t0.heap.size, 0, #[], rfl, B_t0.out.size, G_t1.out, Nat.le_refl _, by unfold maxLen; omega, by simp, by simp [Elem.flat]⟩⟩) h1 h2 (by have := B_t1.out.size; omega)
  have B_t2 := Lib.hid (B_t1.out.trans hB)
  have M_t2 := Lib.hid (M_t1.out.bel hB)
  have O_t2 := Lib.hid (show OwnE EV t2 u4.heap.size v' f.vs from hO)
  clear h1 h2 h3 hO hB
  refine hK.out _ _ M_t2.out (fun hS => ?_)
  clear hK K
  try simp only [Act.put, List.setIfInBounds_toArray, List.set_cons_zero, List.set_cons_succ, List.getElem_toArray, List.getElem_cons_zero, List.getElem_cons_succ]
  refine wpAnyH_ready (rs := [5]) (by kernel_rfl) (by simp) ?_
  refine AllReadyH.cons rfl (fun K hK => ?_) AllReadyH.nil
  go_simp
  with_reducible refine (U.fit_any v t2).mono ?_
  rintro e t3 ⟨rfl, hb⟩
  have B_t3 := Lib.hid (bstep B_t2.out B_t2.out.size hb)
  have M_t3 := Lib.hid (M_t2.out.bel (hb.mono M_t2.out.1))
  have BRw := Lib.hid hb
  have ORow := O_t2
  clear hb
  refine hK.out _ _ M_t3.out (fun hS => ?_)
  clear hK K
  try simp only [Act.put, List.setIfInBounds_toArray, List.set_cons_zero, List.set_cons_succ, List.getElem_toArray, List.getElem_cons_zero, List.getElem_cons_succ]
  refine wpAnyH_ready (rs := [6]) (by kernel_rfl) (by simp) ?_
  refine AllReadyH.cons rfl (fun K hK => ?_) AllReadyH.nil
  go_simp
  refine hK.out _ _ (M_t3.out.alloc _) (fun hS => ?_)
  clear hK K hS
  try simp only [Act.put, List.setIfInBounds_toArray, List.set_cons_zero, List.set_cons_succ, List.getElem_toArray, List.getElem_cons_zero, List.getElem_cons_succ]
  obtain ⟨t4, ht⟩ : ∃ t, t = t3.alloc (.cells #[.int .i64 (U.fitV v).x, .int .i64 (U.fitV v).y, .int .i64 (U.fitV v).z, .int .i64 (U.fitV v).w, .int .i64 (U.fitV v).a, .int .i64 (U.fitV v).b, .int .i64 (U.fitV v).c, .int .i64 (U.fitV v).d] 43) := ⟨_, rfl⟩
  change wpAnyH _ _ _ _ _ _ _ _ (t3.alloc (.cells #[.int .i64 (U.fitV v).x, .int .i64 (U.fitV v).y, .int .i64 (U.fitV v).z, .int .i64 (U.fitV v).w, .int .i64 (U.fitV v).a, .int .i64 (U.fitV v).b, .int .i64 (U.fitV v).c, .int .i64 (U.fitV v).d] 43))
  rw [← ht]
  have B_t4 := Lib.hid (show Below u4.heap.size u4 t4 by rw [ht]; exact B_t3.out.alloc B_t3.out.size _)
  have M_t4 := Lib.hid (show Om (fun b => b = w3.heap.size) u4 t4 by rw [ht]; exact M_t3.out.alloc _)
  have G_t4 := Lib.hid (show t4.heap[t3.heap.size]? = some (.cells #[.int .i64 (U.fitV v).x, .int .i64 (U.fitV v).y, .int .i64 (U.fitV v).z, .int .i64 (U.fitV v).w, .int .i64 (U.fitV v).a, .int .i64 (U.fitV v).b, .int .i64 (U.fitV v).c, .int .i64 (U.fitV v).d] 43 (0, 0)) by rw [ht]; exact heap_alloc_new _ _)
  have Z_t4 : t4.heap.size = t3.heap.size + 1 := by rw [ht]; simp
  have BRow := Lib.hid (show Below t2.heap.size t2 t4 by rw [ht]; exact (BRw.out).alloc (BRw.out.size) _)
  have hS := M_t4.out
  clear ht
  refine wpAnyH_ready (rs := [7]) (by kernel_rfl) (by simp) ?_
  refine AllReadyH.cons rfl (fun K hK => ?_) AllReadyH.nil
  rw [if_pos (by rfl)]
  refine opw_append_len RV (.tmp 25) (.tmp 28) 1 1 (show [U.fitV v].length = 1 from rfl) rfl rfl rfl (ORow.out.keep BRow.out) (es_one (E := EV) (x := U.fitV v) (cs := #[.int .i64 (U.fitV v).x, .int .i64 (U.fitV v).y, .int .i64 (U.fitV v).z, .int .i64 (U.fitV v).w, .int .i64 (U.fitV v).a, .int .i64 (U.fitV v).b, .int .i64 (U.fitV v).c, .int .i64 (U.fitV v).d]) rfl G_t4.out) (by omega) (by simp) (by have := B_t4.out.size; omega) ?_
  intro v2 w7 h1 h2 h3
  obtain ⟨hO7, hB7⟩ := ownE_app (ORow.out.keep BRow.out) h1 h2 (by have := B_t4.out.size; omega)
  have hB7' := B_t4.out.trans hB7
  have M7 := Lib.hid (M_t4.out.bel hB7)
  have G7 := Lib.hid ((hB7'.block w3.heap.size L4).trans G4.out)
  have zf : w7.frozen? ⟨w3.heap.size, 6, none⟩ = false := scB_free G7.out 6
  obtain ⟨z0, z1, z2, z3, z4, z5, z6, z7, z8, z9⟩ := scB_cell G7.out
  have zg : w3.heap.size < w7.heap.size := scB_lt G7.out
  obtain ⟨A2, c2, rfl, hc2, hy, hbz⟩ := has_v A4.out L4 hB7' G4.out hO7
  obtain ⟨sc1, hy1⟩ : ∃ y, ({ f with vs := f.vs ++ [U.fitV v], vA := A2, vc := c2 } : Sc) = y := ⟨_, rfl⟩
  have HP1 := Lib.hid (show sc1.p = { f.p with vs := f.p.vs ++ [U.fitV v] } by rw [← hy1]; rfl)
  have HC1 := Lib.hid (show sc1.cap by rw [← hy1]; exact ⟨hc2, HCp.out.tc, fun l hl => (HCp.out.ts l hl).2.2.2, HCp.out.pc, fun l hl => (HCp.out.ps l hl).2, HCp.out.dc, fun l hl => (HCp.out.ds l hl).2⟩)
  rw [hy1] at hy
  obtain ⟨n2, hn2⟩ : ∃ n, (f.vs ++ [U.fitV v]).length = n := ⟨_, rfl⟩
  rw [hn2] at hy hbz
  rw [hn2]
  have HY5 := Lib.hid hy
  have HBZ5 := Lib.hid hbz
  clear h1 h2 h3 hO7 hB7 hB7' hy hbz hy1 hn2 hc2
  refine hK.out _ _ M7.out (fun hS => ?_)
  clear hK K
  try simp only [Act.put, List.setIfInBounds_toArray, List.set_cons_zero, List.set_cons_succ, List.getElem_toArray, List.getElem_cons_zero, List.getElem_cons_succ]
  refine wpAnyH_take (i := 8) (v := .pointer (some ⟨w3.heap.size, 6, none⟩)) rfl (by kernel_rfl) (by kernel_rfl) (by kernel_rfl) (fun _ _ _ h => h) (Or.inl ⟨by rfl, fun w hw => by go_simp⟩) hS ?_
  try simp only [Act.put, List.setIfInBounds_toArray, List.set_cons_zero, List.set_cons_succ, List.getElem_toArray, List.getElem_cons_zero, List.getElem_cons_succ]
  refine wpAnyH_ready (rs := [9]) (by kernel_rfl) (by simp) ?_
  refine AllReadyH.cons rfl (fun K hK => ?_) AllReadyH.nil
  go_simp
  refine hK.out _ _ (M7.out.set (.inl rfl)) (fun hS => ?_)
  clear hK K hS
  try simp only [Act.put, List.setIfInBounds_toArray, List.set_cons_zero, List.set_cons_succ, List.getElem_toArray, List.getElem_cons_zero, List.getElem_cons_succ]
  refine wpAnyH_done (by kernel_rfl) ?_ _
  go_upto_region 6 with fail
  have K5 := Lib.hid (K3.out.below (N4.out.trans HBZ5.out))
  obtain ⟨w5, hX⟩ : ∃ X, w7.setCell ⟨w3.heap.size, 6, none⟩ (.slice A2 n2 c2) = X := ⟨_, rfl⟩
  rw [hX] at K5 HY5 HBZ5
  rw [hX]
  clear hX
  generalize w3.heap.size = g1 at *
  clear x0 x1 x2 x3 x4 x5 x6 x7 x8 x9 p0 p1 p2 p3 p4 p5 p6 p7 z0 z1 z2 z3 z4 z5 z6 z7 z8 z9 zf zg M7 G7 NM1 NM2 hgF4 hgV4 L4 F4 A4 G4 N4 y0 y1 y2 y3 y4 y5 y6 y7 y8
  obtain ⟨x0, x1, x2, x3, x4, x5, x6, x7, x8, x9⟩ := scB_cell K5.out.F.b
  have xl := K5.out.F.lt
  go_upto_region 7 with fail
  have K6' := Lib.hid (K5.out.below (new_below w5 (.cells #[.int .i64 f.w, .int .i64 f.h, .int .u8 f.k.r, .int .u8 f.k.g, .int .u8 f.k.b, .int .u8 f.k.a, .slice f.vA f.vs.length f.vc, .slice f.tA f.ts.length f.tc, .slice f.pA f.ps.length f.pc, .slice f.dA f.ds.length f.dc] 33)))
  have G6 := Lib.hid (show (w5.alloc (.cells #[.int .i64 f.w, .int .i64 f.h, .int .u8 f.k.r, .int .u8 f.k.g, .int .u8 f.k.b, .int .u8 f.k.a, .slice f.vA f.vs.length f.vc, .slice f.tA f.ts.length f.tc, .slice f.pA f.ps.length f.pc, .slice f.dA f.ds.length f.dc] 33)).heap[w5.heap.size]? = some (scB f) from heap_alloc_new _ _)
  have A6 := Lib.hid (show f.at (w5.alloc (.cells #[.int .i64 f.w, .int .i64 f.h, .int .u8 f.k.r, .int .u8 f.k.g, .int .u8 f.k.b, .int .u8 f.k.a, .slice f.vA f.vs.length f.vc, .slice f.tA f.ts.length f.tc, .slice f.pA f.ps.length f.pc, .slice f.dA f.ds.length f.dc] 33)) w5.heap.size from K5.out.F.a.below (new_below w5 (.cells #[.int .i64 f.w, .int .i64 f.h, .int .u8 f.k.r, .int .u8 f.k.g, .int .u8 f.k.b, .int .u8 f.k.a, .slice f.vA f.vs.length f.vc, .slice f.tA f.ts.length f.tc, .slice f.pA f.ps.length f.pc, .slice f.dA f.ds.length f.dc] 33)))
  have N6 := Lib.hid (new_below w5 (.cells #[.int .i64 f.w, .int .i64 f.h, .int .u8 f.k.r, .int .u8 f.k.g, .int .u8 f.k.b, .int .u8 f.k.a, .slice f.vA f.vs.length f.vc, .slice f.tA f.ts.length f.tc, .slice f.pA f.ps.length f.pc, .slice f.dA f.ds.length f.dc] 33))
  have L6 : w5.heap.size < (w5.alloc (.cells #[.int .i64 f.w, .int .i64 f.h, .int .u8 f.k.r, .int .u8 f.k.g, .int .u8 f.k.b, .int .u8 f.k.a, .slice f.vA f.vs.length f.vc, .slice f.tA f.ts.length f.tc, .slice f.pA f.ps.length f.pc, .slice f.dA f.ds.length f.dc] 33)).heap.size := by simp
  have HY6 := Lib.hid (HY5.out.below (new_below w5 (.cells #[.int .i64 f.w, .int .i64 f.h, .int .u8 f.k.r, .int .u8 f.k.g, .int .u8 f.k.b, .int .u8 f.k.a, .slice f.vA f.vs.length f.vc, .slice f.tA f.ts.length f.tc, .slice f.pA f.ps.length f.pc, .slice f.dA f.ds.length f.dc] 33)))
  have F6 : gF < w5.heap.size := K5.out.F.lt
  obtain ⟨u6, ht⟩ : ∃ t, w5.alloc (.cells #[.int .i64 f.w, .int .i64 f.h, .int .u8 f.k.r, .int .u8 f.k.g, .int .u8 f.k.b, .int .u8 f.k.a, .slice f.vA f.vs.length f.vc, .slice f.tA f.ts.length f.tc, .slice f.pA f.ps.length f.pc, .slice f.dA f.ds.length f.dc] 33) = t := ⟨_, rfl⟩
  rw [ht] at HY6 K6' G6 A6 L6 N6
  rw [ht]
  clear ht x0 x1 x2 x3 x4 x5 x6 x7 x8 x9 xl
  have E6 := Lib.hid (ownE_empty (E := ET) (base := u6.heap.size) u6 (Nat.le_refl _))
  obtain ⟨x0, x1, x2, x3, x4, x5, x6, x7, x8, x9⟩ := scB_cell K6'.out.F.b
  have xl := K6'.out.F.lt
  go_upto_region 8 with (at_builtin; first
    | (refine wpList_append_es rfl RT _ _ f.tc rfl rfl rfl E6.out (A6.out.t.below (((Below.refl _ _).alloc (Nat.le_refl _) _).mono (Nat.le_of_lt L6))) (by simp) (by omega) (by simp) ?_; intro v' w7 h1 h2 h3; obtain ⟨hO, hB⟩ := ownE_app (xs := []) E6.out h1 h2 (by simp); have O7 := Lib.hid (show OwnE ET w7 u6.heap.size v' f.ts from hO); have B7 := Lib.hid ((new_below u6 (.cells #[] 49)).trans hB); have S7 := Lib.hid B7.out.size; clear h1 h2 h3 hO hB; obtain ⟨A5, c5, rfl, -, -, -⟩ := O7.out.es)
    | (refine wpList_append_len rfl RT _ _ 1 1 (show [(⟨t9, some ⟨w7.heap.size, 0, none⟩, 1⟩ : Lo Tx)].length = 1 from rfl) rfl rfl rfl (O7.out.keep (bstep (new_below w7 (.cells #[.int .u8 0, .int .u8 0, .int .u8 0, .int .u8 9] 27)) (by simp) (new_below (w7.alloc (.cells #[.int .u8 0, .int .u8 0, .int .u8 0, .int .u8 9] 27)) (.cells #[.int .i64 1, .int .i64 1, .slice (some ⟨w7.heap.size, 0, none⟩) 1 1] 49)))) (es_one (E := ET) (x := ⟨t9, some ⟨w7.heap.size, 0, none⟩, 1⟩) (cs := #[.int .i64 1, .int .i64 1, .slice (some ⟨w7.heap.size, 0, none⟩) 1 1]) rfl (by first | exact heap_alloc_new _ _ | (have h := heap_alloc_new (w7.alloc (.cells #[.int .u8 0, .int .u8 0, .int .u8 0, .int .u8 9] 27)) (.cells #[.int .i64 1, .int .i64 1, .slice (some ⟨w7.heap.size, 0, none⟩) 1 1] 49); rw [World.size_alloc] at h; exact h))) (by omega) (by simp) (by have := S7.out; simp; omega) ?_; intro v2 w8 h1 h2 h3; obtain ⟨hO8, hB8⟩ := ownE_app (O7.out.keep (bstep (new_below w7 (.cells #[.int .u8 0, .int .u8 0, .int .u8 0, .int .u8 9] 27)) (by simp) (new_below (w7.alloc (.cells #[.int .u8 0, .int .u8 0, .int .u8 0, .int .u8 9] 27)) (.cells #[.int .i64 1, .int .i64 1, .slice (some ⟨w7.heap.size, 0, none⟩) 1 1] 49)))) h1 h2 (by have := S7.out; simp; omega); have hpx := px_keep (g := w5.heap.size) O7.out (by have := S7.out; omega) h2; have hB8' := (bstep B7.out B7.out.size (bstep (new_below w7 (.cells #[.int .u8 0, .int .u8 0, .int .u8 0, .int .u8 9] 27)) (by simp) (new_below (w7.alloc (.cells #[.int .u8 0, .int .u8 0, .int .u8 0, .int .u8 9] 27)) (.cells #[.int .i64 1, .int .i64 1, .slice (some ⟨w7.heap.size, 0, none⟩) 1 1] 49)))).trans hB8; have G8 := Lib.hid ((hB8'.block w5.heap.size L6).trans G6.out); have zf : w8.frozen? ⟨w5.heap.size, 7, none⟩ = false := scB_free G8.out 7; obtain ⟨z0, z1, z2, z3, z4, z5, z6, z7, z8, z9⟩ := scB_cell G8.out; have zg : w5.heap.size < w8.heap.size := scB_lt G8.out; obtain ⟨A3, c3, rfl, hc2, hy, hbz⟩ := has_t A6.out L6 hB8' G6.out hO8 (snoc_all (in_t A6.out (hB8'.mono (Nat.le_of_lt L6))) hpx)))
  obtain ⟨sc2, hy1⟩ : ∃ y, ({ f with ts := f.ts ++ [⟨t9, some ⟨w7.heap.size, 0, none⟩, 1⟩], tA := A3, tc := c3 } : Sc) = y := ⟨_, rfl⟩
  have HP2 := Lib.hid (show sc2.p = { f.p with ts := f.p.ts ++ [t9] } by rw [← hy1]; exact congrArg (fun l => (⟨f.w, f.h, f.k, f.vs, l, f.ps.map Lo.x, f.ds.map Lo.x⟩ : PS)) (List.map_append (f := Lo.x) (l₁ := f.ts) (l₂ := [⟨t9, some ⟨w7.heap.size, 0, none⟩, 1⟩])))
  have HC2 := Lib.hid (show sc2.cap by rw [← hy1]; exact ⟨HCp.out.vc, hc2, snoc_all (fun l hl => (HCp.out.ts l hl).2.2.2) (Nat.le_refl 1), HCp.out.pc, fun l hl => (HCp.out.ps l hl).2, HCp.out.dc, fun l hl => (HCp.out.ds l hl).2⟩)
  rw [hy1] at hy
  obtain ⟨n3, hn2⟩ : ∃ n, (f.ts ++ [(⟨t9, some ⟨w7.heap.size, 0, none⟩, 1⟩ : Lo Tx)]).length = n := ⟨_, rfl⟩
  rw [hn2] at hy hbz
  have hn2' : f.ts.length + 1 = n3 := by rw [← hn2]; simp
  rw [← hn2'] at hy hbz
  have HY7 := Lib.hid hy
  have HBZ7 := Lib.hid hbz
  clear hy hbz hn2 hn2' hy1 hc2 h1 h2 h3 hO8 hB8 hB8' hpx
  have HQ7 := Lib.hid (HY5.out.below (N6.out.trans HBZ7.out))
  have K7 := Lib.hid (K5.out.below (N6.out.trans HBZ7.out))
  obtain ⟨w7, hX⟩ : ∃ X, w8.setCell ⟨w5.heap.size, 7, none⟩ (.slice A3 (f.ts.length + 1) c3) = X := ⟨_, rfl⟩
  rw [hX] at HQ7 K7 HY7 HBZ7
  rw [hX]
  clear hX
  generalize w5.heap.size = g2 at *
  clear x0 x1 x2 x3 x4 x5 x6 x7 x8 x9 xl z0 z1 z2 z3 z4 z5 z6 z7 z8 z9 zf zg G8 L6 F6 A6 G6 E6 B7 S7 O7
  clear N6 HY6 HY5
  obtain ⟨x0, x1, x2, x3, x4, x5, x6, x7, x8, x9⟩ := scB_cell K7.out.F.b
  have xl := K7.out.F.lt
  go_upto_region 9 with fail
  have K8' := Lib.hid (K7.out.below (new_below w7 (.cells #[.int .i64 f.w, .int .i64 f.h, .int .u8 f.k.r, .int .u8 f.k.g, .int .u8 f.k.b, .int .u8 f.k.a, .slice f.vA f.vs.length f.vc, .slice f.tA f.ts.length f.tc, .slice f.pA f.ps.length f.pc, .slice f.dA f.ds.length f.dc] 33)))
  have G8 := Lib.hid (show (w7.alloc (.cells #[.int .i64 f.w, .int .i64 f.h, .int .u8 f.k.r, .int .u8 f.k.g, .int .u8 f.k.b, .int .u8 f.k.a, .slice f.vA f.vs.length f.vc, .slice f.tA f.ts.length f.tc, .slice f.pA f.ps.length f.pc, .slice f.dA f.ds.length f.dc] 33)).heap[w7.heap.size]? = some (scB f) from heap_alloc_new _ _)
  have A8 := Lib.hid (show f.at (w7.alloc (.cells #[.int .i64 f.w, .int .i64 f.h, .int .u8 f.k.r, .int .u8 f.k.g, .int .u8 f.k.b, .int .u8 f.k.a, .slice f.vA f.vs.length f.vc, .slice f.tA f.ts.length f.tc, .slice f.pA f.ps.length f.pc, .slice f.dA f.ds.length f.dc] 33)) w7.heap.size from K7.out.F.a.below (new_below w7 (.cells #[.int .i64 f.w, .int .i64 f.h, .int .u8 f.k.r, .int .u8 f.k.g, .int .u8 f.k.b, .int .u8 f.k.a, .slice f.vA f.vs.length f.vc, .slice f.tA f.ts.length f.tc, .slice f.pA f.ps.length f.pc, .slice f.dA f.ds.length f.dc] 33)))
  have N8 := Lib.hid (new_below w7 (.cells #[.int .i64 f.w, .int .i64 f.h, .int .u8 f.k.r, .int .u8 f.k.g, .int .u8 f.k.b, .int .u8 f.k.a, .slice f.vA f.vs.length f.vc, .slice f.tA f.ts.length f.tc, .slice f.pA f.ps.length f.pc, .slice f.dA f.ds.length f.dc] 33))
  have L8 : w7.heap.size < (w7.alloc (.cells #[.int .i64 f.w, .int .i64 f.h, .int .u8 f.k.r, .int .u8 f.k.g, .int .u8 f.k.b, .int .u8 f.k.a, .slice f.vA f.vs.length f.vc, .slice f.tA f.ts.length f.tc, .slice f.pA f.ps.length f.pc, .slice f.dA f.ds.length f.dc] 33)).heap.size := by simp
  have HY8 := Lib.hid (HY7.out.below (new_below w7 (.cells #[.int .i64 f.w, .int .i64 f.h, .int .u8 f.k.r, .int .u8 f.k.g, .int .u8 f.k.b, .int .u8 f.k.a, .slice f.vA f.vs.length f.vc, .slice f.tA f.ts.length f.tc, .slice f.pA f.ps.length f.pc, .slice f.dA f.ds.length f.dc] 33)))
  have HQ8 := Lib.hid (HQ7.out.below (new_below w7 (.cells #[.int .i64 f.w, .int .i64 f.h, .int .u8 f.k.r, .int .u8 f.k.g, .int .u8 f.k.b, .int .u8 f.k.a, .slice f.vA f.vs.length f.vc, .slice f.tA f.ts.length f.tc, .slice f.pA f.ps.length f.pc, .slice f.dA f.ds.length f.dc] 33)))
  have F8 : gF < w7.heap.size := K7.out.F.lt
  obtain ⟨u8, ht⟩ : ∃ t, w7.alloc (.cells #[.int .i64 f.w, .int .i64 f.h, .int .u8 f.k.r, .int .u8 f.k.g, .int .u8 f.k.b, .int .u8 f.k.a, .slice f.vA f.vs.length f.vc, .slice f.tA f.ts.length f.tc, .slice f.pA f.ps.length f.pc, .slice f.dA f.ds.length f.dc] 33) = t := ⟨_, rfl⟩
  rw [ht] at HY8 HQ8 K8' G8 A8 L8 N8
  rw [ht]
  clear ht x0 x1 x2 x3 x4 x5 x6 x7 x8 x9 xl
  have E8 := Lib.hid (ownE_empty (E := ED) (base := u8.heap.size) u8 (Nat.le_refl _))
  obtain ⟨x0, x1, x2, x3, x4, x5, x6, x7, x8, x9⟩ := scB_cell K8'.out.F.b
  have xl := K8'.out.F.lt
  go_upto_region 10 with (at_builtin; first
    | (refine wpList_append_es rfl RD _ _ f.dc rfl rfl rfl E8.out (A8.out.d.below (((Below.refl _ _).alloc (Nat.le_refl _) _).mono (Nat.le_of_lt L8))) (by simp) (by omega) (by simp) ?_; intro v' w9 h1 h2 h3; obtain ⟨hO, hB⟩ := ownE_app (xs := []) E8.out h1 h2 (by simp); have O9 := Lib.hid (show OwnE ED w9 u8.heap.size v' f.ds from hO); have B9 := Lib.hid ((new_below u8 (.cells #[] 52)).trans hB); have S9 := Lib.hid B9.out.size; clear h1 h2 h3 hO hB; obtain ⟨A5, c5, rfl, -, -, -⟩ := O9.out.es)
    | (refine wpList_append_len rfl RD _ _ 1 1 (show [(⟨d9, none, 0⟩ : Lo Dr)].length = 1 from rfl) rfl rfl rfl (O9.out.keep (new_below w9 (.cells #[.int .i64 9998, .int .i64 0, .int .i64 (-1), .bool false, .slice none 0 0] 52))) (es_one (E := ED) (x := ⟨d9, none, 0⟩) (cs := #[.int .i64 9998, .int .i64 0, .int .i64 (-1), .bool false, .slice none 0 0]) rfl (heap_alloc_new _ _)) (by omega) (by simp) (by have := S9.out; simp; omega) ?_; intro v2 wA h1 h2 h3; obtain ⟨hO8, hB8⟩ := ownE_app (O9.out.keep (new_below w9 (.cells #[.int .i64 9998, .int .i64 0, .int .i64 (-1), .bool false, .slice none 0 0] 52))) h1 h2 (by have := S9.out; simp; omega); have hB8' := (bstep B9.out B9.out.size (new_below w9 (.cells #[.int .i64 9998, .int .i64 0, .int .i64 (-1), .bool false, .slice none 0 0] 52))).trans hB8; have G9 := Lib.hid ((hB8'.block w7.heap.size L8).trans G8.out); have zf : wA.frozen? ⟨w7.heap.size, 9, none⟩ = false := scB_free G9.out 9; obtain ⟨z0, z1, z2, z3, z4, z5, z6, z7, z8, z9⟩ := scB_cell G9.out; have zg : w7.heap.size < wA.heap.size := scB_lt G9.out; obtain ⟨A4, c4, rfl, hc2, hy, hbz⟩ := has_d A8.out L8 hB8' G8.out hO8 (snoc_all (in_d A8.out (hB8'.mono (Nat.le_of_lt L8))) EsP.nil)))
  obtain ⟨sc3, hy1⟩ : ∃ y, ({ f with ds := f.ds ++ [⟨d9, none, 0⟩], dA := A4, dc := c4 } : Sc) = y := ⟨_, rfl⟩
  have HP3 := Lib.hid (show sc3.p = { f.p with ds := f.p.ds ++ [d9] } by rw [← hy1]; exact congrArg (fun l => (⟨f.w, f.h, f.k, f.vs, f.ts.map Lo.x, f.ps.map Lo.x, l⟩ : PS)) (List.map_append (f := Lo.x) (l₁ := f.ds) (l₂ := [⟨d9, none, 0⟩])))
  have HC3 := Lib.hid (show sc3.cap by rw [← hy1]; exact ⟨HCp.out.vc, HCp.out.tc, fun l hl => (HCp.out.ts l hl).2.2.2, HCp.out.pc, fun l hl => (HCp.out.ps l hl).2, hc2, snoc_all (fun l hl => (HCp.out.ds l hl).2) (Nat.le_refl 0)⟩)
  rw [hy1] at hy
  obtain ⟨n4, hn2⟩ : ∃ n, (f.ds ++ [(⟨d9, none, 0⟩ : Lo Dr)]).length = n := ⟨_, rfl⟩
  rw [hn2] at hy hbz
  have hn2' : f.ds.length + 1 = n4 := by rw [← hn2]; simp
  rw [← hn2'] at hy hbz
  have HY9 := Lib.hid hy
  have HBZ9 := Lib.hid hbz
  clear hy hbz hn2 hn2' hy1 hc2 h1 h2 h3 hO8 hB8 hB8'
  have HX9 := Lib.hid (HQ7.out.below (N8.out.trans HBZ9.out))
  have HQ9 := Lib.hid (HY7.out.below (N8.out.trans HBZ9.out))
  have K9 := Lib.hid (K7.out.below (N8.out.trans HBZ9.out))
  obtain ⟨w9, hX⟩ : ∃ X, wA.setCell ⟨w7.heap.size, 9, none⟩ (.slice A4 (f.ds.length + 1) c4) = X := ⟨_, rfl⟩
  rw [hX] at HX9 HQ9 K9 HY9 HBZ9
  rw [hX]
  clear hX
  generalize w7.heap.size = g3 at *
  clear x0 x1 x2 x3 x4 x5 x6 x7 x8 x9 xl z0 z1 z2 z3 z4 z5 z6 z7 z8 z9 zf zg G9 L8 F8 A8 G8 E8 B9 S9 O9
  clear N8 HY8 HQ8 HQ7 HY7
  obtain ⟨x0, x1, x2, x3, x4, x5, x6, x7, x8, x9⟩ := scB_cell K9.out.F.b
  have xl := K9.out.F.lt
  go_upto_region 11 with fail
  have Kb' := Lib.hid (K9.out.below (new_below w9 (.cells #[.int .i64 f.w, .int .i64 f.h, .int .u8 f.k.r, .int .u8 f.k.g, .int .u8 f.k.b, .int .u8 f.k.a, .slice f.vA f.vs.length f.vc, .slice f.tA f.ts.length f.tc, .slice f.pA f.ps.length f.pc, .slice f.dA f.ds.length f.dc] 33)))
  have Gb := Lib.hid (show (w9.alloc (.cells #[.int .i64 f.w, .int .i64 f.h, .int .u8 f.k.r, .int .u8 f.k.g, .int .u8 f.k.b, .int .u8 f.k.a, .slice f.vA f.vs.length f.vc, .slice f.tA f.ts.length f.tc, .slice f.pA f.ps.length f.pc, .slice f.dA f.ds.length f.dc] 33)).heap[w9.heap.size]? = some (scB f) from heap_alloc_new _ _)
  have Ab := Lib.hid (show f.at (w9.alloc (.cells #[.int .i64 f.w, .int .i64 f.h, .int .u8 f.k.r, .int .u8 f.k.g, .int .u8 f.k.b, .int .u8 f.k.a, .slice f.vA f.vs.length f.vc, .slice f.tA f.ts.length f.tc, .slice f.pA f.ps.length f.pc, .slice f.dA f.ds.length f.dc] 33)) w9.heap.size from K9.out.F.a.below (new_below w9 (.cells #[.int .i64 f.w, .int .i64 f.h, .int .u8 f.k.r, .int .u8 f.k.g, .int .u8 f.k.b, .int .u8 f.k.a, .slice f.vA f.vs.length f.vc, .slice f.tA f.ts.length f.tc, .slice f.pA f.ps.length f.pc, .slice f.dA f.ds.length f.dc] 33)))
  have Nb := Lib.hid (new_below w9 (.cells #[.int .i64 f.w, .int .i64 f.h, .int .u8 f.k.r, .int .u8 f.k.g, .int .u8 f.k.b, .int .u8 f.k.a, .slice f.vA f.vs.length f.vc, .slice f.tA f.ts.length f.tc, .slice f.pA f.ps.length f.pc, .slice f.dA f.ds.length f.dc] 33))
  have Lb : w9.heap.size < (w9.alloc (.cells #[.int .i64 f.w, .int .i64 f.h, .int .u8 f.k.r, .int .u8 f.k.g, .int .u8 f.k.b, .int .u8 f.k.a, .slice f.vA f.vs.length f.vc, .slice f.tA f.ts.length f.tc, .slice f.pA f.ps.length f.pc, .slice f.dA f.ds.length f.dc] 33)).heap.size := by simp
  have HYb := Lib.hid (HY9.out.below (new_below w9 (.cells #[.int .i64 f.w, .int .i64 f.h, .int .u8 f.k.r, .int .u8 f.k.g, .int .u8 f.k.b, .int .u8 f.k.a, .slice f.vA f.vs.length f.vc, .slice f.tA f.ts.length f.tc, .slice f.pA f.ps.length f.pc, .slice f.dA f.ds.length f.dc] 33)))
  have HXb := Lib.hid (HX9.out.below (new_below w9 (.cells #[.int .i64 f.w, .int .i64 f.h, .int .u8 f.k.r, .int .u8 f.k.g, .int .u8 f.k.b, .int .u8 f.k.a, .slice f.vA f.vs.length f.vc, .slice f.tA f.ts.length f.tc, .slice f.pA f.ps.length f.pc, .slice f.dA f.ds.length f.dc] 33)))
  have HQb := Lib.hid (HQ9.out.below (new_below w9 (.cells #[.int .i64 f.w, .int .i64 f.h, .int .u8 f.k.r, .int .u8 f.k.g, .int .u8 f.k.b, .int .u8 f.k.a, .slice f.vA f.vs.length f.vc, .slice f.tA f.ts.length f.tc, .slice f.pA f.ps.length f.pc, .slice f.dA f.ds.length f.dc] 33)))
  have Fb : gF < w9.heap.size := K9.out.F.lt
  obtain ⟨ub, ht⟩ : ∃ t, w9.alloc (.cells #[.int .i64 f.w, .int .i64 f.h, .int .u8 f.k.r, .int .u8 f.k.g, .int .u8 f.k.b, .int .u8 f.k.a, .slice f.vA f.vs.length f.vc, .slice f.tA f.ts.length f.tc, .slice f.pA f.ps.length f.pc, .slice f.dA f.ds.length f.dc] 33) = t := ⟨_, rfl⟩
  rw [ht] at HYb HXb HQb Kb' Gb Ab Lb Nb
  rw [ht]
  clear ht x0 x1 x2 x3 x4 x5 x6 x7 x8 x9 xl
  obtain ⟨z0, z1, z2, z3, z4, z5, z6, z7, z8, z9⟩ := scB_cell Gb.out
  have zf : ub.frozen? ⟨w9.heap.size, 9, none⟩ = false := scB_free Gb.out 9
  have zg := scB_lt Gb.out
  go_upto_region 12 with fail
  have G0 := Lib.hid (show (ub.setCell ⟨w9.heap.size, 9, none⟩ (.slice none 0 0)).heap[w9.heap.size]? = some (ouB f.w f.h f.k (.slice f.vA f.vs.length f.vc) (.slice f.tA f.ts.length f.tc) (.slice f.pA f.ps.length f.pc) (.slice none 0 0)) from ouB_set9 (W := f.w) (H := f.h) (k := f.k) _ Gb.out)
  have B0 := Lib.hid (Nb.out.setCell (p := ⟨w9.heap.size, 9, none⟩) (Nat.le_refl _) (.slice none 0 0))
  have L0 : w9.heap.size < (ub.setCell ⟨w9.heap.size, 9, none⟩ (.slice none 0 0)).heap.size := by simpa using Lb
  obtain ⟨X0, hX⟩ : ∃ X, ub.setCell ⟨w9.heap.size, 9, none⟩ (.slice none 0 0) = X := ⟨_, rfl⟩
  rw [hX] at G0 B0 L0
  rw [hX]
  clear hX Gb Nb Kb' HYb HXb HQb Ab Lb z0 z1 z2 z3 z4 z5 z6 z7 z8 z9 zf zg
  obtain ⟨nd, hnd⟩ : ∃ n, f.ds.length = n := ⟨_, rfl⟩
  have hnd8 : nd ≤ 8 := by omega
  have HS := Lib.hid (show ∀ wr, Below w9.heap.size X0 wr → wr.cell? ⟨gF, 9, none⟩ = some (.slice f.dA nd f.dc) from fun wr hb => by
    have h2 := (scB_cell ((K9.out.below (B0.out.trans hb)).F.b)).2.2.2.2.2.2.2.2.2
    rwa [hnd] at h2)
  have EDs := Lib.hid (show Es ED X0 w9.heap.size f.dA f.ds from K9.out.F.a.d.below B0.out)
  have LD := Lib.hid (fun (k : Nat) (h : k < nd) => get_lt (l := f.ds) (k := k) (by rw [hnd]; exact h))
  have wk : IntKind.i64.wrap ((nd : Int) - 1) = nd - 1 := by rw [IntKind.wrap_i64]; omega
  have hgF0 : gF < X0.heap.size := by omega
  have hnd' := hnd
  replace hnd := Lib.hid hnd
  clear hnd'
  have s9 := HS.out X0 (Below.refl _ _)
  generalize hgB : w9.heap.size = gB at *
  go_upto_region 13 with fail
  go_loopw [12] (fun i wr => ∃ (r : Nat) (z : Int) (vv : Value) (ls : List (Lo Dr)), r ≤ nd ∧ i = .int .i64 z ∧ z + 1 = r ∧ ls = (f.ds.drop r).reverse ∧ OwnE ED wr X0.heap.size vv ls ∧ X0.heap.size ≤ wr.heap.size ∧ wr.heap[gB]? = some (ouB f.w f.h f.k (.slice f.vA f.vs.length f.vc) (.slice f.tA f.ts.length f.tc) (.slice f.pA f.ps.length f.pc) vv) ∧ Below gB X0 wr) (fun i _ => (intOf i + 1).toNat)
  case atStart => exact ⟨nd, (nd : Int) - 1, _, [], Nat.le_refl _, rfl, by omega, by rw [List.drop_of_length_le (by rw [hnd.out]; exact Nat.le_refl _)]; rfl, OwnE.nil _ _, Nat.le_refl _, G0.out, Below.refl _ _⟩
  case round =>
    obtain ⟨r, z, vv, ls, hr, rfl, hz, hx, ho, hs, hK, hB⟩ := hrel
    have HX := Lib.hid hx
    have HN := Lib.hid ho
    have HG := Lib.hid hK
    have HBr := Lib.hid hB
    have hll : ls.length ≤ 8 := by
      rw [hx, List.length_reverse, List.length_drop, hnd.out]
      omega
    clear hx ho hK hB wk
    by_cases hr0 : r = 0
    · obtain rfl : z = -1 := by omega
      rw [hr0] at HX
      clear hr0 hz hr s9
      obtain ⟨A6, c6, hv6, hc6, -, hE6⟩ := HN.out.es
      subst hv6
      have hls : ls = f.ds.reverse := by rw [HX.out, List.drop_zero]
      have hBr' : Below w9.heap.size w9 wr := by rw [hgB]; exact B0.out.trans HBr.out
      have Kr := Lib.hid (K9.out.below hBr')
      have HY3 := Lib.hid (HY9.out.below hBr')
      have HY2 := Lib.hid (HQ9.out.below hBr')
      have HY1 := Lib.hid (HX9.out.below hBr')
      obtain ⟨sc4, hy1⟩ : ∃ y, ({ f with ds := ls, dA := A6, dc := c6 } : Sc) = y := ⟨_, rfl⟩
      have HP4 := Lib.hid (show sc4.p = { f.p with ds := f.p.ds.reverse } by rw [← hy1, hls]; exact congrArg (fun l => (⟨f.w, f.h, f.k, f.vs, f.ts.map Lo.x, f.ps.map Lo.x, l⟩ : PS)) (List.map_reverse (f := Lo.x) (l := f.ds)))
      have HC4 := Lib.hid (show sc4.cap by rw [← hy1]; exact ⟨HCp.out.vc, HCp.out.tc, fun l hl => (HCp.out.ts l hl).2.2.2, HCp.out.pc, fun l hl => (HCp.out.ps l hl).2, hc6, fun l hl => (HCp.out.ds l (by rw [hls] at hl; exact List.mem_reverse.1 hl)).2⟩)
      have HB4 := Lib.hid (show Has gB sc4 wr by rw [← hy1]; exact ⟨HG.out, ⟨Kr.out.F.a.v, Kr.out.F.a.t, Kr.out.F.a.tx, Kr.out.F.a.p, Kr.out.F.a.px, (ownE_es HN.out).2.2, fun l hl => Kr.out.F.a.dx l (by rw [hls] at hl; exact List.mem_reverse.1 hl)⟩⟩)
      have HC1' := Lib.hid (fun W (h : Has g1 sc1 W) => bytes_any sc1 (ok_of HP1.out (v_ok HOk.out HVi.out) HC1.out) (few_of HP1.out (few_len (by rw [len_v]; have := HL.out; omega))) W h.a (by rw [HP1.out, len_v]; have := HL.out; omega))
      have HC2' := Lib.hid (fun W (h : Has g2 sc2 W) => bytes_any sc2 (ok_of HP2.out (tx_ok HOk.out) HC2.out) (few_of HP2.out (few_len (by rw [len_t]; have := HL.out; omega))) W h.a (by rw [HP2.out, len_t]; have := HL.out; omega))
      have HC3' := Lib.hid (fun W (h : Has g3 sc3 W) => bytes_any sc3 (ok_of HP3.out (dx_ok HOk.out) HC3.out) (few_of HP3.out (few_len (by rw [len_d]; have := HL.out; omega))) W h.a (by rw [HP3.out, len_d]; have := HL.out; omega))
      have HC4' := Lib.hid (bytes_any sc4 (ok_of HP4.out (rev_ok HOk.out) HC4.out) (few_of HP4.out (rev_few HFw.out)) wr HB4.out.a (by rw [HP4.out, len_r]; have := HL.out; omega))
      have hl1 : bs.length + 8 ≤ (P.put (nS sc1.p)).length := by rw [HP1.out, ← hbs.out]; exact more_v f.p HVi.out
      have hl2 : bs.length + 7 ≤ (P.put (nS sc2.p)).length := by rw [HP2.out, ← hbs.out]; exact more_t f.p
      have hl3 : bs.length + 5 ≤ (P.put (nS sc3.p)).length := by rw [HP3.out, ← hbs.out]; exact more_d f.p
      have hl4 : (P.put (nS sc4.p)).length = bs.length := by rw [HP4.out, ← hbs.out]; exact rev_len f.p
      have HEq := Lib.hid (show P.put (nS sc4.p) = bs ↔ nd < 2 by
        rw [HP4.out, ← hbs.out, rev_eq HOk.out HFw.out HCk.out, show f.p.ds.length = f.ds.length from List.length_map _, hnd.out])
      have HB4t := Lib.hid (P.put_byt (nS sc4.p))
      clear hy1 hls hBr' hE6 hc6
      generalize P.put (nS sc1.p) = bs1 at *
      generalize P.put (nS sc2.p) = bs2 at *
      generalize P.put (nS sc3.p) = bs3 at *
      generalize P.put (nS sc4.p) = bs4 at *
      have hgm : decide ((-1 : Int) ≥ 0) = false := by simp
      obtain ⟨x0, x1, x2, x3, x4, x5, x6, x7, x8, x9⟩ := scB_cell HB4.out.b
      have xl := scB_lt HB4.out.b
      go_wp2_with fail
      with_reducible refine (HC4'.out).mono ?_
      rintro e wB ⟨v5, rfl, ho, hb⟩
      obtain ⟨A7, e7, rfl, hc7, -, hsl7⟩ := ho.sl
      rw [hl4] at hc7 ⊢
      have HS4 := Lib.hid hsl7
      have KB := Lib.hid (Kr.out.below hb)
      have HY3B := Lib.hid (HY3.out.below hb)
      have HY2B := Lib.hid (HY2.out.below hb)
      have HY1B := Lib.hid (HY1.out.below hb)
      clear ho hb hsl7 x0 x1 x2 x3 x4 x5 x6 x7 x8 x9 xl Kr HY3 HY2 HY1 HB4 HC4' HG HN HX HBr B0 G0 EDs LD HS K9 HY9 HX9 HQ9 hgm
      go_wp2_with fail
      with_reducible refine (HAl.out wB KB.out.s).mono ?_
      rintro e wC ⟨v6, rfl, ho, hb⟩
      rw [HSq.out, P.nums_trues] at ho
      rw [HSq.out, P.flag_trues]
      obtain ⟨A8, e8, rfl, hc8, -, hsl8⟩ := ho.sl
      obtain ⟨vv0, rr, hvs, hn8, n0, n1, n5, n6, n7⟩ := nS_look Hv1.out
      obtain ⟨b8, o8, rfl, -, hat8⟩ := hsl8 (by intro e; rw [e] at hn8; simp at hn8)
      have k0 := hat8 0 (by omega)
      have k1 := hat8 1 (by omega)
      have k5 := hat8 5 (by omega)
      have k6 := hat8 6 (by omega)
      have k7 := hat8 7 (by omega)
      rw [List.getD_eq_getElem?_getD] at k0 k1 k5 k6 k7
      rw [n0] at k0
      rw [n1] at k1
      rw [n5] at k5
      rw [n6] at k6
      rw [n7] at k7
      rw [show f.p.vs = f.vs from rfl] at k6 hvs
      simp only [Option.getD_some, Nat.add_zero] at k0 k1 k5 k6 k7
      rw [show f.p.w = f.w from rfl] at k0
      rw [show f.p.h = f.h from rfl] at k1
      rw [show f.p.k = f.k from rfl] at k5
      have KC := Lib.hid (KB.out.below hb)
      have HY3C := Lib.hid (HY3B.out.below hb)
      have HY2C := Lib.hid (HY2B.out.below hb)
      have HY1C := Lib.hid (HY1B.out.below hb)
      have HS4C := Lib.hid ((HS4.out.below hb).more hb.size)
      obtain ⟨b9, o9, hA9, -, hat9⟩ := KC.out.F.a.v.at (k := 0) (u := vv0) (by rw [hvs]; rfl)
      have q0 := (atV hat9).1
      rw [Nat.zero_mul, Nat.add_zero] at q0
      obtain ⟨x0, x1, x2, x3, x4, x5, x6, x7, x8, x9⟩ := scB_cell KC.out.F.b
      rw [hA9] at x6
      have xl := scB_lt KC.out.F.b
      have hwa : IntKind.i64.wrap f.k.a = f.k.a := wrap_u8 HOk.out.k.2.2.2
      have iv := idx0 hvs
      generalize hn8l : (nS f.p).length = n8 at hn8 ⊢
      obtain ⟨hd8, i0, i1, i5, i6, i7⟩ := idx8 hn8
      clear hn8l
      clear ho hb hsl8 hat8 hat9 n0 n1 n5 n6 n7 KB HY3B HY2B HY1B HS4 HSq HAl
      replace hvs := Lib.hid hvs
      replace hA9 := Lib.hid hA9
      go_upto_region 18 with fail
      try simp only [List.append]
      go_big_quiet (fail)
      have u8 : IntKind.i64.wrap ((bs.length : Int) + 8) = (bs.length : Int) + 8 := wrap_sm hbl (by decide)
      have u7 : IntKind.i64.wrap ((bs.length : Int) + 7) = (bs.length : Int) + 7 := wrap_sm hbl (by decide)
      have u5 : IntKind.i64.wrap ((bs.length : Int) + 5) = (bs.length : Int) + 5 := wrap_sm hbl (by decide)
      have g8 : decide ((bs1.length : Int) ≥ (bs.length : Int) + 8) = true := ge8 hl1
      have g7 : decide ((bs2.length : Int) ≥ (bs.length : Int) + 7) = true := ge7 hl2
      have g5 : decide ((bs3.length : Int) ≥ (bs.length : Int) + 5) = true := ge5 hl3
      clear hl1 hl2 hl3 hn8 hd8 i0 i1 i5 i6 i7 k0 k1 k5 k6 k7 q0 x0 x1 x2 x3 x4 x5 x6 x7 x8 x9 xl hwa iv
      go_upto_region 20 with fail
      obtain ⟨wQ, hQ⟩ : ∃ t, wC.drewN nq = t := ⟨_, rfl⟩
      have hbq : Below wC.heap.size wC wQ := by rw [← hQ]; exact below_drewN (Below.refl _ _)
      rw [hQ]
      clear hQ
      replace KC := Lib.hid (KC.out.below hbq)
      replace HY1C := Lib.hid (HY1C.out.below hbq)
      replace HY2C := Lib.hid (HY2C.out.below hbq)
      replace HY3C := Lib.hid (HY3C.out.below hbq)
      replace HS4C := Lib.hid ((HS4C.out.below hbq).more hbq.size)
      clear hbq
      obtain ⟨x0, x1, x2, x3, x4, x5, x6, x7, x8, x9⟩ := scB_cell HY1C.out.b
      have xl := scB_lt HY1C.out.b
      go_wp2_with fail
      with_reducible refine (HC1'.out wQ HY1C.out).mono ?_
      rintro e wD ⟨va, rfl, ho, hb⟩
      obtain ⟨Aa, ea, rfl, -, -, -⟩ := ho.sl
      have KD := Lib.hid (KC.out.below hb)
      have HY2D := Lib.hid (HY2C.out.below hb)
      have HY3D := Lib.hid (HY3C.out.below hb)
      have HS4D := Lib.hid ((HS4C.out.below hb).more hb.size)
      clear ho hb x0 x1 x2 x3 x4 x5 x6 x7 x8 x9 xl KC HY1C HY2C HY3C HS4C HC1'
      obtain ⟨x0, x1, x2, x3, x4, x5, x6, x7, x8, x9⟩ := scB_cell HY2D.out.b
      have xl := scB_lt HY2D.out.b
      go_wp2_with fail
      with_reducible refine (HC2'.out wD HY2D.out).mono ?_
      rintro e wE ⟨va, rfl, ho, hb⟩
      obtain ⟨Ab, eb, rfl, -, -, -⟩ := ho.sl
      have KE := Lib.hid (KD.out.below hb)
      have HY3E := Lib.hid (HY3D.out.below hb)
      have HS4E := Lib.hid ((HS4D.out.below hb).more hb.size)
      clear ho hb x0 x1 x2 x3 x4 x5 x6 x7 x8 x9 xl KD HY2D HY3D HS4D HC2'
      obtain ⟨x0, x1, x2, x3, x4, x5, x6, x7, x8, x9⟩ := scB_cell HY3E.out.b
      have xl := scB_lt HY3E.out.b
      go_wp2_with fail
      with_reducible refine (HC3'.out wE HY3E.out).mono ?_
      rintro e wF ⟨va, rfl, ho, hb⟩
      obtain ⟨Ac, ec, rfl, -, -, -⟩ := ho.sl
      have KF := Lib.hid (KE.out.below hb)
      have hcv4 := ((HS4E.out.below hb).conv e7)
      have hcvb := KF.out.s.conv e1
      rw [hl4] at hcv4
      have HBt4 := HB4t
      clear ho hb x0 x1 x2 x3 x4 x5 x6 x7 x8 x9 xl KE HY3E HS4E HC3' hl4
      obtain ⟨x0, x1, x2, x3, x4, x5, x6, x7, x8, x9⟩ := scB_cell KF.out.F.b
      rw [hnd.out] at x9
      have xl := scB_lt KF.out.F.b
      have HBf := Lib.hid KF.out.b
      clear KF
      by_cases h2 : nd < 2
      · obtain rfl : bs4 = bs := HEq.out.2 h2
        have d2 : decide ((nd : Int) < 2) = true := by simp; omega
        clear HEq
        go_wp2_with fail
        go_ret
        exact ⟨by simp, HBf.out⟩
      · have hne : strOfNums bs4 ≠ strOfNums bs := fun h => h2 (HEq.out.1 (P.str_inj HB4t.out HBt.out h))
        have d2 : decide ((nd : Int) < 2) = false := by simp; omega
        clear HEq
        generalize strOfNums bs4 = S4 at *
        generalize strOfNums bs = S0 at *
        go_wp2_with fail
        go_ret
        exact ⟨by simp; exact fun h => hne (P.bytes_same h), HBf.out⟩
    · obtain ⟨i, hi⟩ : ∃ i, r = i + 1 := ⟨r - 1, by omega⟩
      obtain rfl : z = (i : Int) := by omega
      rw [hi] at HX
      have hin : i < nd := by omega
      clear hr0 hz hi hr s9
      obtain ⟨u, hu⟩ := LD.out i hin
      obtain ⟨b, off, hA, hbB, hat⟩ := EDs.out.at hu
      obtain ⟨d0, d1, d2, d3, d4⟩ := atD (show AtE ED wr b (off + i * 5) u from hat.below HBr.out hbB)
      obtain ⟨p, hp⟩ : ∃ p, u.x.tris.length = p := ⟨_, rfl⟩
      rw [hp] at d4
      have HU := Lib.hid (drop_rev1 hu)
      have s9r := HS.out wr HBr.out
      rw [hA] at s9r
      replace hp := Lib.hid hp
      replace hu := Lib.hid hu
      replace hA := Lib.hid hA
      clear hat
      have hgi0 : decide ((i : Int) ≥ 0) = true := by simp
      have hini : (i : Int) < nd := by omega
      have hgFr : gF < wr.heap.size := by omega
      have g4 := (ouB_cell HG.out).2.2.2.2.2.2.2.2.2
      have hgBi := ouB_lt HG.out
      have hv2b : ∀ x, vv.ownBlock = some x → X0.heap.size ≤ x := fun x e => ownE_ge HN.out x e
      have NM1 := Lib.hid (show ¬ (gF = gB ∨ vv.ownBlock = some gF) from fun e => e.elim (fun h => by omega) (fun h => by have := hv2b _ h; omega))
      have NM2 := Lib.hid (show ¬ (b = gB ∨ vv.ownBlock = some b) from fun e => e.elim (fun h => by omega) (fun h => by have := hv2b _ h; omega))
      replace hv2b := Lib.hid hv2b
      go_upto_region 15 with fail
      have y0 : ∀ w', Om (fun b => b = gB ∨ vv.ownBlock = some b) wr w' → w'.cell? ⟨gF, 9, none⟩ = some (.slice (some ⟨b, off, none⟩) nd f.dc) := fun w' h => h.cell (by assumption) (NM1.out)
      have y1 : ∀ w', Om (fun b => b = gB ∨ vv.ownBlock = some b) wr w' → w'.cell? ⟨b, off + i * 5, none⟩ = some (.int .i64 u.x.id) := fun w' h => h.cell (by assumption) (NM2.out)
      have y2 : ∀ w', Om (fun b => b = gB ∨ vv.ownBlock = some b) wr w' → w'.cell? ⟨b, off + i * 5 + 1, none⟩ = some (.int .i64 u.x.prog) := fun w' h => h.cell (by assumption) (NM2.out)
      have y3 : ∀ w', Om (fun b => b = gB ∨ vv.ownBlock = some b) wr w' → w'.cell? ⟨b, off + i * 5 + 2, none⟩ = some (.int .i64 u.x.tex) := fun w' h => h.cell (by assumption) (NM2.out)
      have y4 : ∀ w', Om (fun b => b = gB ∨ vv.ownBlock = some b) wr w' → w'.cell? ⟨b, off + i * 5 + 3, none⟩ = some (.bool u.x.op) := fun w' h => h.cell (by assumption) (NM2.out)
      have y5 : ∀ w', Om (fun b => b = gB ∨ vv.ownBlock = some b) wr w' → w'.cell? ⟨b, off + i * 5 + 4, none⟩ = some (.slice u.A p u.c) := fun w' h => h.cell (by assumption) (NM2.out)
      refine wp_region_held_drew (S := fun w' => Om (fun b => b = gB ∨ vv.ownBlock = some b) wr w') (by kernel_rfl) (om_drew _ _) (fun hS => ?_)
      have B_t0 := Lib.hid (show Below wr.heap.size wr wr.drew from (Below.refl _ _).drew)
      have M_t0 := Lib.hid (om_drew (fun b => b = gB ∨ vv.ownBlock = some b) wr)
      generalize wr.drew = t0 at *
      refine wpAnyH_take (i := 0) (v := .pointer (some ⟨gB, 9, none⟩)) rfl (by kernel_rfl) (by kernel_rfl) (by kernel_rfl) (fun _ _ _ h => h) (Or.inl ⟨by rfl, fun w hw => by have z0 := y0 w hw; have z1 := y1 w hw; have z2 := y2 w hw; have z3 := y3 w hw; have z4 := y4 w hw; have z5 := y5 w hw; go_simp⟩) hS ?_
      try simp only [Act.put, List.setIfInBounds_toArray, List.set_cons_zero, List.set_cons_succ, List.getElem_toArray, List.getElem_cons_zero]
      refine wpAnyH_take (i := 2) (v := .pointer (some ⟨gF, 9, none⟩)) rfl (by kernel_rfl) (by kernel_rfl) (by kernel_rfl) (fun _ _ _ h => h) (Or.inl ⟨by rfl, fun w hw => by have z0 := y0 w hw; have z1 := y1 w hw; have z2 := y2 w hw; have z3 := y3 w hw; have z4 := y4 w hw; have z5 := y5 w hw; go_simp⟩) hS ?_
      try simp only [Act.put, List.setIfInBounds_toArray, List.set_cons_zero, List.set_cons_succ, List.getElem_toArray, List.getElem_cons_zero, List.getElem_cons_succ]
      refine wpAnyH_take (i := 3) (v := .slice (some ⟨b, off, none⟩) nd f.dc) rfl (by kernel_rfl) (by kernel_rfl) (by kernel_rfl) (fun _ _ _ h => h) (Or.inl ⟨by rfl, fun w hw => by have z0 := y0 w hw; have z1 := y1 w hw; have z2 := y2 w hw; have z3 := y3 w hw; have z4 := y4 w hw; have z5 := y5 w hw; go_simp⟩) hS ?_
      try simp only [Act.put, List.setIfInBounds_toArray, List.set_cons_zero, List.set_cons_succ, List.getElem_toArray, List.getElem_cons_zero, List.getElem_cons_succ]
      refine wpAnyH_take (i := 4) (v := .int .i64 i) rfl (by kernel_rfl) (by kernel_rfl) (by kernel_rfl) (fun _ _ _ h => h) (Or.inl ⟨by rfl, fun w hw => by have z0 := y0 w hw; have z1 := y1 w hw; have z2 := y2 w hw; have z3 := y3 w hw; have z4 := y4 w hw; have z5 := y5 w hw; go_simp⟩) hS ?_
      try simp only [Act.put, List.setIfInBounds_toArray, List.set_cons_zero, List.set_cons_succ, List.getElem_toArray, List.getElem_cons_zero, List.getElem_cons_succ]
      refine wpAnyH_take (i := 5) (v := .pointer (some ⟨b, off + i * 5, none⟩)) rfl (by kernel_rfl) (by kernel_rfl) (by kernel_rfl) (fun _ _ _ h => h) (Or.inl ⟨by rfl, fun w hw => by have z0 := y0 w hw; have z1 := y1 w hw; have z2 := y2 w hw; have z3 := y3 w hw; have z4 := y4 w hw; have z5 := y5 w hw; go_simp <;> (intro h; exact absurd h (by omega))⟩) hS ?_
      try simp only [Act.put, List.setIfInBounds_toArray, List.set_cons_zero, List.set_cons_succ, List.getElem_toArray, List.getElem_cons_zero, List.getElem_cons_succ]
      refine wpAnyH_take (i := 6) (v := .agg #[.int .i64 u.x.id, .int .i64 u.x.prog, .int .i64 u.x.tex, .bool u.x.op, .slice u.A p u.c]) rfl (by kernel_rfl) (by kernel_rfl) (by kernel_rfl) (fun _ _ _ h => h) (Or.inl ⟨by rfl, fun w hw => by have z0 := y0 w hw; have z1 := y1 w hw; have z2 := y2 w hw; have z3 := y3 w hw; have z4 := y4 w hw; have z5 := y5 w hw; go_simp⟩) hS ?_
      try simp only [Act.put, List.setIfInBounds_toArray, List.set_cons_zero, List.set_cons_succ, List.getElem_toArray, List.getElem_cons_zero, List.getElem_cons_succ]
      refine wpAnyH_ready (rs := [1, 7]) (by kernel_rfl) (by simp) ?_
      refine AllReadyH.cons rfl (fun K hK => ?_) ?_
      · skip
        have ldc : t0.cell? ⟨gB, 9, none⟩ = some vv := (B_t0.out.cell (p := ⟨gB, 9, none⟩) hgBi).trans g4
        have lds := Nat.lt_of_lt_of_le hgBi B_t0.out.size
        go_simp
        refine hK.out _ _ M_t0.out (fun hS => ?_)
        clear hK K ldc lds
        try simp only [Act.put, List.setIfInBounds_toArray, List.set_cons_zero, List.set_cons_succ, List.getElem_toArray, List.getElem_cons_zero, List.getElem_cons_succ]
        refine wpAnyH_ready (rs := [7]) (by kernel_rfl) (by simp) ?_
        refine AllReadyH.cons rfl (fun K hK => ?_) AllReadyH.nil
        go_simp
        refine hK.out _ _ (M_t0.out.alloc _) (fun hS => ?_)
        clear hK K hS
        try simp only [Act.put, List.setIfInBounds_toArray, List.set_cons_zero, List.set_cons_succ, List.getElem_toArray, List.getElem_cons_zero, List.getElem_cons_succ]
        obtain ⟨t1, ht⟩ : ∃ t, t = t0.alloc (.cells #[.int .i64 u.x.id, .int .i64 u.x.prog, .int .i64 u.x.tex, .bool u.x.op, .slice u.A p u.c] 52) := ⟨_, rfl⟩
        change wpAnyH _ _ _ _ _ _ _ _ (t0.alloc (.cells #[.int .i64 u.x.id, .int .i64 u.x.prog, .int .i64 u.x.tex, .bool u.x.op, .slice u.A p u.c] 52))
        rw [← ht]
        have B_t1 := Lib.hid (show Below wr.heap.size wr t1 by rw [ht]; exact B_t0.out.alloc B_t0.out.size _)
        have M_t1 := Lib.hid (show Om (fun b => b = gB ∨ vv.ownBlock = some b) wr t1 by rw [ht]; exact M_t0.out.alloc _)
        have G_t1 := Lib.hid (show t1.heap[t0.heap.size]? = some (.cells #[.int .i64 u.x.id, .int .i64 u.x.prog, .int .i64 u.x.tex, .bool u.x.op, .slice u.A p u.c] 52 (0, 0)) by rw [ht]; exact heap_alloc_new _ _)
        have Z_t1 : t1.heap.size = t0.heap.size + 1 := by rw [ht]; simp
        have hS := M_t1.out
        clear ht
        refine wpAnyH_ready (rs := [8]) (by kernel_rfl) (by simp) ?_
        refine AllReadyH.cons rfl (fun K hK => ?_) AllReadyH.nil
        rw [if_pos (by rfl)]
        refine opw_append_len RD (.tmp 62) (.tmp 68) 1 1 (show [u].length = 1 from rfl) rfl rfl rfl (HN.out.keep B_t1.out) (es_one (E := ED) (x := u) (cs := #[.int .i64 u.x.id, .int .i64 u.x.prog, .int .i64 u.x.tex, .bool u.x.op, .slice u.A p u.c]) (by rw [← hp.out]; rfl) G_t1.out) (by omega) (by simp) (by have := B_t1.out.size; omega) ?_
        intro v' w7 h1 h2 h3
        obtain ⟨g', cap', rfl⟩ := ownsRow_succ h1
        obtain ⟨hO7, hB7a⟩ := ownE_app (HN.out.keep B_t1.out) h1 h2 (by have := B_t1.out.size; omega)
        have hB7 := (B_t1.out.mono hs).trans hB7a
        have M7 := Lib.hid (M_t1.out.grown h2 (fun r e => .inl (.inr e)))
        have G7 := Lib.hid ((hB7.block gB L0).trans HG.out)
        have z4 := (ouB_cell G7.out).2.2.2.2.2.2.2.2.2
        have zf : w7.frozen? ⟨gB, 9, none⟩ = false := ouB_free G7.out 9
        have zg : gB < w7.heap.size := (Array.getElem?_eq_some_iff.1 G7.out).1
        have O7 := Lib.hid hO7
        have B7' := Lib.hid hB7
        clear h1 h2 h3 hO7 hB7 hB7a
        refine hK.out _ _ M7.out (fun hS => ?_)
        clear hK K
        try simp only [Act.put, List.setIfInBounds_toArray, List.set_cons_zero, List.set_cons_succ, List.getElem_toArray, List.getElem_cons_zero, List.getElem_cons_succ]
        refine wpAnyH_take (i := 9) (v := .pointer (some ⟨gB, 9, none⟩)) rfl (by kernel_rfl) (by kernel_rfl) (by kernel_rfl) (fun _ _ _ h => h) (Or.inl ⟨by rfl, fun w hw => by go_simp⟩) hS ?_
        try simp only [Act.put, List.setIfInBounds_toArray, List.set_cons_zero, List.set_cons_succ, List.getElem_toArray, List.getElem_cons_zero, List.getElem_cons_succ]
        refine wpAnyH_ready (rs := [10]) (by kernel_rfl) (by simp) ?_
        refine AllReadyH.cons rfl (fun K hK => ?_) AllReadyH.nil
        go_simp
        refine hK.out _ _ (M7.out.set (.inl (.inl rfl))) (fun hS => ?_)
        clear hK K hS
        try simp only [Act.put, List.setIfInBounds_toArray, List.set_cons_zero, List.set_cons_succ, List.getElem_toArray, List.getElem_cons_zero, List.getElem_cons_succ]
        refine wpAnyH_done (by kernel_rfl) ?_ _
        go_wp2_with fail
        go_roundw
        case rel => exact ⟨i, (i : Int) - 1, _, ls ++ [u], by omega, by go_num, by omega, by rw [HU.out, HX.out], O7.out.setCell L0, by have := B7'.out.size; simp; omega, ouB_set9 _ G7.out, (HBr.out.trans (B7'.out.mono (by omega))).setCell (p := ⟨gB, 9, none⟩) (Nat.le_refl _) _⟩
        case measure => simp [intOf] <;> omega
      refine AllReadyH.cons rfl (fun K hK => ?_) ?_
      · skip
        go_simp
        refine hK.out _ _ (M_t0.out.alloc _) (fun hS => ?_)
        clear hK K hS
        try simp only [Act.put, List.setIfInBounds_toArray, List.set_cons_zero, List.set_cons_succ, List.getElem_toArray, List.getElem_cons_zero, List.getElem_cons_succ]
        obtain ⟨t2, ht⟩ : ∃ t, t = t0.alloc (.cells #[.int .i64 u.x.id, .int .i64 u.x.prog, .int .i64 u.x.tex, .bool u.x.op, .slice u.A p u.c] 52) := ⟨_, rfl⟩
        change wpAnyH _ _ _ _ _ _ _ _ (t0.alloc (.cells #[.int .i64 u.x.id, .int .i64 u.x.prog, .int .i64 u.x.tex, .bool u.x.op, .slice u.A p u.c] 52))
        rw [← ht]
        have B_t2 := Lib.hid (show Below wr.heap.size wr t2 by rw [ht]; exact B_t0.out.alloc B_t0.out.size _)
        have M_t2 := Lib.hid (show Om (fun b => b = gB ∨ vv.ownBlock = some b) wr t2 by rw [ht]; exact M_t0.out.alloc _)
        have G_t2 := Lib.hid (show t2.heap[t0.heap.size]? = some (.cells #[.int .i64 u.x.id, .int .i64 u.x.prog, .int .i64 u.x.tex, .bool u.x.op, .slice u.A p u.c] 52 (0, 0)) by rw [ht]; exact heap_alloc_new _ _)
        have Z_t2 : t2.heap.size = t0.heap.size + 1 := by rw [ht]; simp
        have hS := M_t2.out
        clear ht
        refine wpAnyH_ready (rs := [1]) (by kernel_rfl) (by simp) ?_
        refine AllReadyH.cons rfl (fun K hK => ?_) AllReadyH.nil
        have ldc : t2.cell? ⟨gB, 9, none⟩ = some vv := (B_t2.out.cell (p := ⟨gB, 9, none⟩) hgBi).trans g4
        have lds := Nat.lt_of_lt_of_le hgBi B_t2.out.size
        go_simp
        refine hK.out _ _ M_t2.out (fun hS => ?_)
        clear hK K ldc lds
        try simp only [Act.put, List.setIfInBounds_toArray, List.set_cons_zero, List.set_cons_succ, List.getElem_toArray, List.getElem_cons_zero, List.getElem_cons_succ]
        refine wpAnyH_ready (rs := [8]) (by kernel_rfl) (by simp) ?_
        refine AllReadyH.cons rfl (fun K hK => ?_) AllReadyH.nil
        rw [if_pos (by rfl)]
        refine opw_append_len RD (.tmp 62) (.tmp 68) 1 1 (show [u].length = 1 from rfl) rfl rfl rfl (HN.out.keep B_t2.out) (es_one (E := ED) (x := u) (cs := #[.int .i64 u.x.id, .int .i64 u.x.prog, .int .i64 u.x.tex, .bool u.x.op, .slice u.A p u.c]) (by rw [← hp.out]; rfl) G_t2.out) (by omega) (by simp) (by have := B_t2.out.size; omega) ?_
        intro v' w7 h1 h2 h3
        obtain ⟨g', cap', rfl⟩ := ownsRow_succ h1
        obtain ⟨hO7, hB7a⟩ := ownE_app (HN.out.keep B_t2.out) h1 h2 (by have := B_t2.out.size; omega)
        have hB7 := (B_t2.out.mono hs).trans hB7a
        have M7 := Lib.hid (M_t2.out.grown h2 (fun r e => .inl (.inr e)))
        have G7 := Lib.hid ((hB7.block gB L0).trans HG.out)
        have z4 := (ouB_cell G7.out).2.2.2.2.2.2.2.2.2
        have zf : w7.frozen? ⟨gB, 9, none⟩ = false := ouB_free G7.out 9
        have zg : gB < w7.heap.size := (Array.getElem?_eq_some_iff.1 G7.out).1
        have O7 := Lib.hid hO7
        have B7' := Lib.hid hB7
        clear h1 h2 h3 hO7 hB7 hB7a
        refine hK.out _ _ M7.out (fun hS => ?_)
        clear hK K
        try simp only [Act.put, List.setIfInBounds_toArray, List.set_cons_zero, List.set_cons_succ, List.getElem_toArray, List.getElem_cons_zero, List.getElem_cons_succ]
        refine wpAnyH_take (i := 9) (v := .pointer (some ⟨gB, 9, none⟩)) rfl (by kernel_rfl) (by kernel_rfl) (by kernel_rfl) (fun _ _ _ h => h) (Or.inl ⟨by rfl, fun w hw => by go_simp⟩) hS ?_
        try simp only [Act.put, List.setIfInBounds_toArray, List.set_cons_zero, List.set_cons_succ, List.getElem_toArray, List.getElem_cons_zero, List.getElem_cons_succ]
        refine wpAnyH_ready (rs := [10]) (by kernel_rfl) (by simp) ?_
        refine AllReadyH.cons rfl (fun K hK => ?_) AllReadyH.nil
        go_simp
        refine hK.out _ _ (M7.out.set (.inl (.inl rfl))) (fun hS => ?_)
        clear hK K hS
        try simp only [Act.put, List.setIfInBounds_toArray, List.set_cons_zero, List.set_cons_succ, List.getElem_toArray, List.getElem_cons_zero, List.getElem_cons_succ]
        refine wpAnyH_done (by kernel_rfl) ?_ _
        go_wp2_with fail
        go_roundw
        case rel => exact ⟨i, (i : Int) - 1, _, ls ++ [u], by omega, by go_num, by omega, by rw [HU.out, HX.out], O7.out.setCell L0, by have := B7'.out.size; simp; omega, ouB_set9 _ G7.out, (HBr.out.trans (B7'.out.mono (by omega))).setCell (p := ⟨gB, 9, none⟩) (Nat.le_refl _) _⟩
        case measure => simp [intOf] <;> omega
      exact AllReadyH.nil
end Go.Proofs.Ytfmmfaeognoleaa
