/-
  The walk of SceneOrder.
-/
import Derived.Test.YtnpcmoeleigpoaaOrdM
import Derived.BigRegion
namespace Go.Proofs.Ytnpcmoeleigpoaa
open Go.RowKit
attribute [local go_sem ↓] Go.wp_at_zero Go.wp_at_succ

set_option maxRecDepth 100000 in
set_option maxHeartbeats 16000000 in
theorem order_walk (s : Sc) (n : Int) (hn : 0 ≤ n ∧ n ≤ 255) (w : World) (ok : s.ok) (at0 : s.at w w.heap.size) :
    Calls Try.prog 5 #[.agg #[.int .i64 s.w, .int .i64 s.h, .int .u8 s.k.r, .int .u8 s.k.g, .int .u8 s.k.b, .int .u8 s.k.a, .slice s.vA s.vs.length s.vc, .slice s.tA s.ts.length s.tc, .slice s.pA s.ps.length s.pc, .slice s.dA s.ds.length s.dc], .int .u8 n] w fun e w' => e = .returned (.bool true) ∧ Below w.heap.size w w' := by
  obtain ⟨RR⟩ := rowR
  obtain ⟨RD⟩ := rowD
  have HA := Lib.hid at0
  have HK := Lib.hid ok
  clear ok at0
  go_enter Try.func5, Try.ntmps5
  go_wp2_with fail
  with_reducible refine (shown_any _).mono ?_
  rintro e w1 ⟨rfl, hb⟩
  have B1 := Lib.hid (bstep (new_below w (.cells #[.int .i64 s.w, .int .i64 s.h, .int .u8 s.k.r, .int .u8 s.k.g, .int .u8 s.k.b, .int .u8 s.k.a, .slice s.vA s.vs.length s.vc, .slice s.tA s.ts.length s.tc, .slice s.pA s.ps.length s.pc, .slice s.dA s.ds.length s.dc] 29)) (by simp) hb)
  have z : w1.heap[w.heap.size]? = some (scB s) := (hb.block _ (by simp)).trans (heap_alloc_new _ _)
  obtain ⟨z0, z1, z2, z3, z4, z5, z6, z7, z8, z9⟩ := scB_cell z
  have A1 := Lib.hid ((HA.out.below B1.out).more B1.out.size)
  have HFT := Lib.hid (show Calls Try.prog 11 #[.agg #[.int .i64 s.w, .int .i64 s.h, .int .u8 s.k.r, .int .u8 s.k.g, .int .u8 s.k.b, .int .u8 s.k.a, .slice s.vA s.vs.length s.vc, .slice s.tA s.ts.length s.tc, .slice s.pA s.ps.length s.pc, .slice s.dA s.ds.length s.dc], .int .i64 64, .int .i64 20, .int .i64 6, .int .i64 10] w1 (FitsR s 64 20 6 10 w1) from fitr_any s 64 20 6 10 (by omega) (by omega) (by omega) (by omega) (by omega) _ A1.out HK.out)
  clear hb z
  go_wp2_with fail
  with_reducible refine HFT.out.mono ?_
  clear z0 z1 z2 z3 z4 z5 z6 z7 z8 z9 HFT
  rintro e w4 ⟨f, k1, k2, k3, rfl, hp, hok, hfew, hR⟩
  have HFit := Lib.hid (show f.p.fit by rw [hp]; exact fitS_fit (p := s.p) HK.out.k)
  have HKn := Lib.hid (hR.kn (show f.p.ok by rw [hp]; exact fitS_ok (ok_p HK.out) (by omega) (by omega) (by omega) (by omega) (by omega)) (show f.p.few by rw [hp]; exact fitS_few (by omega) (by omega) (by omega)))
  have B4 := Lib.hid (bstep B1.out B1.out.size hR.b)
  have hnd6 : f.ds.length ≤ 6 := by have := HFit.out.d; rwa [show f.p.ds.length = f.ds.length from List.length_map _] at this
  clear hR hp hok hfew
  go_upto_region 3 with fail
  have F1 := Lib.hid (show (w4.alloc (.cells #[.int .i64 f.w, .int .i64 f.h, .int .u8 f.k.r, .int .u8 f.k.g, .int .u8 f.k.b, .int .u8 f.k.a, .slice f.vA f.vs.length f.vc, .slice f.tA f.ts.length f.tc, .slice f.pA f.ps.length f.pc, .slice f.dA f.ds.length f.dc] 29)).heap[w4.heap.size]? = some (scB f) from heap_alloc_new _ _)
  have B5 := Lib.hid (B4.out.alloc B4.out.size (.cells #[.int .i64 f.w, .int .i64 f.h, .int .u8 f.k.r, .int .u8 f.k.g, .int .u8 f.k.b, .int .u8 f.k.a, .slice f.vA f.vs.length f.vc, .slice f.tA f.ts.length f.tc, .slice f.pA f.ps.length f.pc, .slice f.dA f.ds.length f.dc] 29))
  have K1 := Lib.hid ((HKn.out.below (new_below w4 (.cells #[.int .i64 f.w, .int .i64 f.h, .int .u8 f.k.r, .int .u8 f.k.g, .int .u8 f.k.b, .int .u8 f.k.a, .slice f.vA f.vs.length f.vc, .slice f.tA f.ts.length f.tc, .slice f.pA f.ps.length f.pc, .slice f.dA f.ds.length f.dc] 29))).more (new_below w4 (.cells #[.int .i64 f.w, .int .i64 f.h, .int .u8 f.k.r, .int .u8 f.k.g, .int .u8 f.k.b, .int .u8 f.k.a, .slice f.vA f.vs.length f.vc, .slice f.tA f.ts.length f.tc, .slice f.pA f.ps.length f.pc, .slice f.dA f.ds.length f.dc] 29)).size)
  have hg1 : w4.heap.size < (w4.alloc (.cells #[.int .i64 f.w, .int .i64 f.h, .int .u8 f.k.r, .int .u8 f.k.g, .int .u8 f.k.b, .int .u8 f.k.a, .slice f.vA f.vs.length f.vc, .slice f.tA f.ts.length f.tc, .slice f.pA f.ps.length f.pc, .slice f.dA f.ds.length f.dc] 29)).heap.size := by simp
  generalize w4.alloc (.cells #[.int .i64 f.w, .int .i64 f.h, .int .u8 f.k.r, .int .u8 f.k.g, .int .u8 f.k.b, .int .u8 f.k.a, .slice f.vA f.vs.length f.vc, .slice f.tA f.ts.length f.tc, .slice f.pA f.ps.length f.pc, .slice f.dA f.ds.length f.dc] 29) = V1 at *
  obtain ⟨q0, q1, q2, q3, q4, q5, q6, q7, q8, q9⟩ := scB_cell F1.out
  go_upto_region 4 with fail
  have F2 := Lib.hid (new_keep (.cells #[.int .i64 f.w, .int .i64 f.h, .int .u8 f.k.r, .int .u8 f.k.g, .int .u8 f.k.b, .int .u8 f.k.a, .slice f.vA f.vs.length f.vc, .slice f.tA f.ts.length f.tc, .slice f.pA f.ps.length f.pc, .slice f.dA f.ds.length f.dc] 29) F1.out)
  have G2 := Lib.hid (show (V1.alloc (.cells #[.int .i64 f.w, .int .i64 f.h, .int .u8 f.k.r, .int .u8 f.k.g, .int .u8 f.k.b, .int .u8 f.k.a, .slice f.vA f.vs.length f.vc, .slice f.tA f.ts.length f.tc, .slice f.pA f.ps.length f.pc, .slice f.dA f.ds.length f.dc] 29)).heap[V1.heap.size]? = some (ouB f.w f.h f.k (.slice f.vA f.vs.length f.vc) (.slice f.tA f.ts.length f.tc) (.slice f.pA f.ps.length f.pc) (.slice f.dA f.ds.length f.dc)) from heap_alloc_new _ _)
  have B6 := Lib.hid (B5.out.alloc B5.out.size (.cells #[.int .i64 f.w, .int .i64 f.h, .int .u8 f.k.r, .int .u8 f.k.g, .int .u8 f.k.b, .int .u8 f.k.a, .slice f.vA f.vs.length f.vc, .slice f.tA f.ts.length f.tc, .slice f.pA f.ps.length f.pc, .slice f.dA f.ds.length f.dc] 29))
  have K2 := Lib.hid (K1.out.below (new_below V1 (.cells #[.int .i64 f.w, .int .i64 f.h, .int .u8 f.k.r, .int .u8 f.k.g, .int .u8 f.k.b, .int .u8 f.k.a, .slice f.vA f.vs.length f.vc, .slice f.tA f.ts.length f.tc, .slice f.pA f.ps.length f.pc, .slice f.dA f.ds.length f.dc] 29)))
  have hg2 : V1.heap.size < (V1.alloc (.cells #[.int .i64 f.w, .int .i64 f.h, .int .u8 f.k.r, .int .u8 f.k.g, .int .u8 f.k.b, .int .u8 f.k.a, .slice f.vA f.vs.length f.vc, .slice f.tA f.ts.length f.tc, .slice f.pA f.ps.length f.pc, .slice f.dA f.ds.length f.dc] 29)).heap.size := by simp
  generalize V1.alloc (.cells #[.int .i64 f.w, .int .i64 f.h, .int .u8 f.k.r, .int .u8 f.k.g, .int .u8 f.k.b, .int .u8 f.k.a, .slice f.vA f.vs.length f.vc, .slice f.tA f.ts.length f.tc, .slice f.pA f.ps.length f.pc, .slice f.dA f.ds.length f.dc] 29) = V2 at *
  clear q0 q1 q2 q3 q4 q5 q6 q7 q8 q9
  obtain ⟨q0, q1, q2, q3, q4, q5, q6, q7, q8, q9⟩ := ouB_cell G2.out
  have qf9 := ouB_free G2.out 9
  go_upto_region 5 with fail
  have hwg : w.heap.size ≤ V1.heap.size := B5.out.size
  have F3 := Lib.hid (show (V2.setCell ⟨V1.heap.size, 9, none⟩ (.slice none 0 0)).heap[w4.heap.size]? = some (scB f) from (heap_setCell_other _ _ _ _ (by simp; omega)).trans F2.out)
  have G3 := Lib.hid (ouB_set9 (.slice none 0 0) G2.out)
  have B7 := Lib.hid (B6.out.setCell (p := ⟨V1.heap.size, 9, none⟩) hwg (.slice none 0 0))
  have K3 := Lib.hid (K2.out.below ((Below.refl V1.heap.size V2).setCell (p := ⟨V1.heap.size, 9, none⟩) (Nat.le_refl _) (.slice none 0 0)))
  have hgX : V1.heap.size < (V2.setCell ⟨V1.heap.size, 9, none⟩ (.slice none 0 0)).heap.size := by simpa using hg2
  generalize V2.setCell ⟨V1.heap.size, 9, none⟩ (.slice none 0 0) = X0 at *
  clear q0 q1 q2 q3 q4 q5 q6 q7 q8 q9 qf9 F1 B5 K1 F2 G2 B6 K2 HKn
  generalize hgB : V1.heap.size = gB at *
  clear hgB
  generalize hgF : w4.heap.size = gF at *
  clear hgF hg2
  obtain ⟨nd, hnd⟩ : ∃ n, f.ds.length = n := ⟨_, rfl⟩
  obtain ⟨dA, hdA⟩ : ∃ a, f.dA = a := ⟨_, rfl⟩
  rw [hnd] at hnd6
  have HS := Lib.hid (show ∀ wr, Below gB X0 wr → wr.cell? ⟨gF, 9, none⟩ = some (.slice dA nd f.dc) from fun wr hb => by
    have h2 := (scB_cell ((hb.block gF hg1).trans F3.out)).2.2.2.2.2.2.2.2.2
    rwa [hdA, hnd] at h2)
  have EDs := Lib.hid (show Es ED X0 gB dA f.ds by rw [← hdA]; exact K3.out.at'.d)
  have LD := Lib.hid (fun (k : Nat) (h : k < nd) => get_lt (l := f.ds) (k := k) (by rw [hnd]; exact h))
  have wk : IntKind.i64.wrap ((nd : Int) - 1) = nd - 1 := by rw [IntKind.wrap_i64]; omega
  have hgF0 : gF < X0.heap.size := by omega
  replace hnd := Lib.hid hnd
  replace hdA := Lib.hid hdA
  have s9 := HS.out X0 (Below.refl _ _)
  go_wp2_with fail
  go_loopw [8] (fun i wr => ∃ (r : Nat) (z : Int) (v : Value) (ls : List (Lo Dr)), r ≤ nd ∧ i = .int .i64 z ∧ z + 1 = r ∧ ls.map Lo.x = ((f.ds.map Lo.x).drop r).reverse.map revD ∧ OwnN ED ER Dr.tris wr X0.heap.size v ls ∧ X0.heap.size ≤ wr.heap.size ∧ wr.heap[gB]? = some (ouB f.w f.h f.k (.slice f.vA f.vs.length f.vc) (.slice f.tA f.ts.length f.tc) (.slice f.pA f.ps.length f.pc) v) ∧ Below gB X0 wr) (fun i _ => (intOf i + 1).toNat)
  case atStart => exact ⟨nd, (nd : Int) - 1, _, [], Nat.le_refl _, rfl, by omega, by rw [List.drop_of_length_le (by rw [List.length_map, hnd.out]; exact Nat.le_refl _)]; rfl, OwnN.nil _ _, Nat.le_refl _, G3.out, Below.refl _ _⟩
  case round =>
    obtain ⟨r, z, v, ls, hr, rfl, hz, hx, ho, hs, hK, hB⟩ := hrel
    have HX := Lib.hid hx
    have HN := Lib.hid ho
    have HG := Lib.hid hK
    have HBr := Lib.hid hB
    have hll : ls.length ≤ 8 := by
      have := congrArg List.length hx
      rw [List.length_map, List.length_map, List.length_reverse, List.length_drop, List.length_map, hnd.out] at this
      omega
    clear hx ho hK hB wk
    by_cases hr0 : r = 0
    · obtain rfl : z = -1 := by omega
      rw [hr0] at HX
      clear hr0 hz hr
      obtain ⟨dA', dc', hv, hdc, -, -⟩ := HN.out.own.es
      subst hv
      have hmem : ∀ l ∈ ls, ∃ d ∈ f.p.ds, l.x = revD d := fun l hl => by
        have h1 : l.x ∈ ls.map Lo.x := List.mem_map.2 ⟨l, hl, rfl⟩
        rw [HX.out, List.drop_zero] at h1
        obtain ⟨d, hd, e⟩ := List.mem_map.1 h1
        exact ⟨d, List.mem_reverse.1 hd, e.symm⟩
      have KF := Lib.hid (K3.out.below HBr.out)
      have KY := Lib.hid (KF.out.wl (by omega) HN.out.own HN.out.es HN.out.cap (fun l hl => by obtain ⟨d, hd, e⟩ := hmem l hl; rw [e]; exact revD_ok' (K3.out.ok.ds d hd)) (fun l hl => by obtain ⟨d, hd, e⟩ := hmem l hl; rw [e]; show d.tris.reverse.length ≤ 1000; rw [List.length_reverse]; have := HFit.out.n d hd; omega) (by omega))
      have HPy := Lib.hid (show (f.wl ls dA' dc').p = f.p.wd (f.p.ds.reverse.map revD) by rw [wl_p, HX.out, List.drop_zero]; rfl)
      have GY := Lib.hid (show wr.heap[gB]? = some (scB (f.wl ls dA' dc')) from HG.out)
      have FY := Lib.hid ((HBr.out.block gF hg1).trans F3.out)
      obtain ⟨y, hy⟩ : ∃ y, f.wl ls dA' dc' = y := ⟨_, rfl⟩
      rw [hy] at KY HPy GY
      clear hy hmem HN HG HX
      obtain ⟨nc, hnc⟩ : ∃ c, (count f.p : Int) = c := ⟨_, rfl⟩
      have C1 := Lib.hid (fun x : Grow wr => KF.out.check (k := 0) HFit.out.c (by omega) x.w x.below)
      have C2 := Lib.hid (fun x : Grow wr => KY.out.check (k := 0) (by rw [HPy.out]; exact check_back HFit.out.c) (Nat.le_refl _) x.w x.below)
      have C3 := Lib.hid (fun x : Grow wr => KY.out.count (k := nc) (by rw [HPy.out, count_back]; exact hnc) (Nat.le_refl _) x.w x.below)
      have C4 := Lib.hid (fun x : Grow wr => KF.out.count (k := nc) hnc (by omega) x.w x.below)
      have hgBr : gB < wr.heap.size := by omega
      have g1 := fun x : Grow wr => scB_cell ((x.below.block gF (by omega)).trans FY.out)
      have g2 := fun x : Grow wr => scB_cell ((x.below.block gB hgBr).trans GY.out)
      have ne1 := Grow.ne wr
      have BF := Lib.hid (B7.out.trans (HBr.out.mono hwg))
      clear hnc s9
      go_upto_region 15 with fail
      try simp only [List.append]
      refine wp_region_grow (by kernel_rfl) (by kernel_rfl) ?_
      repeat (go_big_quiet_step (with_reducible first | exact Grow.calls (C1.out _) | exact Grow.calls (C2.out _) | exact Grow.calls (C3.out _) | exact Grow.calls (C4.out _)))
      refine wpQuiet_nil ?_
      rintro _ ⟨x, rfl⟩
      have KU := Lib.hid (KF.out.below (x.below.mono (by omega)))
      have FU := Lib.hid ((x.below.block gF (by omega)).trans FY.out)
      have BU := Lib.hid (bstep BF.out BF.out.size x.below)
      have BXU := Lib.hid (HBr.out.trans (x.below.mono (by omega)))
      have hUs := x.below.size
      have hgBU : gB < x.w.heap.size := by omega
      have hgFU : gF < x.w.heap.size := by omega
      generalize x.w = U at *
      clear g1 g2 ne1 x C1 C2 C3 C4 KF KY HPy GY FY BF hUs
      by_cases hn0 : nd = 0
      · have e1 : ((nd : Int) == 0) = true := by simp [hn0]
        obtain ⟨q0, q1, q2, q3, q4, q5, q6, q7, q8, q9⟩ := scB_cell FU.out
        rw [hnd.out] at q9
        go_wp2_with fail
        go_ret
        exact ⟨rfl, BU.out⟩
      · have e1 : ((nd : Int) == 0) = false := by simp [hn0]
        obtain ⟨k, hk⟩ : ∃ k : Nat, n % (nd : Int) = (k : Int) := ⟨(n % (nd : Int)).toNat, by have := Int.emod_nonneg n (show (nd : Int) ≠ 0 by omega); omega⟩
        have hkn : k < nd := by have := Int.emod_lt_of_pos n (show 0 < (nd : Int) by omega); omega
        have qi : n.tmod (nd : Int) = (k : Int) := by rw [Int.tmod_eq_emod_of_nonneg hn.1]; exact hk
        have wi : IntKind.i64.wrap n = n := by rw [IntKind.wrap_i64]; omega
        have wk : IntKind.i64.wrap (k : Int) = (k : Int) := by rw [IntKind.wrap_i64]; omega
        have hn1 : ¬ (nd : Int) = 0 := by omega
        have hkni : (k : Int) < (nd : Int) := by omega
        obtain ⟨u, hu⟩ := LD.out k hkn
        obtain ⟨b, off, rfl, hbB, hat⟩ := EDs.out.at hu
        obtain ⟨p, hp⟩ : ∃ p, u.x.tris.length = p := ⟨_, rfl⟩
        have hmu := List.mem_of_getElem? hu
        have hp10 : p ≤ 10 := by rw [← hp]; exact HFit.out.n u.x (List.mem_map.2 ⟨u, hmu, rfl⟩)
        have HDt := Lib.hid hat
        have HMu := Lib.hid hmu
        replace hp := Lib.hid hp
        replace hu := Lib.hid hu
        replace hk := Lib.hid hk
        replace hn := Lib.hid hn
        clear hat hmu
        obtain ⟨q0, q1, q2, q3, q4, q5, q6, q7, q8, q9⟩ := scB_cell FU.out
        rw [hnd.out, hdA.out] at q9
        go_upto_region 21 with fail
        have W1 := Lib.hid (show (U.alloc (.cells #[.int .i64 f.w, .int .i64 f.h, .int .u8 f.k.r, .int .u8 f.k.g, .int .u8 f.k.b, .int .u8 f.k.a, .slice f.vA f.vs.length f.vc, .slice f.tA f.ts.length f.tc, .slice f.pA f.ps.length f.pc, .slice (some ⟨b, off, none⟩) nd f.dc] 29)).heap[U.heap.size]? = some (ouB f.w f.h f.k (.slice f.vA f.vs.length f.vc) (.slice f.tA f.ts.length f.tc) (.slice f.pA f.ps.length f.pc) (.slice (some ⟨b, off, none⟩) nd f.dc)) from heap_alloc_new _ _)
        have NB1 := Lib.hid (new_below U (.cells #[.int .i64 f.w, .int .i64 f.h, .int .u8 f.k.r, .int .u8 f.k.g, .int .u8 f.k.b, .int .u8 f.k.a, .slice f.vA f.vs.length f.vc, .slice f.tA f.ts.length f.tc, .slice f.pA f.ps.length f.pc, .slice (some ⟨b, off, none⟩) nd f.dc] 29))
        have F1 := Lib.hid (new_keep (.cells #[.int .i64 f.w, .int .i64 f.h, .int .u8 f.k.r, .int .u8 f.k.g, .int .u8 f.k.b, .int .u8 f.k.a, .slice f.vA f.vs.length f.vc, .slice f.tA f.ts.length f.tc, .slice f.pA f.ps.length f.pc, .slice (some ⟨b, off, none⟩) nd f.dc] 29) FU.out)
        have Z1 : (U.alloc (.cells #[.int .i64 f.w, .int .i64 f.h, .int .u8 f.k.r, .int .u8 f.k.g, .int .u8 f.k.b, .int .u8 f.k.a, .slice f.vA f.vs.length f.vc, .slice f.tA f.ts.length f.tc, .slice f.pA f.ps.length f.pc, .slice (some ⟨b, off, none⟩) nd f.dc] 29)).heap.size = U.heap.size + 1 := by simp
        generalize U.alloc (.cells #[.int .i64 f.w, .int .i64 f.h, .int .u8 f.k.r, .int .u8 f.k.g, .int .u8 f.k.b, .int .u8 f.k.a, .slice f.vA f.vs.length f.vc, .slice f.tA f.ts.length f.tc, .slice f.pA f.ps.length f.pc, .slice (some ⟨b, off, none⟩) nd f.dc] 29) = U1 at *
        have hgU1 : U.heap.size < U1.heap.size := by omega
        replace Z1 := Lib.hid Z1
        clear q0 q1 q2 q3 q4 q5 q6 q7 q8 q9
        have BX1 := Lib.hid (BXU.out.trans (NB1.out.mono (by omega)))
        have K1 := Lib.hid (K3.out.below BX1.out)
        have EU1 := Lib.hid (show Es ED U1 U1.heap.size (some ⟨b, off, none⟩) f.ds from (by have h := K1.out.at'.d; rw [hdA.out] at h; exact h.more (by omega)))
        go_cut [] from 92 to 103 (fun Xc => ∃ g c, Xc.heap[U.heap.size]? = some (ouB f.w f.h f.k (.slice f.vA f.vs.length f.vc) (.slice f.tA f.ts.length f.tc) (.slice f.pA f.ps.length f.pc) (.slice (some ⟨g, 0, none⟩) (f.ds.length + 1) c)) ∧ OwnE ED Xc U1.heap.size (.slice (some ⟨g, 0, none⟩) (f.ds.length + 1) c) (f.ds ++ [u]) ∧ Below U.heap.size U1 Xc ∧ U1.heap.size ≤ Xc.heap.size)
        case first =>
          obtain ⟨q0, q1, q2, q3, q4, q5, q6, q7, q8, q9⟩ := scB_cell F1.out
          rw [hnd.out, hdA.out] at q9
          obtain ⟨d0, d1, d2, d3, d4⟩ := atD (show AtE ED U1 b (off + k * 5) u from HDt.out.below BX1.out hbB)
          rw [hp.out] at d4
          have NM1 := Lib.hid (show ¬ gF = U.heap.size by omega)
          have NM2 := Lib.hid (show ¬ b = U.heap.size by omega)
          have y0 : ∀ w', Om (fun b => b = U.heap.size) U1 w' → w'.cell? ⟨gF, 9, none⟩ = some (.slice (some ⟨b, off, none⟩) nd f.dc) := fun w' h => h.cell (by assumption) (NM1.out)
          have y1 : ∀ w', Om (fun b => b = U.heap.size) U1 w' → w'.cell? ⟨b, off + k * 5, none⟩ = some (.int .i64 u.x.id) := fun w' h => h.cell (by assumption) (NM2.out)
          have y2 : ∀ w', Om (fun b => b = U.heap.size) U1 w' → w'.cell? ⟨b, off + k * 5 + 1, none⟩ = some (.int .i64 u.x.prog) := fun w' h => h.cell (by assumption) (NM2.out)
          have y3 : ∀ w', Om (fun b => b = U.heap.size) U1 w' → w'.cell? ⟨b, off + k * 5 + 2, none⟩ = some (.int .i64 u.x.tex) := fun w' h => h.cell (by assumption) (NM2.out)
          have y4 : ∀ w', Om (fun b => b = U.heap.size) U1 w' → w'.cell? ⟨b, off + k * 5 + 3, none⟩ = some (.bool u.x.op) := fun w' h => h.cell (by assumption) (NM2.out)
          have y5 : ∀ w', Om (fun b => b = U.heap.size) U1 w' → w'.cell? ⟨b, off + k * 5 + 4, none⟩ = some (.slice u.A p u.c) := fun w' h => h.cell (by assumption) (NM2.out)
          refine wp_region_held_drew (S := fun w' => Om (fun b => b = U.heap.size) U1 w') (by kernel_rfl) (om_drew _ _) (fun hS => ?_)
          have B_t0 := Lib.hid (show Below U1.heap.size U1 U1.drew from (Below.refl _ _).drew)
          have M_t0 := Lib.hid (om_drew (fun b => b = U.heap.size) U1)
          generalize U1.drew = t0 at *
          clear q0 q1 q2 q3 q4 q5 q6 q7 q8 q9 d0 d1 d2 d3 d4
          refine wpAnyH_take (i := 1) (v := .pointer (some ⟨gF, 9, none⟩)) rfl (by kernel_rfl) (by kernel_rfl) (by kernel_rfl) (fun _ _ _ h => h) (Or.inl ⟨by rfl, fun w hw => by have z0 := y0 w hw; have z1 := y1 w hw; have z2 := y2 w hw; have z3 := y3 w hw; have z4 := y4 w hw; have z5 := y5 w hw; go_simp <;> (intro h; exact absurd h (by omega))⟩) hS ?_
          try simp only [Act.put, List.setIfInBounds_toArray, List.set_cons_zero, List.set_cons_succ, List.getElem_toArray, List.getElem_cons_zero, List.getElem_cons_succ]
          refine wpAnyH_take (i := 2) (v := .slice (some ⟨b, off, none⟩) nd f.dc) rfl (by kernel_rfl) (by kernel_rfl) (by kernel_rfl) (fun _ _ _ h => h) (Or.inl ⟨by rfl, fun w hw => by have z0 := y0 w hw; have z1 := y1 w hw; have z2 := y2 w hw; have z3 := y3 w hw; have z4 := y4 w hw; have z5 := y5 w hw; go_simp <;> (intro h; exact absurd h (by omega))⟩) hS ?_
          try simp only [Act.put, List.setIfInBounds_toArray, List.set_cons_zero, List.set_cons_succ, List.getElem_toArray, List.getElem_cons_zero, List.getElem_cons_succ]
          refine wpAnyH_take (i := 4) (v := .pointer (some ⟨gF, 9, none⟩)) rfl (by kernel_rfl) (by kernel_rfl) (by kernel_rfl) (fun _ _ _ h => h) (Or.inl ⟨by rfl, fun w hw => by have z0 := y0 w hw; have z1 := y1 w hw; have z2 := y2 w hw; have z3 := y3 w hw; have z4 := y4 w hw; have z5 := y5 w hw; go_simp <;> (intro h; exact absurd h (by omega))⟩) hS ?_
          try simp only [Act.put, List.setIfInBounds_toArray, List.set_cons_zero, List.set_cons_succ, List.getElem_toArray, List.getElem_cons_zero, List.getElem_cons_succ]
          refine wpAnyH_take (i := 5) (v := .slice (some ⟨b, off, none⟩) nd f.dc) rfl (by kernel_rfl) (by kernel_rfl) (by kernel_rfl) (fun _ _ _ h => h) (Or.inl ⟨by rfl, fun w hw => by have z0 := y0 w hw; have z1 := y1 w hw; have z2 := y2 w hw; have z3 := y3 w hw; have z4 := y4 w hw; have z5 := y5 w hw; go_simp <;> (intro h; exact absurd h (by omega))⟩) hS ?_
          try simp only [Act.put, List.setIfInBounds_toArray, List.set_cons_zero, List.set_cons_succ, List.getElem_toArray, List.getElem_cons_zero, List.getElem_cons_succ]
          refine wpAnyH_take (i := 6) (v := .int .i64 k) rfl (by kernel_rfl) (by kernel_rfl) (by kernel_rfl) (fun _ _ _ h => h) (Or.inl ⟨by rfl, fun w hw => by have z0 := y0 w hw; have z1 := y1 w hw; have z2 := y2 w hw; have z3 := y3 w hw; have z4 := y4 w hw; have z5 := y5 w hw; go_simp <;> (intro h; exact absurd h (by omega))⟩) hS ?_
          try simp only [Act.put, List.setIfInBounds_toArray, List.set_cons_zero, List.set_cons_succ, List.getElem_toArray, List.getElem_cons_zero, List.getElem_cons_succ]
          refine wpAnyH_take (i := 7) (v := .pointer (some ⟨b, off + k * 5, none⟩)) rfl (by kernel_rfl) (by kernel_rfl) (by kernel_rfl) (fun _ _ _ h => h) (Or.inl ⟨by rfl, fun w hw => by have z0 := y0 w hw; have z1 := y1 w hw; have z2 := y2 w hw; have z3 := y3 w hw; have z4 := y4 w hw; have z5 := y5 w hw; go_simp <;> (intro h; exact absurd h (by omega))⟩) hS ?_
          try simp only [Act.put, List.setIfInBounds_toArray, List.set_cons_zero, List.set_cons_succ, List.getElem_toArray, List.getElem_cons_zero, List.getElem_cons_succ]
          refine wpAnyH_take (i := 8) (v := .agg #[.int .i64 u.x.id, .int .i64 u.x.prog, .int .i64 u.x.tex, .bool u.x.op, .slice u.A p u.c]) rfl (by kernel_rfl) (by kernel_rfl) (by kernel_rfl) (fun _ _ _ h => h) (Or.inl ⟨by rfl, fun w hw => by have z0 := y0 w hw; have z1 := y1 w hw; have z2 := y2 w hw; have z3 := y3 w hw; have z4 := y4 w hw; have z5 := y5 w hw; go_simp <;> (intro h; exact absurd h (by omega))⟩) hS ?_
          try simp only [Act.put, List.setIfInBounds_toArray, List.set_cons_zero, List.set_cons_succ, List.getElem_toArray, List.getElem_cons_zero, List.getElem_cons_succ]
          refine wpAnyH_ready (rs := [0, 9]) (by kernel_rfl) (by simp) ?_
          refine AllReadyH.cons rfl (fun K hK => ?_) ?_
          · go_simp
            refine hK.out _ _ (M_t0.out.alloc _) (fun hS => ?_)
            clear hK K hS
            try simp only [Act.put, List.setIfInBounds_toArray, List.set_cons_zero, List.set_cons_succ, List.getElem_toArray, List.getElem_cons_zero, List.getElem_cons_succ]
            obtain ⟨t1, ht⟩ : ∃ t, t = t0.alloc (.cells #[] 42) := ⟨_, rfl⟩
            change wpAnyH _ _ _ _ _ _ _ _ (t0.alloc (.cells #[] 42))
            rw [← ht]
            have B_t1 := Lib.hid (show Below U1.heap.size U1 t1 by rw [ht]; exact B_t0.out.alloc B_t0.out.size _)
            have M_t1 := Lib.hid (show Om (fun b => b = U.heap.size) U1 t1 by rw [ht]; exact M_t0.out.alloc _)
            have Z_t1 := Lib.hid (show t1.heap.size = t0.heap.size + 1 by rw [ht]; simp)
            have E_t1 := Lib.hid (show OwnE ED t1 U1.heap.size (.slice (some ⟨t0.heap.size, 0, none⟩) 0 0) [] by rw [ht]; exact ownE_empty (E := ED) t0 B_t0.out.size)
            have hS := M_t1.out
            clear ht
            refine wpAnyH_ready (rs := [3, 9]) (by kernel_rfl) (by simp) ?_
            refine AllReadyH.cons rfl (fun K hK => ?_) ?_
            · rw [if_pos (by rfl)]
              refine opw_append_len RD (.tmp 92) (.tmp 94) f.dc nd hnd.out rfl rfl rfl E_t1.out (EU1.out.below B_t1.out) (by simp) (by have := hnd.out; omega) B_t1.out.size ?_
              intro v1 t2 h1 h2 h3
              obtain ⟨hO, hB⟩ := ownE_app E_t1.out h1 h2 B_t1.out.size
              obtain ⟨A_t2, c_t2, rfl, hc_t2, hO5⟩ := own_form hO hnd.out
              have O_t2 := Lib.hid hO5
              have B_t2 := Lib.hid (B_t1.out.trans hB)
              have M_t2 := Lib.hid (M_t1.out.bel hB)
              clear h1 h2 h3 hO hB hO5
              refine hK.out _ _ M_t2.out (fun hS => ?_)
              clear hK K
              try simp only [Act.put, List.setIfInBounds_toArray, List.set_cons_zero, List.set_cons_succ, List.getElem_toArray, List.getElem_cons_zero, List.getElem_cons_succ]
              refine wpAnyH_ready (rs := [9]) (by kernel_rfl) (by simp) ?_
              refine AllReadyH.cons rfl (fun K hK => ?_) AllReadyH.nil
              go_simp
              refine hK.out _ _ (M_t2.out.alloc _) (fun hS => ?_)
              clear hK K hS
              try simp only [Act.put, List.setIfInBounds_toArray, List.set_cons_zero, List.set_cons_succ, List.getElem_toArray, List.getElem_cons_zero, List.getElem_cons_succ]
              obtain ⟨t3, ht⟩ : ∃ t, t = t2.alloc (.cells #[.int .i64 u.x.id, .int .i64 u.x.prog, .int .i64 u.x.tex, .bool u.x.op, .slice u.A p u.c] 42) := ⟨_, rfl⟩
              change wpAnyH _ _ _ _ _ _ _ _ (t2.alloc (.cells #[.int .i64 u.x.id, .int .i64 u.x.prog, .int .i64 u.x.tex, .bool u.x.op, .slice u.A p u.c] 42))
              rw [← ht]
              have B_t3 := Lib.hid (show Below U1.heap.size U1 t3 by rw [ht]; exact B_t2.out.alloc B_t2.out.size _)
              have M_t3 := Lib.hid (show Om (fun b => b = U.heap.size) U1 t3 by rw [ht]; exact M_t2.out.alloc _)
              have Z_t3 := Lib.hid (show t3.heap.size = t2.heap.size + 1 by rw [ht]; simp)
              have O_t3 := Lib.hid (show OwnE ED t3 U1.heap.size (.slice A_t2 nd c_t2) f.ds by rw [ht]; exact O_t2.out.alloc _)
              have G_t3 := Lib.hid (show t3.heap[t2.heap.size]? = some (.cells #[.int .i64 u.x.id, .int .i64 u.x.prog, .int .i64 u.x.tex, .bool u.x.op, .slice u.A p u.c] 42 (0, 0)) by rw [ht]; exact heap_alloc_new _ _)
              have hS := M_t3.out
              clear ht
              refine wpAnyH_ready (rs := [10]) (by kernel_rfl) (by simp) ?_
              refine AllReadyH.cons rfl (fun K hK => ?_) AllReadyH.nil
              rw [if_pos (by rfl)]
              refine opw_append_len RD (.tmp 95) (.tmp 101) 1 1 (show [u].length = 1 from rfl) rfl rfl rfl O_t3.out (es_one (E := ED) (x := u) (cs := #[.int .i64 u.x.id, .int .i64 u.x.prog, .int .i64 u.x.tex, .bool u.x.op, .slice u.A p u.c]) (by show [Value.int .i64 u.x.id, .int .i64 u.x.prog, .int .i64 u.x.tex, .bool u.x.op, .slice u.A p u.c] = [Value.int .i64 u.x.id, .int .i64 u.x.prog, .int .i64 u.x.tex, .bool u.x.op, .slice u.A u.x.tris.length u.c]; rw [hp.out]) G_t3.out) (by have := hnd.out; omega) (by simp) B_t3.out.size ?_
              intro v' w7 h1 h2 h3
              obtain ⟨g', cap', rfl⟩ := ownsRow_succ h1
              obtain ⟨hO7, hB7⟩ := ownE_app O_t3.out h1 h2 B_t3.out.size
              have M7 := Lib.hid (M_t3.out.bel hB7)
              have W7 := Lib.hid (((B_t3.out.trans hB7).block U.heap.size hgU1).trans W1.out)
              have B7x := Lib.hid (B_t3.out.trans hB7)
              have O7 := Lib.hid hO7
              have zf := ouB_free W7.out 9
              obtain ⟨z0, z1, z2, z3, z4, z5, z6, z7, z8, z9⟩ := ouB_cell W7.out
              have zg : U.heap.size < w7.heap.size := (Array.getElem?_eq_some_iff.1 W7.out).1
              clear h1 h2 h3 hO7 hB7
              refine hK.out _ _ M7.out (fun hS => ?_)
              clear hK K
              try simp only [Act.put, List.setIfInBounds_toArray, List.set_cons_zero, List.set_cons_succ, List.getElem_toArray, List.getElem_cons_zero, List.getElem_cons_succ]
              refine wpAnyH_take (i := 11) (v := .pointer (some ⟨U.heap.size, 9, none⟩)) rfl (by kernel_rfl) (by kernel_rfl) (by kernel_rfl) (fun _ _ _ h => h) (Or.inl ⟨by rfl, fun w hw => by go_simp⟩) hS ?_
              try simp only [Act.put, List.setIfInBounds_toArray, List.set_cons_zero, List.set_cons_succ, List.getElem_toArray, List.getElem_cons_zero, List.getElem_cons_succ]
              refine wpAnyH_ready (rs := [12]) (by kernel_rfl) (by simp) ?_
              refine AllReadyH.cons rfl (fun K hK => ?_) AllReadyH.nil
              go_simp
              refine hK.out _ _ (M7.out.set (.inl rfl)) (fun hS => ?_)
              clear hK K hS
              try simp only [Act.put, List.setIfInBounds_toArray, List.set_cons_zero, List.set_cons_succ, List.getElem_toArray, List.getElem_cons_zero, List.getElem_cons_succ]
              refine wpAnyH_done (by kernel_rfl) ?_ _
              go_wp2_with fail
              go_meet
              exact ⟨g', cap', ouB_set9 _ W7.out, O7.out.setCell hgU1, (B7x.out.mono (show U.heap.size ≤ U1.heap.size by omega)).setCell (p := ⟨U.heap.size, 9, none⟩) (Nat.le_refl _) _, by have := B7x.out.size; simpa using this⟩
            refine AllReadyH.cons rfl (fun K hK => ?_) ?_
            · go_simp
              refine hK.out _ _ (M_t1.out.alloc _) (fun hS => ?_)
              clear hK K hS
              try simp only [Act.put, List.setIfInBounds_toArray, List.set_cons_zero, List.set_cons_succ, List.getElem_toArray, List.getElem_cons_zero, List.getElem_cons_succ]
              obtain ⟨t4, ht⟩ : ∃ t, t = t1.alloc (.cells #[.int .i64 u.x.id, .int .i64 u.x.prog, .int .i64 u.x.tex, .bool u.x.op, .slice u.A p u.c] 42) := ⟨_, rfl⟩
              change wpAnyH _ _ _ _ _ _ _ _ (t1.alloc (.cells #[.int .i64 u.x.id, .int .i64 u.x.prog, .int .i64 u.x.tex, .bool u.x.op, .slice u.A p u.c] 42))
              rw [← ht]
              have B_t4 := Lib.hid (show Below U1.heap.size U1 t4 by rw [ht]; exact B_t1.out.alloc B_t1.out.size _)
              have M_t4 := Lib.hid (show Om (fun b => b = U.heap.size) U1 t4 by rw [ht]; exact M_t1.out.alloc _)
              have Z_t4 := Lib.hid (show t4.heap.size = t1.heap.size + 1 by rw [ht]; simp)
              have O_t4 := Lib.hid (show OwnE ED t4 U1.heap.size (.slice (some ⟨t0.heap.size, 0, none⟩) 0 0) [] by rw [ht]; exact E_t1.out.alloc _)
              have G_t4 := Lib.hid (show t4.heap[t1.heap.size]? = some (.cells #[.int .i64 u.x.id, .int .i64 u.x.prog, .int .i64 u.x.tex, .bool u.x.op, .slice u.A p u.c] 42 (0, 0)) by rw [ht]; exact heap_alloc_new _ _)
              have hS := M_t4.out
              clear ht
              refine wpAnyH_ready (rs := [3]) (by kernel_rfl) (by simp) ?_
              refine AllReadyH.cons rfl (fun K hK => ?_) AllReadyH.nil
              rw [if_pos (by rfl)]
              refine opw_append_len RD (.tmp 92) (.tmp 94) f.dc nd hnd.out rfl rfl rfl O_t4.out (EU1.out.below B_t4.out) (by simp) (by have := hnd.out; omega) B_t4.out.size ?_
              intro v1 t5 h1 h2 h3
              obtain ⟨hO, hB⟩ := ownE_app O_t4.out h1 h2 B_t4.out.size
              obtain ⟨A_t5, c_t5, rfl, hc_t5, hO5⟩ := own_form hO hnd.out
              have O_t5 := Lib.hid hO5
              have B_t5 := Lib.hid (B_t4.out.trans hB)
              have M_t5 := Lib.hid (M_t4.out.bel hB)
              have G_t5 := Lib.hid ((h2.block t1.heap.size (Array.getElem?_eq_some_iff.1 G_t4.out).1 (fun e => by have e2 : some t1.heap.size = (Value.slice (some ⟨t0.heap.size, 0, none⟩) 0 0).ownBlock := e; simp [Value.ownBlock] at e2; have := Z_t1.out; have := Z_t4.out; omega)).trans G_t4.out)
              clear h1 h2 h3 hO hB hO5
              refine hK.out _ _ M_t5.out (fun hS => ?_)
              clear hK K
              try simp only [Act.put, List.setIfInBounds_toArray, List.set_cons_zero, List.set_cons_succ, List.getElem_toArray, List.getElem_cons_zero, List.getElem_cons_succ]
              refine wpAnyH_ready (rs := [10]) (by kernel_rfl) (by simp) ?_
              refine AllReadyH.cons rfl (fun K hK => ?_) AllReadyH.nil
              rw [if_pos (by rfl)]
              refine opw_append_len RD (.tmp 95) (.tmp 101) 1 1 (show [u].length = 1 from rfl) rfl rfl rfl O_t5.out (es_one (E := ED) (x := u) (cs := #[.int .i64 u.x.id, .int .i64 u.x.prog, .int .i64 u.x.tex, .bool u.x.op, .slice u.A p u.c]) (by show [Value.int .i64 u.x.id, .int .i64 u.x.prog, .int .i64 u.x.tex, .bool u.x.op, .slice u.A p u.c] = [Value.int .i64 u.x.id, .int .i64 u.x.prog, .int .i64 u.x.tex, .bool u.x.op, .slice u.A u.x.tris.length u.c]; rw [hp.out]) G_t5.out) (by have := hnd.out; omega) (by simp) B_t5.out.size ?_
              intro v' w7 h1 h2 h3
              obtain ⟨g', cap', rfl⟩ := ownsRow_succ h1
              obtain ⟨hO7, hB7⟩ := ownE_app O_t5.out h1 h2 B_t5.out.size
              have M7 := Lib.hid (M_t5.out.bel hB7)
              have W7 := Lib.hid (((B_t5.out.trans hB7).block U.heap.size hgU1).trans W1.out)
              have B7x := Lib.hid (B_t5.out.trans hB7)
              have O7 := Lib.hid hO7
              have zf := ouB_free W7.out 9
              obtain ⟨z0, z1, z2, z3, z4, z5, z6, z7, z8, z9⟩ := ouB_cell W7.out
              have zg : U.heap.size < w7.heap.size := (Array.getElem?_eq_some_iff.1 W7.out).1
              clear h1 h2 h3 hO7 hB7
              refine hK.out _ _ M7.out (fun hS => ?_)
              clear hK K
              try simp only [Act.put, List.setIfInBounds_toArray, List.set_cons_zero, List.set_cons_succ, List.getElem_toArray, List.getElem_cons_zero, List.getElem_cons_succ]
              refine wpAnyH_take (i := 11) (v := .pointer (some ⟨U.heap.size, 9, none⟩)) rfl (by kernel_rfl) (by kernel_rfl) (by kernel_rfl) (fun _ _ _ h => h) (Or.inl ⟨by rfl, fun w hw => by go_simp⟩) hS ?_
              try simp only [Act.put, List.setIfInBounds_toArray, List.set_cons_zero, List.set_cons_succ, List.getElem_toArray, List.getElem_cons_zero, List.getElem_cons_succ]
              refine wpAnyH_ready (rs := [12]) (by kernel_rfl) (by simp) ?_
              refine AllReadyH.cons rfl (fun K hK => ?_) AllReadyH.nil
              go_simp
              refine hK.out _ _ (M7.out.set (.inl rfl)) (fun hS => ?_)
              clear hK K hS
              try simp only [Act.put, List.setIfInBounds_toArray, List.set_cons_zero, List.set_cons_succ, List.getElem_toArray, List.getElem_cons_zero, List.getElem_cons_succ]
              refine wpAnyH_done (by kernel_rfl) ?_ _
              go_wp2_with fail
              go_meet
              exact ⟨g', cap', ouB_set9 _ W7.out, O7.out.setCell hgU1, (B7x.out.mono (show U.heap.size ≤ U1.heap.size by omega)).setCell (p := ⟨U.heap.size, 9, none⟩) (Nat.le_refl _) _, by have := B7x.out.size; simpa using this⟩
            exact AllReadyH.nil
          refine AllReadyH.cons rfl (fun K hK => ?_) ?_
          · go_simp
            refine hK.out _ _ (M_t0.out.alloc _) (fun hS => ?_)
            clear hK K hS
            try simp only [Act.put, List.setIfInBounds_toArray, List.set_cons_zero, List.set_cons_succ, List.getElem_toArray, List.getElem_cons_zero, List.getElem_cons_succ]
            obtain ⟨t6, ht⟩ : ∃ t, t = t0.alloc (.cells #[.int .i64 u.x.id, .int .i64 u.x.prog, .int .i64 u.x.tex, .bool u.x.op, .slice u.A p u.c] 42) := ⟨_, rfl⟩
            change wpAnyH _ _ _ _ _ _ _ _ (t0.alloc (.cells #[.int .i64 u.x.id, .int .i64 u.x.prog, .int .i64 u.x.tex, .bool u.x.op, .slice u.A p u.c] 42))
            rw [← ht]
            have B_t6 := Lib.hid (show Below U1.heap.size U1 t6 by rw [ht]; exact B_t0.out.alloc B_t0.out.size _)
            have M_t6 := Lib.hid (show Om (fun b => b = U.heap.size) U1 t6 by rw [ht]; exact M_t0.out.alloc _)
            have Z_t6 := Lib.hid (show t6.heap.size = t0.heap.size + 1 by rw [ht]; simp)
            have G_t6 := Lib.hid (show t6.heap[t0.heap.size]? = some (.cells #[.int .i64 u.x.id, .int .i64 u.x.prog, .int .i64 u.x.tex, .bool u.x.op, .slice u.A p u.c] 42 (0, 0)) by rw [ht]; exact heap_alloc_new _ _)
            have hS := M_t6.out
            clear ht
            refine wpAnyH_ready (rs := [0]) (by kernel_rfl) (by simp) ?_
            refine AllReadyH.cons rfl (fun K hK => ?_) AllReadyH.nil
            go_simp
            refine hK.out _ _ (M_t6.out.alloc _) (fun hS => ?_)
            clear hK K hS
            try simp only [Act.put, List.setIfInBounds_toArray, List.set_cons_zero, List.set_cons_succ, List.getElem_toArray, List.getElem_cons_zero, List.getElem_cons_succ]
            obtain ⟨t7, ht⟩ : ∃ t, t = t6.alloc (.cells #[] 42) := ⟨_, rfl⟩
            change wpAnyH _ _ _ _ _ _ _ _ (t6.alloc (.cells #[] 42))
            rw [← ht]
            have B_t7 := Lib.hid (show Below U1.heap.size U1 t7 by rw [ht]; exact B_t6.out.alloc B_t6.out.size _)
            have M_t7 := Lib.hid (show Om (fun b => b = U.heap.size) U1 t7 by rw [ht]; exact M_t6.out.alloc _)
            have Z_t7 := Lib.hid (show t7.heap.size = t6.heap.size + 1 by rw [ht]; simp)
            have G_t7 := Lib.hid (show t7.heap[t0.heap.size]? = some (.cells #[.int .i64 u.x.id, .int .i64 u.x.prog, .int .i64 u.x.tex, .bool u.x.op, .slice u.A p u.c] 42 (0, 0)) by rw [ht]; exact new_keep _ G_t6.out)
            have E_t7 := Lib.hid (show OwnE ED t7 U1.heap.size (.slice (some ⟨t6.heap.size, 0, none⟩) 0 0) [] by rw [ht]; exact ownE_empty (E := ED) t6 B_t6.out.size)
            have hS := M_t7.out
            clear ht
            refine wpAnyH_ready (rs := [3]) (by kernel_rfl) (by simp) ?_
            refine AllReadyH.cons rfl (fun K hK => ?_) AllReadyH.nil
            rw [if_pos (by rfl)]
            refine opw_append_len RD (.tmp 92) (.tmp 94) f.dc nd hnd.out rfl rfl rfl E_t7.out (EU1.out.below B_t7.out) (by simp) (by have := hnd.out; omega) B_t7.out.size ?_
            intro v1 t8 h1 h2 h3
            obtain ⟨hO, hB⟩ := ownE_app E_t7.out h1 h2 B_t7.out.size
            obtain ⟨A_t8, c_t8, rfl, hc_t8, hO5⟩ := own_form hO hnd.out
            have O_t8 := Lib.hid hO5
            have B_t8 := Lib.hid (B_t7.out.trans hB)
            have M_t8 := Lib.hid (M_t7.out.bel hB)
            have G_t8 := Lib.hid ((h2.block t0.heap.size (Array.getElem?_eq_some_iff.1 G_t7.out).1 (fun e => by have e2 : some t0.heap.size = (Value.slice (some ⟨t6.heap.size, 0, none⟩) 0 0).ownBlock := e; simp [Value.ownBlock] at e2; have := Z_t6.out; have := Z_t7.out; omega)).trans G_t7.out)
            clear h1 h2 h3 hO hB hO5
            refine hK.out _ _ M_t8.out (fun hS => ?_)
            clear hK K
            try simp only [Act.put, List.setIfInBounds_toArray, List.set_cons_zero, List.set_cons_succ, List.getElem_toArray, List.getElem_cons_zero, List.getElem_cons_succ]
            refine wpAnyH_ready (rs := [10]) (by kernel_rfl) (by simp) ?_
            refine AllReadyH.cons rfl (fun K hK => ?_) AllReadyH.nil
            rw [if_pos (by rfl)]
            refine opw_append_len RD (.tmp 95) (.tmp 101) 1 1 (show [u].length = 1 from rfl) rfl rfl rfl O_t8.out (es_one (E := ED) (x := u) (cs := #[.int .i64 u.x.id, .int .i64 u.x.prog, .int .i64 u.x.tex, .bool u.x.op, .slice u.A p u.c]) (by show [Value.int .i64 u.x.id, .int .i64 u.x.prog, .int .i64 u.x.tex, .bool u.x.op, .slice u.A p u.c] = [Value.int .i64 u.x.id, .int .i64 u.x.prog, .int .i64 u.x.tex, .bool u.x.op, .slice u.A u.x.tris.length u.c]; rw [hp.out]) G_t8.out) (by have := hnd.out; omega) (by simp) B_t8.out.size ?_
            intro v' w7 h1 h2 h3
            obtain ⟨g', cap', rfl⟩ := ownsRow_succ h1
            obtain ⟨hO7, hB7⟩ := ownE_app O_t8.out h1 h2 B_t8.out.size
            have M7 := Lib.hid (M_t8.out.bel hB7)
            have W7 := Lib.hid (((B_t8.out.trans hB7).block U.heap.size hgU1).trans W1.out)
            have B7x := Lib.hid (B_t8.out.trans hB7)
            have O7 := Lib.hid hO7
            have zf := ouB_free W7.out 9
            obtain ⟨z0, z1, z2, z3, z4, z5, z6, z7, z8, z9⟩ := ouB_cell W7.out
            have zg : U.heap.size < w7.heap.size := (Array.getElem?_eq_some_iff.1 W7.out).1
            clear h1 h2 h3 hO7 hB7
            refine hK.out _ _ M7.out (fun hS => ?_)
            clear hK K
            try simp only [Act.put, List.setIfInBounds_toArray, List.set_cons_zero, List.set_cons_succ, List.getElem_toArray, List.getElem_cons_zero, List.getElem_cons_succ]
            refine wpAnyH_take (i := 11) (v := .pointer (some ⟨U.heap.size, 9, none⟩)) rfl (by kernel_rfl) (by kernel_rfl) (by kernel_rfl) (fun _ _ _ h => h) (Or.inl ⟨by rfl, fun w hw => by go_simp⟩) hS ?_
            try simp only [Act.put, List.setIfInBounds_toArray, List.set_cons_zero, List.set_cons_succ, List.getElem_toArray, List.getElem_cons_zero, List.getElem_cons_succ]
            refine wpAnyH_ready (rs := [12]) (by kernel_rfl) (by simp) ?_
            refine AllReadyH.cons rfl (fun K hK => ?_) AllReadyH.nil
            go_simp
            refine hK.out _ _ (M7.out.set (.inl rfl)) (fun hS => ?_)
            clear hK K hS
            try simp only [Act.put, List.setIfInBounds_toArray, List.set_cons_zero, List.set_cons_succ, List.getElem_toArray, List.getElem_cons_zero, List.getElem_cons_succ]
            refine wpAnyH_done (by kernel_rfl) ?_ _
            go_wp2_with fail
            go_meet
            exact ⟨g', cap', ouB_set9 _ W7.out, O7.out.setCell hgU1, (B7x.out.mono (show U.heap.size ≤ U1.heap.size by omega)).setCell (p := ⟨U.heap.size, 9, none⟩) (Nat.le_refl _) _, by have := B7x.out.size; simpa using this⟩
          exact AllReadyH.nil
        case rest =>
        rename World => X2
        obtain ⟨g, c, hW2, hO2, hB2, hs2⟩ := hcut
        have W2 := Lib.hid hW2
        have O2 := Lib.hid hO2
        have BX2 := Lib.hid (BX1.out.trans (hB2.mono (by omega)))
        have BU2 := Lib.hid (BU.out.trans ((NB1.out.trans hB2).mono BU.out.size))
        have F2 := Lib.hid ((hB2.block gF hgFU).trans F1.out)
        have hg2b : ∀ x, (Value.slice (some ⟨g, 0, none⟩) (f.ds.length + 1) c).ownBlock = some x → x < X2.heap.size := fun x e => ownE_lt hO2 e
        replace hg2b := Lib.hid hg2b
        have hUX2 : U.heap.size < X2.heap.size := by omega
        clear hW2 hO2 hB2 W1 NB1 F1 BX1 K1 EU1
        obtain ⟨q0, q1, q2, q3, q4, q5, q6, q7, q8, q9⟩ := scB_cell F2.out
        rw [hnd.out, hdA.out] at q9
        have hgFX2 : gF < X2.heap.size := by omega
        go_upto_region 23 with fail
        have T3 := Lib.hid (show (X2.alloc (.cells #[.int .i64 f.w, .int .i64 f.h, .int .u8 f.k.r, .int .u8 f.k.g, .int .u8 f.k.b, .int .u8 f.k.a, .slice f.vA f.vs.length f.vc, .slice f.tA f.ts.length f.tc, .slice f.pA f.ps.length f.pc, .slice (some ⟨b, off, none⟩) nd f.dc] 29)).heap[X2.heap.size]? = some (ouB f.w f.h f.k (.slice f.vA f.vs.length f.vc) (.slice f.tA f.ts.length f.tc) (.slice f.pA f.ps.length f.pc) (.slice (some ⟨b, off, none⟩) nd f.dc)) from heap_alloc_new _ _)
        have NB3 := Lib.hid (new_below X2 (.cells #[.int .i64 f.w, .int .i64 f.h, .int .u8 f.k.r, .int .u8 f.k.g, .int .u8 f.k.b, .int .u8 f.k.a, .slice f.vA f.vs.length f.vc, .slice f.tA f.ts.length f.tc, .slice f.pA f.ps.length f.pc, .slice (some ⟨b, off, none⟩) nd f.dc] 29))
        have Z3 : (X2.alloc (.cells #[.int .i64 f.w, .int .i64 f.h, .int .u8 f.k.r, .int .u8 f.k.g, .int .u8 f.k.b, .int .u8 f.k.a, .slice f.vA f.vs.length f.vc, .slice f.tA f.ts.length f.tc, .slice f.pA f.ps.length f.pc, .slice (some ⟨b, off, none⟩) nd f.dc] 29)).heap.size = X2.heap.size + 1 := by simp
        generalize X2.alloc (.cells #[.int .i64 f.w, .int .i64 f.h, .int .u8 f.k.r, .int .u8 f.k.g, .int .u8 f.k.b, .int .u8 f.k.a, .slice f.vA f.vs.length f.vc, .slice f.tA f.ts.length f.tc, .slice f.pA f.ps.length f.pc, .slice (some ⟨b, off, none⟩) nd f.dc] 29) = X3 at *
        have hgX3 : X2.heap.size < X3.heap.size := by omega
        replace Z3 := Lib.hid Z3
        clear q0 q1 q2 q3 q4 q5 q6 q7 q8 q9
        have BX3 := Lib.hid (BX2.out.trans (NB3.out.mono (by omega)))
        have F3' := Lib.hid ((NB3.out.block gF (by omega)).trans F2.out)
        have hgFX3 : gF < X3.heap.size := by omega
        obtain ⟨q0, q1, q2, q3, q4, q5, q6, q7, q8, q9⟩ := scB_cell F3'.out
        rw [hnd.out, hdA.out] at q9
        have oe := ownE_empty (E := ED) (base := X3.heap.size) X3 (Nat.le_refl _)
        have OE := Lib.hid oe
        have EU3 := Lib.hid (show Es ED (X3.alloc (.cells #[] 42)) X3.heap.size (some ⟨b, off, none⟩) f.ds from (by have h := (K3.out.below BX3.out).at'.d; rw [hdA.out] at h; exact (h.more (by omega)).below (new_below _ _)))
        clear oe
        go_upto_region 24 with (at_builtin; refine wpList_append_len rfl RD _ _ f.dc nd hnd.out rfl rfl rfl OE.out EU3.out (by simp) (by have := hnd.out; omega) (by simp) ?_; intro v' w7 h1 h2 h3; obtain ⟨hO, hB⟩ := ownE_app OE.out h1 h2 (by simp); obtain ⟨A3, c3, rfl, hc3, hO1⟩ := own_form hO hnd.out; obtain ⟨g3, c3', e3, hg3, hg3b⟩ := ownE_at0 hO1 (fun e => by have := hnd.out; rw [e] at this; simp at this; omega); obtain rfl : A3 = some ⟨g3, 0, none⟩ := (by injection e3); have O4 := Lib.hid hO1; have B4' := Lib.hid ((new_below X3 (.cells #[] 42)).trans hB); have T4 := Lib.hid ((B4'.out.block X2.heap.size hgX3).trans T3.out); have zf := ouB_free T4.out 9; obtain ⟨z0, z1, z2, z3, z4, z5, z6, z7, z8, z9⟩ := ouB_cell T4.out; have zg : X2.heap.size < w7.heap.size := (Array.getElem?_eq_some_iff.1 T4.out).1; clear h1 h2 h3 hO hB hO1 e3)
        have T5 := Lib.hid (ouB_set9 (.slice (some ⟨g3, 0, none⟩) nd c3) T4.out)
        have O5 := Lib.hid (O4.out.setCell (g := X2.heap.size) (o := 9) (u := .slice (some ⟨g3, 0, none⟩) nd c3) hgX3)
        have B5' := Lib.hid ((NB3.out.trans (B4'.out.mono (by omega))).setCell (p := ⟨X2.heap.size, 9, none⟩) (Nat.le_refl _) (.slice (some ⟨g3, 0, none⟩) nd c3))
        have hg3s : g3 < (w7.setCell ⟨X2.heap.size, 9, none⟩ (.slice (some ⟨g3, 0, none⟩) nd c3)).heap.size := by simpa using hg3b
        clear q0 q1 q2 q3 q4 q5 q6 q7 q8 q9 z0 z1 z2 z3 z4 z5 z6 z7 z8 z9 zf zg T3 NB3 F3' OE EU3 O4 B4' T4 hg3b
        generalize w7.setCell ⟨X2.heap.size, 9, none⟩ (.slice (some ⟨g3, 0, none⟩) nd c3) = X4 at *
        have BX4 := Lib.hid (BX2.out.trans (B5'.out.mono (by omega)))
        have F4 := Lib.hid ((B5'.out.block gF hgFX2).trans F2.out)
        have hmu := HMu.out
        have K4 := Lib.hid (K3.out.below BX4.out)
        have hX3X4 : X2.heap.size < X4.heap.size := (Array.getElem?_eq_some_iff.1 T5.out).1
        obtain ⟨q0, q1, q2, q3, q4, q5, q6, q7, q8, q9⟩ := scB_cell F4.out
        rw [hnd.out, hdA.out] at q9
        obtain ⟨w0', w1', w2', w3', w4', w5', w6', w7', w8', w9'⟩ := ouB_cell T5.out
        obtain ⟨d0, d1, d2, d3, d4⟩ := atD (show AtE ED X4 b (off + k * 5) u from HDt.out.below BX4.out hbB)
        rw [hp.out] at d4
        have EUt := Lib.hid (show Es ER X4 X4.heap.size u.A u.x.tris from (K4.out.at'.dx u hmu).more (by omega))
        have gk := O5.out
        obtain ⟨b5, off5, e5, -, hat5⟩ := (ownE_es gk).2.2.at hu.out
        obtain ⟨rfl, rfl⟩ : b5 = g3 ∧ off5 = 0 := by
          have := e5
          simp at this
          exact ⟨this.1.symm, this.2.symm⟩
        have HL5 := Lib.hid (atD (show AtE ED X4 b5 (0 + k * 5) u from hat5))
        have hgF4 : gF < X4.heap.size := by omega
        have NM1 := Lib.hid (show ¬ gF = b5 by omega)
        have NM2 := Lib.hid (show ¬ b = b5 by omega)
        have NM3 := Lib.hid (show ¬ X2.heap.size = b5 by omega)
        clear gk e5 hat5 hmu
        have y0 : ∀ w', Om (fun b => b = b5) X4 w' → w'.cell? ⟨gF, 9, none⟩ = some (.slice (some ⟨b, off, none⟩) nd f.dc) := fun w' h => h.cell (by assumption) NM1.out
        have y1 : ∀ w', Om (fun b => b = b5) X4 w' → w'.cell? ⟨b, off + k * 5 + 4, none⟩ = some (.slice u.A p u.c) := fun w' h => h.cell (by assumption) NM2.out
        have y2 : ∀ w', Om (fun b => b = b5) X4 w' → w'.cell? ⟨X2.heap.size, 9, none⟩ = some (.slice (some ⟨b5, 0, none⟩) nd c3) := fun w' h => h.cell (by assumption) NM3.out
        refine wp_region_held_drew (S := fun w' => Om (fun b => b = b5) X4 w') (by kernel_rfl) (om_drew _ _) (fun hS => ?_)
        have B_t0 := Lib.hid (show Below X4.heap.size X4 X4.drew from (Below.refl _ _).drew)
        generalize X4.drew = t0 at *
        clear q0 q1 q2 q3 q4 q5 q6 q7 q8 q9 d0 d1 d2 d3 d4 w0' w1' w2' w3' w4' w5' w6' w7' w8' w9'
        refine wpAnyH_take (i := 0) (v := .pointer (some ⟨X2.heap.size, 9, none⟩)) rfl (by kernel_rfl) (by kernel_rfl) (by kernel_rfl) (fun _ _ _ h => h) (Or.inl ⟨by rfl, fun w hw => by have z0 := y0 w hw; have z1 := y1 w hw; have z2 := y2 w hw; go_simp <;> (intro h; exact absurd h (by omega))⟩) hS ?_
        try simp only [Act.put, List.setIfInBounds_toArray, List.set_cons_zero, List.set_cons_succ, List.getElem_toArray, List.getElem_cons_zero]
        refine wpAnyH_take (i := 1) (v := .slice (some ⟨b5, 0, none⟩) nd c3) rfl (by kernel_rfl) (by kernel_rfl) (by kernel_rfl) (fun _ _ _ h => h) (Or.inl ⟨by rfl, fun w hw => by have z0 := y0 w hw; have z1 := y1 w hw; have z2 := y2 w hw; go_simp <;> (intro h; exact absurd h (by omega))⟩) hS ?_
        try simp only [Act.put, List.setIfInBounds_toArray, List.set_cons_zero, List.set_cons_succ, List.getElem_toArray, List.getElem_cons_zero, List.getElem_cons_succ]
        refine wpAnyH_take (i := 2) (v := .int .i64 k) rfl (by kernel_rfl) (by kernel_rfl) (by kernel_rfl) (fun _ _ _ h => h) (Or.inl ⟨by rfl, fun w hw => by have z0 := y0 w hw; have z1 := y1 w hw; have z2 := y2 w hw; go_simp <;> (intro h; exact absurd h (by omega))⟩) hS ?_
        try simp only [Act.put, List.setIfInBounds_toArray, List.set_cons_zero, List.set_cons_succ, List.getElem_toArray, List.getElem_cons_zero, List.getElem_cons_succ]
        refine wpAnyH_take (i := 3) (v := .agg #[.int .i64 7, .int .i64 0, .int .i64 0, .int .i64 0]) rfl (by kernel_rfl) (by kernel_rfl) (by kernel_rfl) (fun _ _ _ h => h) (Or.inl ⟨by rfl, fun w hw => by have z0 := y0 w hw; have z1 := y1 w hw; have z2 := y2 w hw; go_simp <;> (intro h; exact absurd h (by omega))⟩) hS ?_
        try simp only [Act.put, List.setIfInBounds_toArray, List.set_cons_zero, List.set_cons_succ, List.getElem_toArray, List.getElem_cons_zero, List.getElem_cons_succ]
        refine wpAnyH_take (i := 4) (v := .agg #[.int .i64 7, .int .i64 0, .int .i64 0, .int .i64 0]) rfl (by kernel_rfl) (by kernel_rfl) (by kernel_rfl) (fun _ _ _ h => h) (Or.inl ⟨by rfl, fun w hw => by have z0 := y0 w hw; have z1 := y1 w hw; have z2 := y2 w hw; go_simp <;> (intro h; exact absurd h (by omega))⟩) hS ?_
        try simp only [Act.put, List.setIfInBounds_toArray, List.set_cons_zero, List.set_cons_succ, List.getElem_toArray, List.getElem_cons_zero, List.getElem_cons_succ]
        refine wpAnyH_take (i := 6) (v := .pointer (some ⟨gF, 9, none⟩)) rfl (by kernel_rfl) (by kernel_rfl) (by kernel_rfl) (fun _ _ _ h => h) (Or.inl ⟨by rfl, fun w hw => by have z0 := y0 w hw; have z1 := y1 w hw; have z2 := y2 w hw; go_simp <;> (intro h; exact absurd h (by omega))⟩) hS ?_
        try simp only [Act.put, List.setIfInBounds_toArray, List.set_cons_zero, List.set_cons_succ, List.getElem_toArray, List.getElem_cons_zero, List.getElem_cons_succ]
        refine wpAnyH_take (i := 7) (v := .slice (some ⟨b, off, none⟩) nd f.dc) rfl (by kernel_rfl) (by kernel_rfl) (by kernel_rfl) (fun _ _ _ h => h) (Or.inl ⟨by rfl, fun w hw => by have z0 := y0 w hw; have z1 := y1 w hw; have z2 := y2 w hw; go_simp <;> (intro h; exact absurd h (by omega))⟩) hS ?_
        try simp only [Act.put, List.setIfInBounds_toArray, List.set_cons_zero, List.set_cons_succ, List.getElem_toArray, List.getElem_cons_zero, List.getElem_cons_succ]
        refine wpAnyH_take (i := 8) (v := .int .i64 k) rfl (by kernel_rfl) (by kernel_rfl) (by kernel_rfl) (fun _ _ _ h => h) (Or.inl ⟨by rfl, fun w hw => by have z0 := y0 w hw; have z1 := y1 w hw; have z2 := y2 w hw; go_simp <;> (intro h; exact absurd h (by omega))⟩) hS ?_
        try simp only [Act.put, List.setIfInBounds_toArray, List.set_cons_zero, List.set_cons_succ, List.getElem_toArray, List.getElem_cons_zero, List.getElem_cons_succ]
        refine wpAnyH_take (i := 9) (v := .pointer (some ⟨b, off + k * 5, none⟩)) rfl (by kernel_rfl) (by kernel_rfl) (by kernel_rfl) (fun _ _ _ h => h) (Or.inl ⟨by rfl, fun w hw => by have z0 := y0 w hw; have z1 := y1 w hw; have z2 := y2 w hw; go_simp <;> (intro h; exact absurd h (by omega))⟩) hS ?_
        try simp only [Act.put, List.setIfInBounds_toArray, List.set_cons_zero, List.set_cons_succ, List.getElem_toArray, List.getElem_cons_zero, List.getElem_cons_succ]
        refine wpAnyH_take (i := 10) (v := .pointer (some ⟨b, off + k * 5 + 4, none⟩)) rfl (by kernel_rfl) (by kernel_rfl) (by kernel_rfl) (fun _ _ _ h => h) (Or.inl ⟨by rfl, fun w hw => by have z0 := y0 w hw; have z1 := y1 w hw; have z2 := y2 w hw; go_simp <;> (intro h; exact absurd h (by omega))⟩) hS ?_
        try simp only [Act.put, List.setIfInBounds_toArray, List.set_cons_zero, List.set_cons_succ, List.getElem_toArray, List.getElem_cons_zero, List.getElem_cons_succ]
        refine wpAnyH_take (i := 11) (v := .slice u.A p u.c) rfl (by kernel_rfl) (by kernel_rfl) (by kernel_rfl) (fun _ _ _ h => h) (Or.inl ⟨by rfl, fun w hw => by have z0 := y0 w hw; have z1 := y1 w hw; have z2 := y2 w hw; go_simp <;> (intro h; exact absurd h (by omega))⟩) hS ?_
        try simp only [Act.put, List.setIfInBounds_toArray, List.set_cons_zero, List.set_cons_succ, List.getElem_toArray, List.getElem_cons_zero, List.getElem_cons_succ]
        refine wpAnyH_ready (rs := [5]) (by kernel_rfl) (by simp) ?_
        refine AllReadyH.cons rfl (fun K hK => ?_) AllReadyH.nil
        go_simp
        have B_t1 := Lib.hid (B_t0.out.alloc B_t0.out.size (.cells #[.int .i64 7, .int .i64 0, .int .i64 0, .int .i64 0, .int .i64 7, .int .i64 0, .int .i64 0, .int .i64 0] 47))
        have OW := Lib.hid (show OwnE ER (t0.alloc (.cells #[.int .i64 7, .int .i64 0, .int .i64 0, .int .i64 0, .int .i64 7, .int .i64 0, .int .i64 0, .int .i64 0] 47)) X4.heap.size (.slice (some ⟨t0.heap.size, 0, none⟩) 2 2) [⟨7, 0, 0, 0⟩, ⟨7, 0, 0, 0⟩] from (own_new (E := ER) t0 [⟨7, 0, 0, 0⟩, ⟨7, 0, 0, 0⟩] #[.int .i64 7, .int .i64 0, .int .i64 0, .int .i64 0, .int .i64 7, .int .i64 0, .int .i64 0, .int .i64 0] rfl (by simp)).less B_t0.out.size)
        refine hK.out _ _ ⟨B_t1.out.size, fun b h1 _ => B_t1.out.block b h1⟩ (fun hS => ?_)
        clear hK K
        try simp only [Act.put, List.setIfInBounds_toArray, List.set_cons_zero, List.set_cons_succ, List.getElem_toArray, List.getElem_cons_zero, List.getElem_cons_succ]
        generalize t0.alloc (.cells #[.int .i64 7, .int .i64 0, .int .i64 0, .int .i64 0, .int .i64 7, .int .i64 0, .int .i64 0, .int .i64 0] 47) = t1 at *
        refine wpAnyH_ready (rs := [12]) (by kernel_rfl) (by simp) ?_
        refine AllReadyH.cons rfl (fun K hK => ?_) AllReadyH.nil
        rw [if_pos (by rfl)]
        refine opw_append_len RR (.tmp 115) (.tmp 121) u.c p hp.out rfl rfl rfl OW.out (EUt.out.below B_t1.out) (by simp) (by have := hp.out; omega) B_t1.out.size ?_
        intro v' t2 h1 h2 h3
        obtain ⟨hO, hB⟩ := ownE_app OW.out h1 h2 B_t1.out.size
        have B_t2 := Lib.hid (B_t1.out.trans hB)
        obtain ⟨A5, c5, e5, hc5, -, he5⟩ := hO.es
        obtain ⟨n5, hn5⟩ : ∃ n, ([(⟨7, 0, 0, 0⟩ : Tr), ⟨7, 0, 0, 0⟩] ++ u.x.tris).length = n := ⟨_, rfl⟩
        rw [hn5] at e5 hc5
        subst e5
        have E5 := Lib.hid he5
        have E5b := Lib.hid (fun (bb oo : Nat) (e : A5 = some ⟨bb, oo, none⟩) => ownE_ge hO bb (by rw [e]; simp [Value.ownBlock]))
        replace hn5 := Lib.hid hn5
        clear h1 h2 h3 hO hB he5
        refine hK.out _ _ ⟨B_t2.out.size, fun b h1 _ => B_t2.out.block b h1⟩ (fun hS => ?_)
        clear hK K
        try simp only [Act.put, List.setIfInBounds_toArray, List.set_cons_zero, List.set_cons_succ, List.getElem_toArray, List.getElem_cons_zero, List.getElem_cons_succ]
        refine wpAnyH_take (i := 13) (v := .pointer (some ⟨b5, k * 5, none⟩)) rfl (by kernel_rfl) (by kernel_rfl) (by kernel_rfl) (fun _ _ _ h => h) (Or.inl ⟨by rfl, fun w hw => by have z0 := y0 w hw; have z1 := y1 w hw; have z2 := y2 w hw; go_simp <;> (intro h; exact absurd h (by omega))⟩) hS ?_
        try simp only [Act.put, List.setIfInBounds_toArray, List.set_cons_zero, List.set_cons_succ, List.getElem_toArray, List.getElem_cons_zero, List.getElem_cons_succ]
        refine wpAnyH_take (i := 14) (v := .pointer (some ⟨b5, k * 5 + 4, none⟩)) rfl (by kernel_rfl) (by kernel_rfl) (by kernel_rfl) (fun _ _ _ h => h) (Or.inl ⟨by rfl, fun w hw => by have z0 := y0 w hw; have z1 := y1 w hw; have z2 := y2 w hw; go_simp <;> (intro h; exact absurd h (by omega))⟩) hS ?_
        try simp only [Act.put, List.setIfInBounds_toArray, List.set_cons_zero, List.set_cons_succ, List.getElem_toArray, List.getElem_cons_zero, List.getElem_cons_succ]
        have O6 := Lib.hid (O5.out.keep B_t2.out)
        have of6 := ownE_free O6.out (k * 5 + 4)
        obtain ⟨l0, l1, l2, l3, l4⟩ := HL5.out
        rw [Nat.zero_add, hp.out] at l4
        have c6 : t2.cell? ⟨b5, k * 5 + 4, none⟩ = some (.slice u.A p u.c) := (B_t2.out.cell (p := ⟨b5, k * 5 + 4, none⟩) hg3s).trans l4
        have z6 : b5 < t2.heap.size := World.block_lt_of_cell? _ _ c6
        clear l0 l1 l2 l3 l4
        refine wpAnyH_ready (rs := [15]) (by kernel_rfl) (by simp) ?_
        refine AllReadyH.cons rfl (fun K hK => ?_) AllReadyH.nil
        go_simp
        refine hK.out _ _ ((show Om (fun b => b = b5) X4 t2 from ⟨B_t2.out.size, fun b h1 _ => B_t2.out.block b h1⟩).set (.inl rfl)) (fun hS => ?_)
        clear hK K hS y0 y1 y2
        try simp only [Act.put, List.setIfInBounds_toArray, List.set_cons_zero, List.set_cons_succ, List.getElem_toArray, List.getElem_cons_zero, List.getElem_cons_succ]
        refine wpAnyH_done (by kernel_rfl) ?_ _
        go_upto_region 25 with fail
        have HP7 := Lib.hid (show (twT u.x).tris.length = n5 from hn5.out)
        have O7 := Lib.hid (show OwnE ED (t2.setCell ⟨b5, k * 5 + 4, none⟩ (.slice A5 n5 c5)) X3.heap.size (.slice (some ⟨b5, 0, none⟩) nd c3) (f.ds.set k ⟨twT u.x, A5, c5⟩) from by
          have h := ownE_set (r := 4) (u := u) (u' := (⟨twT u.x, A5, c5⟩ : Lo Dr)) (x := .slice A5 n5 c5) O6.out hu.out (by decide) (by rw [← HP7.out]; rfl)
          exact h)
        have BZ := Lib.hid ((B5'.out.trans (B_t2.out.mono (by omega))).setCell (p := ⟨b5, k * 5 + 4, none⟩) (by show X2.heap.size ≤ b5; omega) (.slice A5 n5 c5))
        have BZ2 := Lib.hid (B_t2.out.trans ((Below.refl t2.heap.size t2).mono B_t2.out.size))
        have T7' := Lib.hid (show (t2.setCell ⟨b5, k * 5 + 4, none⟩ (.slice A5 n5 c5)).heap[X2.heap.size]? = some (ouB f.w f.h f.k (.slice f.vA f.vs.length f.vc) (.slice f.tA f.ts.length f.tc) (.slice f.pA f.ps.length f.pc) (.slice (some ⟨b5, 0, none⟩) nd c3)) from (heap_setCell_other _ _ _ _ (by simp; omega)).trans ((B_t2.out.block X2.heap.size hX3X4).trans T5.out))
        have E7 := Lib.hid (show Es ER (t2.setCell ⟨b5, k * 5 + 4, none⟩ (.slice A5 n5 c5)) (t2.setCell ⟨b5, k * 5 + 4, none⟩ (.slice A5 n5 c5)).heap.size A5 (twT u.x).tris from by
          have h := E5.out
          intro hne
          obtain ⟨bb, oo, e, hb, hc⟩ := h hne
          refine ⟨bb, oo, e, by simpa using hb, fun j x hj => ?_⟩
          refine (hc j x hj).same (heap_setCell_other _ _ _ _ ?_)
          have hbb : X4.heap.size ≤ bb := E5b.out bb oo e
          simp
          omega)
        generalize t2.setCell ⟨b5, k * 5 + 4, none⟩ (.slice A5 n5 c5) = Z at *
        have hXZ := BZ.out.size
        have KZ := Lib.hid (K3.out.below (BX2.out.trans (BZ.out.mono (by omega))))
        have hmu := HMu.out
        have hdx : ∀ l ∈ f.ds, Es ER Z Z.heap.size l.A l.x.tris := fun l hl => (KZ.out.at'.dx l hl).more (by omega)
        have hlen := hnd.out
        have htw : (twT u.x).ok := by
          have h := d_okl KZ.out u hmu
          refine ⟨h.id, h.prog, h.tex, fun t ht => ?_⟩
          rcases List.mem_append.1 (show t ∈ [(⟨7, 0, 0, 0⟩ : Tr), ⟨7, 0, 0, 0⟩] ++ u.x.tris from ht) with ht | ht
          · simp at ht
            rw [ht]
            exact ⟨i64s (by decide) (by decide), i64s (by decide) (by decide), i64s (by decide) (by decide), i64s (by decide) (by decide)⟩
          · exact h.tris t ht
        have K8 := Lib.hid (KZ.out.wl (ls := f.ds ++ [u]) (A := some ⟨g, 0, none⟩) (c := c) (base := U1.heap.size) (by omega) (by
            rw [List.length_append]
            exact O2.out.keep BZ.out) (fun l hl => by
            rcases List.mem_append.1 hl with hl | hl
            · exact hdx l hl
            · obtain rfl : l = u := by simpa using hl
              exact hdx l hmu) (fun l hl => by
            rcases List.mem_append.1 hl with hl | hl
            · exact KZ.out.cap.dx l hl
            · obtain rfl : l = u := by simpa using hl
              exact KZ.out.cap.dx l hmu) (fun l hl => by
            rcases List.mem_append.1 hl with hl | hl
            · exact d_okl KZ.out l hl
            · obtain rfl : l = u := by simpa using hl
              exact d_okl KZ.out l hmu) (fun l hl => by
            rcases List.mem_append.1 hl with hl | hl
            · exact KZ.out.sfew.dx l hl
            · obtain rfl : l = u := by simpa using hl
              exact KZ.out.sfew.dx l hmu) (by rw [List.length_append]; simp; omega))
        have htn : (twT u.x).tris.length ≤ 1000 := by
          show ([(⟨7, 0, 0, 0⟩ : Tr), ⟨7, 0, 0, 0⟩] ++ u.x.tris).length ≤ 1000
          rw [List.length_append, hp.out]
          simp
          omega
        have K9 := Lib.hid (KZ.out.wl (ls := f.ds.set k ⟨twT u.x, A5, c5⟩) (A := some ⟨b5, 0, none⟩) (c := c3) (base := X3.heap.size) (by omega) (by
            rw [List.length_set, hlen]
            exact O7.out) (fun l hl => by
            rcases mem_set hl with hl | rfl
            · exact hdx l hl
            · exact E7.out) (fun l hl => by
            rcases mem_set hl with hl | rfl
            · exact KZ.out.cap.dx l hl
            · show (twT u.x).tris.length ≤ c5
              rw [HP7.out]
              exact hc5) (fun l hl => by
            rcases mem_set hl with hl | rfl
            · exact d_okl KZ.out l hl
            · exact htw) (fun l hl => by
            rcases mem_set hl with hl | rfl
            · exact KZ.out.sfew.dx l hl
            · exact htn) (by rw [List.length_set]; omega))
        have P8 := Lib.hid (show (f.wl (f.ds ++ [u]) (some ⟨g, 0, none⟩) c).p = f.p.wd (f.p.ds ++ [u.x]) by rw [wl_p, List.map_append]; rfl)
        have P9 := Lib.hid (show (f.wl (f.ds.set k ⟨twT u.x, A5, c5⟩) (some ⟨b5, 0, none⟩) c3).p = f.p.wd (f.p.ds.set k (twT u.x)) by rw [wl_p, List.map_set]; rfl)
        have W8 := Lib.hid (show Z.heap[U.heap.size]? = some (scB (f.wl (f.ds ++ [u]) (some ⟨g, 0, none⟩) c)) from by
          have h := (BZ.out.block U.heap.size hUX2).trans W2.out
          rw [h]
          unfold scB ouB Sc.wl
          simp)
        have W9 := Lib.hid (show Z.heap[X2.heap.size]? = some (scB (f.wl (f.ds.set k ⟨twT u.x, A5, c5⟩) (some ⟨b5, 0, none⟩) c3)) from by
          rw [T7'.out]
          unfold scB ouB Sc.wl
          simp [hlen])
        obtain ⟨y8, hy8⟩ : ∃ y, f.wl (f.ds ++ [u]) (some ⟨g, 0, none⟩) c = y := ⟨_, rfl⟩
        obtain ⟨y9, hy9⟩ : ∃ y, f.wl (f.ds.set k ⟨twT u.x, A5, c5⟩) (some ⟨b5, 0, none⟩) c3 = y := ⟨_, rfl⟩
        rw [hy8] at K8 P8 W8
        rw [hy9] at K9 P9 W9
        have hpu : f.p.ds[k]? = some u.x := by
          show (f.ds.map Lo.x)[k]? = some u.x
          rw [List.getElem?_map, hu.out]
          rfl
        have C8 := Lib.hid (K8.out.check (k := 25) (by rw [P8.out]; exact check_again HFit.out.c (by have := HFit.out.d; omega) (List.mem_of_getElem? hpu)) (Nat.le_refl _))
        have C9 := Lib.hid (K9.out.check (k := 25) (by rw [P9.out]; exact check_tw HFit.out.c HFit.out.v.1 hpu (by have := HFit.out.n u.x (List.mem_of_getElem? hpu); omega)) (Nat.le_refl _))
        have BW := Lib.hid (BU2.out.trans (BZ.out.mono BU2.out.size))
        clear hy8 hy9 hpu hdx hmu htw htn hlen
        obtain ⟨z0, z1, z2, z3, z4, z5, z6, z7, z8, z9⟩ := scB_cell W8.out
        go_wp2_with fail
        with_reducible refine (C8.out Z (Below.refl _ _)).mono ?_
        rintro e w8 ⟨rfl, hb⟩
        clear z0 z1 z2 z3 z4 z5 z6 z7 z8 z9
        have B8 := Lib.hid hb
        obtain ⟨z0, z1, z2, z3, z4, z5, z6, z7, z8, z9⟩ := scB_cell ((hb.block _ (Array.getElem?_eq_some_iff.1 W9.out).1).trans W9.out)
        clear hb
        go_wp2_with fail
        with_reducible refine (C9.out w8 B8.out).mono ?_
        rintro e w9 ⟨rfl, hb⟩
        have B9 := Lib.hid (bstep (bstep BW.out BW.out.size B8.out) (by have := BW.out.size; have := B8.out.size; omega) hb)
        clear hb
        go_wp2_with fail
        go_ret
        exact ⟨rfl, B9.out⟩
    · obtain ⟨i, hi⟩ : ∃ i, r = i + 1 := ⟨r - 1, by omega⟩
      obtain rfl : z = (i : Int) := by omega
      rw [hi] at HX
      have hin : i < nd := by omega
      clear hr0 hz hi hr
      obtain ⟨u, hu⟩ := LD.out i hin
      obtain ⟨b, off, rfl, hbB, hat⟩ := EDs.out.at hu
      obtain ⟨d0, d1, d2, d3, d4⟩ := atD (show AtE ED wr b (off + i * 5) u from hat.below HBr.out hbB)
      obtain ⟨p, hp⟩ : ∃ p, u.x.tris.length = p := ⟨_, rfl⟩
      rw [hp] at d4
      have hmu := List.mem_of_getElem? hu
      have hp10 : p ≤ 10 := by rw [← hp]; exact HFit.out.n u.x (List.mem_map.2 ⟨u, hmu, rfl⟩)
      have HEt := Lib.hid (show Es ER X0 gB u.A u.x.tris from K3.out.at'.dx u hmu)
      have HDt := Lib.hid (show AtE ED X0 b (off + i * 5) u from hat)
      have HU := Lib.hid (drop_rev revD hu)
      replace hp := Lib.hid hp
      replace hu := Lib.hid hu
      clear hat hmu
      have s9r := HS.out wr HBr.out
      have hgi0 : decide ((i : Int) ≥ 0) = true := by simp
      have hini : (i : Int) < nd := by omega
      have hgFr : gF < wr.heap.size := by omega
      go_upto_region 9 with fail
      have GD := Lib.hid (heap_alloc_new wr (.cells #[.int .i64 u.x.id, .int .i64 u.x.prog, .int .i64 u.x.tex, .bool u.x.op, .slice u.A p u.c] 42))
      have BD := Lib.hid (new_below wr (.cells #[.int .i64 u.x.id, .int .i64 u.x.prog, .int .i64 u.x.tex, .bool u.x.op, .slice u.A p u.c] 42))
      have ZD : (wr.alloc (.cells #[.int .i64 u.x.id, .int .i64 u.x.prog, .int .i64 u.x.tex, .bool u.x.op, .slice u.A p u.c] 42)).heap.size = wr.heap.size + 1 := by simp
      generalize wr.alloc (.cells #[.int .i64 u.x.id, .int .i64 u.x.prog, .int .i64 u.x.tex, .bool u.x.op, .slice u.A p u.c] 42) = Wd at *
      clear d0 d1 d2 d3 d4 s9r
      have c4 := Joins.cell_of_block GD.out 4
      have fr : Wd.frozen? ⟨wr.heap.size, 4, none⟩ = false := by simp [World.frozen?, GD.out]
      have hgDd : wr.heap.size < Wd.heap.size := by omega
      replace ZD := Lib.hid ZD
      go_upto_region 10 with fail
      have GX := Lib.hid (show (Wd.setCell ⟨wr.heap.size, 4, none⟩ (.slice none 0 0)).heap[wr.heap.size]? = some (.cells #[.int .i64 u.x.id, .int .i64 u.x.prog, .int .i64 u.x.tex, .bool u.x.op, .slice none 0 0] 42 (0, 0)) from Eq.trans (heap_setCell_same _ _ 4 _ _ (.slice none 0 0) GD.out) (by simp))
      have BX := Lib.hid (BD.out.setCell (p := ⟨wr.heap.size, 4, none⟩) (Nat.le_refl _) (.slice none 0 0))
      have hgDx : wr.heap.size < (Wd.setCell ⟨wr.heap.size, 4, none⟩ (.slice none 0 0)).heap.size := by simpa using hgDd
      generalize Wd.setCell ⟨wr.heap.size, 4, none⟩ (.slice none 0 0) = V5 at *
      clear c4 fr GD BD hgDd ZD
      have BX5 := Lib.hid (HBr.out.trans (BX.out.mono (by omega)))
      obtain ⟨d0, d1, d2, d3, d4⟩ := atD (show AtE ED V5 b (off + i * 5) u from HDt.out.below BX5.out hbB)
      rw [hp.out] at d4
      have s9r := HS.out V5 BX5.out
      have wk2 : IntKind.i64.wrap ((p : Int) - 1) = p - 1 := by rw [IntKind.wrap_i64]; omega
      have hgF5 : gF < V5.heap.size := by omega
      go_wp2_with fail
      go_loopw [10] (fun i' wi => ∃ (q : Nat) (y : Int) (v2 : Value) (ts : List Tr), q ≤ p ∧ i' = .int .i64 y ∧ y + 1 = q ∧ ts = (u.x.tris.drop q).reverse ∧ OwnE ER wi V5.heap.size v2 ts ∧ V5.heap.size ≤ wi.heap.size ∧ wi.heap[wr.heap.size]? = some (.cells #[.int .i64 u.x.id, .int .i64 u.x.prog, .int .i64 u.x.tex, .bool u.x.op, v2] 42 (0, 0)) ∧ Below wr.heap.size wr wi) (fun i' _ => (intOf i' + 1).toNat)
      case atStart => exact ⟨p, (p : Int) - 1, _, [], Nat.le_refl _, rfl, by omega, by rw [List.drop_of_length_le (by rw [hp.out]; exact Nat.le_refl _)]; rfl, OwnE.nil _ _, Nat.le_refl _, GX.out, BX.out⟩
      case round =>
        rename World => wi
        obtain ⟨q, y, v2, ts, hq, rfl, hy, ht, hot, hst, hgx, hbw⟩ := hrel
        have HT := Lib.hid ht
        have HOT := Lib.hid hot
        have HGX := Lib.hid hgx
        have HBw := Lib.hid hbw
        have htl : ts.length ≤ 10 := by
          rw [ht, List.length_reverse, List.length_drop, hp.out]
          omega
        clear ht hot hgx hbw d0 d1 d2 d3 d4 s9r wk2
        by_cases hq0 : q = 0
        · obtain rfl : y = -1 := by omega
          rw [hq0] at HT
          clear hq0 hy hq
          obtain ⟨tA2, tc2, hv2, htc2, -, -⟩ := HOT.out.es
          obtain ⟨n5, hn5⟩ : ∃ n, ts.length = n := ⟨_, rfl⟩
          rw [hn5] at hv2 htc2
          subst hv2
          replace hn5 := Lib.hid hn5
          have htr : ts = u.x.tris.reverse := HT.out
          have hwV : wr.heap.size < V5.heap.size := hgDx
          have K6 := Lib.hid (HBw.out.alloc HBw.out.size (.cells #[.int .i64 u.x.id, .int .i64 u.x.prog, .int .i64 u.x.tex, .bool u.x.op, .slice tA2 n5 tc2] 42))
          have N6 := Lib.hid ((HN.out.keep HBw.out).own.alloc (.cells #[.int .i64 u.x.id, .int .i64 u.x.prog, .int .i64 u.x.tex, .bool u.x.op, .slice tA2 n5 tc2] 42))
          have hrl : (revD u.x).tris.length = n5 := by rw [← hn5.out, htr]; rfl
          have ES6 := Lib.hid (es_one (E := ED) (x := ⟨revD u.x, tA2, tc2⟩) (cs := #[.int .i64 u.x.id, .int .i64 u.x.prog, .int .i64 u.x.tex, .bool u.x.op, .slice tA2 n5 tc2]) (by show [Value.int .i64 u.x.id, .int .i64 u.x.prog, .int .i64 u.x.tex, .bool u.x.op, .slice tA2 n5 tc2] = [Value.int .i64 u.x.id, .int .i64 u.x.prog, .int .i64 u.x.tex, .bool u.x.op, .slice tA2 (revD u.x).tris.length tc2]; rw [hrl]) (heap_alloc_new wi (.cells #[.int .i64 u.x.id, .int .i64 u.x.prog, .int .i64 u.x.tex, .bool u.x.op, .slice tA2 n5 tc2] 42)))
          have EI6 := Lib.hid (show EsP ER (wi.alloc (.cells #[.int .i64 u.x.id, .int .i64 u.x.prog, .int .i64 u.x.tex, .bool u.x.op, .slice tA2 n5 tc2] 42)) (fun b => X0.heap.size ≤ b ∧ v.ownBlock ≠ some b) tA2 (revD u.x).tris from by
            have h := (HOT.out.toP.keep (w' := wi.alloc (.cells #[.int .i64 u.x.id, .int .i64 u.x.prog, .int .i64 u.x.tex, .bool u.x.op, .slice tA2 n5 tc2] 42)) (fun b h1 h2 => by rw [Below.heap_alloc _ _ _ h2])).imp (q := fun b => X0.heap.size ≤ b ∧ v.ownBlock ≠ some b) fun b h1 _ => ⟨by omega, fun e => by have := ownE_lt HN.out.own e; omega⟩
            rw [htr] at h
            exact h)
          have HGi := Lib.hid ((HBw.out.block gB (by omega)).trans HG.out)
          obtain ⟨q0, q1, q2, q3, q4, q5, q6, q7, q8, q9⟩ := ouB_cell HGi.out
          have m0 := Joins.cell_of_block HGX.out 0
          have m1 := Joins.cell_of_block HGX.out 1
          have m2 := Joins.cell_of_block HGX.out 2
          have m3 := Joins.cell_of_block HGX.out 3
          have m4 := Joins.cell_of_block HGX.out 4
          have hgzj : gB < wi.heap.size := (Array.getElem?_eq_some_iff.1 HGi.out).1
          have hgDi : wr.heap.size < wi.heap.size := (Array.getElem?_eq_some_iff.1 HGX.out).1
          have hgm : decide ((-1 : Int) ≥ 0) = false := by simp
          clear htr hrl
          go_wp2_with (at_builtin; refine wpList_append_len rfl RD _ _ 1 1 (show [(⟨revD u.x, tA2, tc2⟩ : Lo Dr)].length = 1 from rfl) rfl rfl rfl N6.out ES6.out (by omega) (by simp) (by simp; omega) ?_; intro v' w7 h1 h2 h3; obtain ⟨g', cap', rfl⟩ := ownsRow_succ h1; obtain ⟨hN7, hB7⟩ := HN.out.app K6.out hs h1 h2 h3 EI6.out (show (revD u.x).tris.length ≤ tc2 by have := hn5.out; have e : (revD u.x).tris.length = n5 := (congrArg List.length HT.out).symm.trans this; exact e ▸ htc2); have N7 := Lib.hid hN7; have B7' := Lib.hid hB7; have G7 := Lib.hid ((hB7.block gB hgX).trans HG.out); obtain ⟨z0, z1, z2, z3, z4, z5, z6, z7, z8, z9⟩ := ouB_cell G7.out; have zf := ouB_free G7.out 9; have zg : gB < w7.heap.size := (Array.getElem?_eq_some_iff.1 G7.out).1; clear h1 h2 h3 hN7 hB7)
          go_roundw
          case rel => exact ⟨i, (i : Int) - 1, _, ls ++ [⟨revD u.x, tA2, tc2⟩], by omega, by go_num, by omega, by rw [List.map_append, HX.out, HU.out]; rfl, N7.out.set hgX, by have := B7'.out.size; simp; omega, ouB_set9 _ G7.out, (HBr.out.trans (B7'.out.mono (by omega))).setCell (p := ⟨gB, 9, none⟩) (Nat.le_refl _) _⟩
          case measure => simp [intOf] <;> omega
        · obtain ⟨j, hj⟩ : ∃ j, q = j + 1 := ⟨q - 1, by omega⟩
          obtain rfl : y = (j : Int) := by omega
          rw [hj] at HT
          have hjp : j < p := by omega
          clear hq0 hy hj hq
          obtain ⟨tr, ht⟩ := get_lt (l := u.x.tris) (k := j) (by rw [hp.out]; exact hjp)
          obtain ⟨b2, off2, hA2, hb2, hat2⟩ := HEt.out.at ht
          have BXi := Lib.hid (HBr.out.trans (HBw.out.mono (by omega)))
          obtain ⟨d0, d1, d2, d3, d4⟩ := atD (show AtE ED wi b (off + i * 5) u from HDt.out.below BXi.out hbB)
          rw [hp.out, hA2] at d4
          obtain ⟨r0, r1, r2, r3⟩ := atR (show AtE ER wi b2 (off2 + j * 4) tr from hat2.below BXi.out hb2)
          have s9i := HS.out wi BXi.out
          have g4 := Joins.cell_of_block HGX.out 4
          have HU2 := Lib.hid (drop_rev1 ht)
          have hgDi : wr.heap.size < wi.heap.size := (Array.getElem?_eq_some_iff.1 HGX.out).1
          have hv2b : ∀ x, v2.ownBlock = some x → V5.heap.size ≤ x := fun x e => ownE_ge HOT.out x e
          have NM1 := Lib.hid (show ¬ (gF = wr.heap.size ∨ v2.ownBlock = some gF) from fun e => e.elim (fun h => by omega) (fun h => by have := hv2b _ h; omega))
          have NM2 := Lib.hid (show ¬ (b = wr.heap.size ∨ v2.ownBlock = some b) from fun e => e.elim (fun h => by omega) (fun h => by have := hv2b _ h; omega))
          have NM3 := Lib.hid (show ¬ (b2 = wr.heap.size ∨ v2.ownBlock = some b2) from fun e => e.elim (fun h => by omega) (fun h => by have := hv2b _ h; omega))
          have hji : (j : Int) < p := by omega
          have hgj0 : decide ((j : Int) ≥ 0) = true := by simp
          replace hv2b := Lib.hid hv2b
          replace hA2 := Lib.hid hA2
          replace ht := Lib.hid ht
          clear hat2 d0 d1 d2 d3
          go_upto_region 13 with fail
          have y0 : ∀ w', Om (fun b => b = wr.heap.size ∨ v2.ownBlock = some b) wi w' → w'.cell? ⟨gF, 9, none⟩ = some (.slice (some ⟨b, off, none⟩) nd f.dc) := fun w' h => h.cell (by assumption) (NM1.out)
          have y1 : ∀ w', Om (fun b => b = wr.heap.size ∨ v2.ownBlock = some b) wi w' → w'.cell? ⟨b, off + i * 5 + 4, none⟩ = some (.slice (some ⟨b2, off2, none⟩) p u.c) := fun w' h => h.cell (by assumption) (NM2.out)
          have y2 : ∀ w', Om (fun b => b = wr.heap.size ∨ v2.ownBlock = some b) wi w' → w'.cell? ⟨b2, off2 + j * 4, none⟩ = some (.int .i64 tr.i) := fun w' h => h.cell (by assumption) (NM3.out)
          have y3 : ∀ w', Om (fun b => b = wr.heap.size ∨ v2.ownBlock = some b) wi w' → w'.cell? ⟨b2, off2 + j * 4 + 1, none⟩ = some (.int .i64 tr.a) := fun w' h => h.cell (by assumption) (NM3.out)
          have y4 : ∀ w', Om (fun b => b = wr.heap.size ∨ v2.ownBlock = some b) wi w' → w'.cell? ⟨b2, off2 + j * 4 + 2, none⟩ = some (.int .i64 tr.b) := fun w' h => h.cell (by assumption) (NM3.out)
          have y5 : ∀ w', Om (fun b => b = wr.heap.size ∨ v2.ownBlock = some b) wi w' → w'.cell? ⟨b2, off2 + j * 4 + 3, none⟩ = some (.int .i64 tr.c) := fun w' h => h.cell (by assumption) (NM3.out)
          refine wp_region_held_drew (S := fun w' => Om (fun b => b = wr.heap.size ∨ v2.ownBlock = some b) wi w') (by kernel_rfl) (om_drew _ _) (fun hS => ?_)
          have B_t0 := Lib.hid (show Below wi.heap.size wi wi.drew from (Below.refl _ _).drew)
          have M_t0 := Lib.hid (om_drew (fun b => b = wr.heap.size ∨ v2.ownBlock = some b) wi)
          generalize wi.drew = t0 at *
          refine wpAnyH_take (i := 0) (v := .pointer (some ⟨wr.heap.size, 4, none⟩)) rfl (by kernel_rfl) (by kernel_rfl) (by kernel_rfl) (fun _ _ _ h => h) (Or.inl ⟨by rfl, fun w hw => by have z0 := y0 w hw; have z1 := y1 w hw; have z2 := y2 w hw; have z3 := y3 w hw; have z4 := y4 w hw; have z5 := y5 w hw; go_simp⟩) hS ?_
          try simp only [Act.put, List.setIfInBounds_toArray, List.set_cons_zero, List.set_cons_succ, List.getElem_toArray, List.getElem_cons_zero]
          refine wpAnyH_take (i := 2) (v := .pointer (some ⟨gF, 9, none⟩)) rfl (by kernel_rfl) (by kernel_rfl) (by kernel_rfl) (fun _ _ _ h => h) (Or.inl ⟨by rfl, fun w hw => by have z0 := y0 w hw; have z1 := y1 w hw; have z2 := y2 w hw; have z3 := y3 w hw; have z4 := y4 w hw; have z5 := y5 w hw; go_simp⟩) hS ?_
          try simp only [Act.put, List.setIfInBounds_toArray, List.set_cons_zero, List.set_cons_succ, List.getElem_toArray, List.getElem_cons_zero, List.getElem_cons_succ]
          refine wpAnyH_take (i := 3) (v := .slice (some ⟨b, off, none⟩) nd f.dc) rfl (by kernel_rfl) (by kernel_rfl) (by kernel_rfl) (fun _ _ _ h => h) (Or.inl ⟨by rfl, fun w hw => by have z0 := y0 w hw; have z1 := y1 w hw; have z2 := y2 w hw; have z3 := y3 w hw; have z4 := y4 w hw; have z5 := y5 w hw; go_simp⟩) hS ?_
          try simp only [Act.put, List.setIfInBounds_toArray, List.set_cons_zero, List.set_cons_succ, List.getElem_toArray, List.getElem_cons_zero, List.getElem_cons_succ]
          refine wpAnyH_take (i := 4) (v := .int .i64 i) rfl (by kernel_rfl) (by kernel_rfl) (by kernel_rfl) (fun _ _ _ h => h) (Or.inl ⟨by rfl, fun w hw => by have z0 := y0 w hw; have z1 := y1 w hw; have z2 := y2 w hw; have z3 := y3 w hw; have z4 := y4 w hw; have z5 := y5 w hw; go_simp⟩) hS ?_
          try simp only [Act.put, List.setIfInBounds_toArray, List.set_cons_zero, List.set_cons_succ, List.getElem_toArray, List.getElem_cons_zero, List.getElem_cons_succ]
          refine wpAnyH_take (i := 5) (v := .pointer (some ⟨b, off + i * 5, none⟩)) rfl (by kernel_rfl) (by kernel_rfl) (by kernel_rfl) (fun _ _ _ h => h) (Or.inl ⟨by rfl, fun w hw => by have z0 := y0 w hw; have z1 := y1 w hw; have z2 := y2 w hw; have z3 := y3 w hw; have z4 := y4 w hw; have z5 := y5 w hw; go_simp <;> (intro h; exact absurd h (by omega))⟩) hS ?_
          try simp only [Act.put, List.setIfInBounds_toArray, List.set_cons_zero, List.set_cons_succ, List.getElem_toArray, List.getElem_cons_zero, List.getElem_cons_succ]
          refine wpAnyH_take (i := 6) (v := .pointer (some ⟨b, off + i * 5 + 4, none⟩)) rfl (by kernel_rfl) (by kernel_rfl) (by kernel_rfl) (fun _ _ _ h => h) (Or.inl ⟨by rfl, fun w hw => by have z0 := y0 w hw; have z1 := y1 w hw; have z2 := y2 w hw; have z3 := y3 w hw; have z4 := y4 w hw; have z5 := y5 w hw; go_simp⟩) hS ?_
          try simp only [Act.put, List.setIfInBounds_toArray, List.set_cons_zero, List.set_cons_succ, List.getElem_toArray, List.getElem_cons_zero, List.getElem_cons_succ]
          refine wpAnyH_take (i := 7) (v := .slice (some ⟨b2, off2, none⟩) p u.c) rfl (by kernel_rfl) (by kernel_rfl) (by kernel_rfl) (fun _ _ _ h => h) (Or.inl ⟨by rfl, fun w hw => by have z0 := y0 w hw; have z1 := y1 w hw; have z2 := y2 w hw; have z3 := y3 w hw; have z4 := y4 w hw; have z5 := y5 w hw; go_simp⟩) hS ?_
          try simp only [Act.put, List.setIfInBounds_toArray, List.set_cons_zero, List.set_cons_succ, List.getElem_toArray, List.getElem_cons_zero, List.getElem_cons_succ]
          refine wpAnyH_take (i := 8) (v := .int .i64 j) rfl (by kernel_rfl) (by kernel_rfl) (by kernel_rfl) (fun _ _ _ h => h) (Or.inl ⟨by rfl, fun w hw => by have z0 := y0 w hw; have z1 := y1 w hw; have z2 := y2 w hw; have z3 := y3 w hw; have z4 := y4 w hw; have z5 := y5 w hw; go_simp⟩) hS ?_
          try simp only [Act.put, List.setIfInBounds_toArray, List.set_cons_zero, List.set_cons_succ, List.getElem_toArray, List.getElem_cons_zero, List.getElem_cons_succ]
          refine wpAnyH_take (i := 9) (v := .pointer (some ⟨b2, off2 + j * 4, none⟩)) rfl (by kernel_rfl) (by kernel_rfl) (by kernel_rfl) (fun _ _ _ h => h) (Or.inl ⟨by rfl, fun w hw => by have z0 := y0 w hw; have z1 := y1 w hw; have z2 := y2 w hw; have z3 := y3 w hw; have z4 := y4 w hw; have z5 := y5 w hw; go_simp <;> (intro h; exact absurd h (by omega))⟩) hS ?_
          try simp only [Act.put, List.setIfInBounds_toArray, List.set_cons_zero, List.set_cons_succ, List.getElem_toArray, List.getElem_cons_zero, List.getElem_cons_succ]
          refine wpAnyH_take (i := 10) (v := .agg #[.int .i64 tr.i, .int .i64 tr.a, .int .i64 tr.b, .int .i64 tr.c]) rfl (by kernel_rfl) (by kernel_rfl) (by kernel_rfl) (fun _ _ _ h => h) (Or.inl ⟨by rfl, fun w hw => by have z0 := y0 w hw; have z1 := y1 w hw; have z2 := y2 w hw; have z3 := y3 w hw; have z4 := y4 w hw; have z5 := y5 w hw; go_simp⟩) hS ?_
          try simp only [Act.put, List.setIfInBounds_toArray, List.set_cons_zero, List.set_cons_succ, List.getElem_toArray, List.getElem_cons_zero, List.getElem_cons_succ]
          refine wpAnyH_ready (rs := [1, 11]) (by kernel_rfl) (by simp) ?_
          refine AllReadyH.cons rfl (fun K hK => ?_) ?_
          · skip
            have ldc : t0.cell? ⟨wr.heap.size, 4, none⟩ = some v2 := (B_t0.out.cell (p := ⟨wr.heap.size, 4, none⟩) hgDi).trans g4
            have lds := Nat.lt_of_lt_of_le hgDi B_t0.out.size
            go_simp
            refine hK.out _ _ M_t0.out (fun hS => ?_)
            clear hK K ldc lds
            try simp only [Act.put, List.setIfInBounds_toArray, List.set_cons_zero, List.set_cons_succ, List.getElem_toArray, List.getElem_cons_zero, List.getElem_cons_succ]
            refine wpAnyH_ready (rs := [11]) (by kernel_rfl) (by simp) ?_
            refine AllReadyH.cons rfl (fun K hK => ?_) AllReadyH.nil
            go_simp
            refine hK.out _ _ (M_t0.out.alloc _) (fun hS => ?_)
            clear hK K hS
            try simp only [Act.put, List.setIfInBounds_toArray, List.set_cons_zero, List.set_cons_succ, List.getElem_toArray, List.getElem_cons_zero, List.getElem_cons_succ]
            obtain ⟨t1, ht⟩ : ∃ t, t = t0.alloc (.cells #[.int .i64 tr.i, .int .i64 tr.a, .int .i64 tr.b, .int .i64 tr.c] 47) := ⟨_, rfl⟩
            change wpAnyH _ _ _ _ _ _ _ _ (t0.alloc (.cells #[.int .i64 tr.i, .int .i64 tr.a, .int .i64 tr.b, .int .i64 tr.c] 47))
            rw [← ht]
            have B_t1 := Lib.hid (show Below wi.heap.size wi t1 by rw [ht]; exact B_t0.out.alloc B_t0.out.size _)
            have M_t1 := Lib.hid (show Om (fun b => b = wr.heap.size ∨ v2.ownBlock = some b) wi t1 by rw [ht]; exact M_t0.out.alloc _)
            have G_t1 := Lib.hid (show t1.heap[t0.heap.size]? = some (.cells #[.int .i64 tr.i, .int .i64 tr.a, .int .i64 tr.b, .int .i64 tr.c] 47 (0, 0)) by rw [ht]; exact heap_alloc_new _ _)
            have Z_t1 : t1.heap.size = t0.heap.size + 1 := by rw [ht]; simp
            have hS := M_t1.out
            clear ht
            refine wpAnyH_ready (rs := [12]) (by kernel_rfl) (by simp) ?_
            refine AllReadyH.cons rfl (fun K hK => ?_) AllReadyH.nil
            rw [if_pos (by rfl)]
            refine opw_append_len RR (.tmp 46) (.tmp 56) 1 1 (show [tr].length = 1 from rfl) rfl rfl rfl (HOT.out.keep B_t1.out) (es_one (E := ER) (x := tr) (cs := #[.int .i64 tr.i, .int .i64 tr.a, .int .i64 tr.b, .int .i64 tr.c]) rfl G_t1.out) (by omega) (by simp) (by have := B_t1.out.size; omega) ?_
            intro v' w7 h1 h2 h3
            obtain ⟨g', cap', rfl⟩ := ownsRow_succ h1
            obtain ⟨hO7, hB7a⟩ := ownE_app (HOT.out.keep B_t1.out) h1 h2 (by have := B_t1.out.size; omega)
            have hB7 := (B_t1.out.mono hst).trans hB7a
            have M7 := Lib.hid (M_t1.out.grown h2 (fun r e => .inl (.inr e)))
            have G7 := Lib.hid ((hB7.block wr.heap.size hgDx).trans HGX.out)
            have z4 := Joins.cell_of_block G7.out 4
            have zf : w7.frozen? ⟨wr.heap.size, 4, none⟩ = false := by simp [World.frozen?, G7.out]
            have zg : wr.heap.size < w7.heap.size := (Array.getElem?_eq_some_iff.1 G7.out).1
            have O7 := Lib.hid hO7
            have B7' := Lib.hid hB7
            clear h1 h2 h3 hO7 hB7 hB7a
            refine hK.out _ _ M7.out (fun hS => ?_)
            clear hK K
            try simp only [Act.put, List.setIfInBounds_toArray, List.set_cons_zero, List.set_cons_succ, List.getElem_toArray, List.getElem_cons_zero, List.getElem_cons_succ]
            refine wpAnyH_take (i := 13) (v := .pointer (some ⟨wr.heap.size, 4, none⟩)) rfl (by kernel_rfl) (by kernel_rfl) (by kernel_rfl) (fun _ _ _ h => h) (Or.inl ⟨by rfl, fun w hw => by go_simp⟩) hS ?_
            try simp only [Act.put, List.setIfInBounds_toArray, List.set_cons_zero, List.set_cons_succ, List.getElem_toArray, List.getElem_cons_zero, List.getElem_cons_succ]
            refine wpAnyH_ready (rs := [14]) (by kernel_rfl) (by simp) ?_
            refine AllReadyH.cons rfl (fun K hK => ?_) AllReadyH.nil
            go_simp
            refine hK.out _ _ (M7.out.set (.inl (.inl rfl))) (fun hS => ?_)
            clear hK K hS
            try simp only [Act.put, List.setIfInBounds_toArray, List.set_cons_zero, List.set_cons_succ, List.getElem_toArray, List.getElem_cons_zero, List.getElem_cons_succ]
            refine wpAnyH_done (by kernel_rfl) ?_ _
            go_wp2_with fail
            go_roundw
            case rel => exact ⟨j, (j : Int) - 1, _, ts ++ [tr], by omega, by go_num, by omega, by rw [HU2.out, HT.out], O7.out.setCell hgDx, by have := B7'.out.size; simp; omega, (heap_setCell_same _ _ 4 _ _ _ G7.out).trans (by simp), (HBw.out.trans (B7'.out.mono (by omega))).setCell (p := ⟨wr.heap.size, 4, none⟩) (Nat.le_refl _) _⟩
            case measure => simp [intOf] <;> omega
          refine AllReadyH.cons rfl (fun K hK => ?_) ?_
          · skip
            go_simp
            refine hK.out _ _ (M_t0.out.alloc _) (fun hS => ?_)
            clear hK K hS
            try simp only [Act.put, List.setIfInBounds_toArray, List.set_cons_zero, List.set_cons_succ, List.getElem_toArray, List.getElem_cons_zero, List.getElem_cons_succ]
            obtain ⟨t2, ht⟩ : ∃ t, t = t0.alloc (.cells #[.int .i64 tr.i, .int .i64 tr.a, .int .i64 tr.b, .int .i64 tr.c] 47) := ⟨_, rfl⟩
            change wpAnyH _ _ _ _ _ _ _ _ (t0.alloc (.cells #[.int .i64 tr.i, .int .i64 tr.a, .int .i64 tr.b, .int .i64 tr.c] 47))
            rw [← ht]
            have B_t2 := Lib.hid (show Below wi.heap.size wi t2 by rw [ht]; exact B_t0.out.alloc B_t0.out.size _)
            have M_t2 := Lib.hid (show Om (fun b => b = wr.heap.size ∨ v2.ownBlock = some b) wi t2 by rw [ht]; exact M_t0.out.alloc _)
            have G_t2 := Lib.hid (show t2.heap[t0.heap.size]? = some (.cells #[.int .i64 tr.i, .int .i64 tr.a, .int .i64 tr.b, .int .i64 tr.c] 47 (0, 0)) by rw [ht]; exact heap_alloc_new _ _)
            have Z_t2 : t2.heap.size = t0.heap.size + 1 := by rw [ht]; simp
            have hS := M_t2.out
            clear ht
            refine wpAnyH_ready (rs := [1]) (by kernel_rfl) (by simp) ?_
            refine AllReadyH.cons rfl (fun K hK => ?_) AllReadyH.nil
            have ldc : t2.cell? ⟨wr.heap.size, 4, none⟩ = some v2 := (B_t2.out.cell (p := ⟨wr.heap.size, 4, none⟩) hgDi).trans g4
            have lds := Nat.lt_of_lt_of_le hgDi B_t2.out.size
            go_simp
            refine hK.out _ _ M_t2.out (fun hS => ?_)
            clear hK K ldc lds
            try simp only [Act.put, List.setIfInBounds_toArray, List.set_cons_zero, List.set_cons_succ, List.getElem_toArray, List.getElem_cons_zero, List.getElem_cons_succ]
            refine wpAnyH_ready (rs := [12]) (by kernel_rfl) (by simp) ?_
            refine AllReadyH.cons rfl (fun K hK => ?_) AllReadyH.nil
            rw [if_pos (by rfl)]
            refine opw_append_len RR (.tmp 46) (.tmp 56) 1 1 (show [tr].length = 1 from rfl) rfl rfl rfl (HOT.out.keep B_t2.out) (es_one (E := ER) (x := tr) (cs := #[.int .i64 tr.i, .int .i64 tr.a, .int .i64 tr.b, .int .i64 tr.c]) rfl G_t2.out) (by omega) (by simp) (by have := B_t2.out.size; omega) ?_
            intro v' w7 h1 h2 h3
            obtain ⟨g', cap', rfl⟩ := ownsRow_succ h1
            obtain ⟨hO7, hB7a⟩ := ownE_app (HOT.out.keep B_t2.out) h1 h2 (by have := B_t2.out.size; omega)
            have hB7 := (B_t2.out.mono hst).trans hB7a
            have M7 := Lib.hid (M_t2.out.grown h2 (fun r e => .inl (.inr e)))
            have G7 := Lib.hid ((hB7.block wr.heap.size hgDx).trans HGX.out)
            have z4 := Joins.cell_of_block G7.out 4
            have zf : w7.frozen? ⟨wr.heap.size, 4, none⟩ = false := by simp [World.frozen?, G7.out]
            have zg : wr.heap.size < w7.heap.size := (Array.getElem?_eq_some_iff.1 G7.out).1
            have O7 := Lib.hid hO7
            have B7' := Lib.hid hB7
            clear h1 h2 h3 hO7 hB7 hB7a
            refine hK.out _ _ M7.out (fun hS => ?_)
            clear hK K
            try simp only [Act.put, List.setIfInBounds_toArray, List.set_cons_zero, List.set_cons_succ, List.getElem_toArray, List.getElem_cons_zero, List.getElem_cons_succ]
            refine wpAnyH_take (i := 13) (v := .pointer (some ⟨wr.heap.size, 4, none⟩)) rfl (by kernel_rfl) (by kernel_rfl) (by kernel_rfl) (fun _ _ _ h => h) (Or.inl ⟨by rfl, fun w hw => by go_simp⟩) hS ?_
            try simp only [Act.put, List.setIfInBounds_toArray, List.set_cons_zero, List.set_cons_succ, List.getElem_toArray, List.getElem_cons_zero, List.getElem_cons_succ]
            refine wpAnyH_ready (rs := [14]) (by kernel_rfl) (by simp) ?_
            refine AllReadyH.cons rfl (fun K hK => ?_) AllReadyH.nil
            go_simp
            refine hK.out _ _ (M7.out.set (.inl (.inl rfl))) (fun hS => ?_)
            clear hK K hS
            try simp only [Act.put, List.setIfInBounds_toArray, List.set_cons_zero, List.set_cons_succ, List.getElem_toArray, List.getElem_cons_zero, List.getElem_cons_succ]
            refine wpAnyH_done (by kernel_rfl) ?_ _
            go_wp2_with fail
            go_roundw
            case rel => exact ⟨j, (j : Int) - 1, _, ts ++ [tr], by omega, by go_num, by omega, by rw [HU2.out, HT.out], O7.out.setCell hgDx, by have := B7'.out.size; simp; omega, (heap_setCell_same _ _ 4 _ _ _ G7.out).trans (by simp), (HBw.out.trans (B7'.out.mono (by omega))).setCell (p := ⟨wr.heap.size, 4, none⟩) (Nat.le_refl _) _⟩
            case measure => simp [intOf] <;> omega
          exact AllReadyH.nil
end Go.Proofs.Ytnpcmoeleigpoaa
