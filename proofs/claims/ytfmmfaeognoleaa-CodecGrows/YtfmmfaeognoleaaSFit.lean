/-
  The contract of the reference's Fit.
-/
import Derived.Test.YtfmmfaeognoleaaM9
namespace Go.Proofs.Ytfmmfaeognoleaa
open Go.RowKit
attribute [local go_sem ↓] Go.wp_at_zero Go.wp_at_succ

set_option maxRecDepth 100000 in
set_option maxHeartbeats 16000000 in
theorem sfit_any (s : Sc) (most verts draws tris : Nat) (hm0 : 1 ≤ most) (hm1 : most ≤ 64) (hv63 : verts ≤ 63) (hd8 : draws ≤ 8) (ht32 : tris ≤ 32) (w : World) (ha : s.at w w.heap.size) (hc : s.ok) :
  Calls Try.prog 11 #[.agg #[.int .i64 s.w, .int .i64 s.h, .int .u8 s.k.r, .int .u8 s.k.g, .int .u8 s.k.b, .int .u8 s.k.a, .slice s.vA s.vs.length s.vc, .slice s.tA s.ts.length s.tc, .slice s.pA s.ps.length s.pc, .slice s.dA s.ds.length s.dc], .int .i64 most, .int .i64 verts, .int .i64 draws, .int .i64 tris] w (Fits s most verts draws tris w) := by
 obtain ⟨RV⟩ := rowV
 obtain ⟨RT⟩ := rowT
 obtain ⟨RP⟩ := rowP
 obtain ⟨RD⟩ := rowD
 obtain ⟨RR⟩ := rowR
 have HA := Lib.hid ha
 have HC := Lib.hid hc
 have HW := Lib.hid (rmod_bel s.w most hc.w (by omega) (by omega))
 have HH := Lib.hid (rmod_bel s.h most hc.h (by omega) (by omega))
 have HK := Lib.hid (fun w => rpre_col s.k w hc.k)
 have qw := emod_in s.w (m := most) (by omega)
 have qh := emod_in s.h (m := most) (by omega)
 obtain ⟨ow, how⟩ : ∃ q, s.w % (most : Int) = q := ⟨_, rfl⟩
 obtain ⟨oh, hoh⟩ : ∃ q, s.h % (most : Int) = q := ⟨_, rfl⟩
 obtain ⟨ok, hok⟩ : ∃ k, pre s.k = k := ⟨_, rfl⟩
 rw [how] at HW qw
 rw [hoh] at HH qh
 rw [hok] at HK
 obtain ⟨oW, hoW⟩ : ∃ q, 1 + ow = q := ⟨_, rfl⟩
 obtain ⟨oH, hoH⟩ : ∃ q, 1 + oh = q := ⟨_, rfl⟩
 have wq0 : IntKind.i64.wrap (1 + ow) = oW := by rw [hoW, IntKind.wrap_i64]; omega
 have wq1 : IntKind.i64.wrap (1 + oh) = oH := by rw [hoH, IntKind.wrap_i64]; omega
 have EWH := Lib.hid (show (1 + s.w % (most : Int) = oW ∧ 1 + s.h % (most : Int) = oH) ∧ pre s.k = ok from ⟨⟨by rw [how]; exact hoW, by rw [hoh]; exact hoH⟩, hok⟩)
 clear how hoh hok hoW hoH
 obtain ⟨n1, hn1⟩ : ∃ n, s.vs.length = n := ⟨_, rfl⟩
 obtain ⟨vA, hvA⟩ : ∃ a, s.vA = a := ⟨_, rfl⟩
 obtain ⟨n2, hn2⟩ : ∃ n, s.ts.length = n := ⟨_, rfl⟩
 obtain ⟨tA, htA⟩ : ∃ a, s.tA = a := ⟨_, rfl⟩
 obtain ⟨n3, hn3⟩ : ∃ n, s.ps.length = n := ⟨_, rfl⟩
 obtain ⟨pA, hpA⟩ : ∃ a, s.pA = a := ⟨_, rfl⟩
 obtain ⟨n4, hn4⟩ : ∃ n, s.ds.length = n := ⟨_, rfl⟩
 obtain ⟨dA, hdA⟩ : ∃ a, s.dA = a := ⟨_, rfl⟩
 rw [hn1, hn2, hn3, hn4, hvA, htA, hpA, hdA]
 have EVs := Lib.hid (show Es EV w w.heap.size vA s.vs by rw [← hvA]; exact ha.v)
 have ETs := Lib.hid (show Es ET w w.heap.size tA s.ts by rw [← htA]; exact ha.t)
 have EPs := Lib.hid (show Es EP w w.heap.size pA s.ps by rw [← hpA]; exact ha.p)
 have EDs := Lib.hid (show Es ED w w.heap.size dA s.ds by rw [← hdA]; exact ha.d)
 have LV := Lib.hid (fun (k : Nat) (h : k < n1) => get_lt (l := s.vs) (k := k) (by rw [hn1]; exact h))
 have LT := Lib.hid (fun (k : Nat) (h : k < n2) => get_lt (l := s.ts) (k := k) (by rw [hn2]; exact h))
 have LP := Lib.hid (fun (k : Nat) (h : k < n3) => get_lt (l := s.ps) (k := k) (by rw [hn3]; exact h))
 have LD := Lib.hid (fun (k : Nat) (h : k < n4) => get_lt (l := s.ds) (k := k) (by rw [hn4]; exact h))
 replace hn1 := Lib.hid hn1
 replace hn2 := Lib.hid hn2
 replace hn3 := Lib.hid hn3
 replace hn4 := Lib.hid hn4
 replace hvA := Lib.hid hvA
 replace htA := Lib.hid htA
 replace hpA := Lib.hid hpA
 replace hdA := Lib.hid hdA
 clear ha hc
 go_enter Try.func11, Try.ntmps11
 go_wp2_with fail
 have SX : ((w.alloc (.cells #[.int .i64 s.w, .int .i64 s.h, .int .u8 s.k.r, .int .u8 s.k.g, .int .u8 s.k.b, .int .u8 s.k.a, .slice vA n1 s.vc, .slice tA n2 s.tc, .slice pA n3 s.pc, .slice dA n4 s.dc] 33)).alloc (.cells #[.int .i64 0, .int .i64 0, .int .u8 0, .int .u8 0, .int .u8 0, .int .u8 0, .slice none 0 0, .slice none 0 0, .slice none 0 0, .slice none 0 0] 33)).heap[w.heap.size]? = some (ouB s.w s.h s.k (.slice vA n1 s.vc) (.slice tA n2 s.tc) (.slice pA n3 s.pc) (.slice dA n4 s.dc)) := by
  rw [Below.heap_alloc _ _ _ (by simp)]
  exact heap_alloc_new _ _
 have RX : ((w.alloc (.cells #[.int .i64 s.w, .int .i64 s.h, .int .u8 s.k.r, .int .u8 s.k.g, .int .u8 s.k.b, .int .u8 s.k.a, .slice vA n1 s.vc, .slice tA n2 s.tc, .slice pA n3 s.pc, .slice dA n4 s.dc] 33)).alloc (.cells #[.int .i64 0, .int .i64 0, .int .u8 0, .int .u8 0, .int .u8 0, .int .u8 0, .slice none 0 0, .slice none 0 0, .slice none 0 0, .slice none 0 0] 33)).heap[w.heap.size + 1]? = some (ouB 0 0 zC (.slice none 0 0) (.slice none 0 0) (.slice none 0 0) (.slice none 0 0)) := by
  have h := heap_alloc_new (w.alloc (.cells #[.int .i64 s.w, .int .i64 s.h, .int .u8 s.k.r, .int .u8 s.k.g, .int .u8 s.k.b, .int .u8 s.k.a, .slice vA n1 s.vc, .slice tA n2 s.tc, .slice pA n3 s.pc, .slice dA n4 s.dc] 33)) (ouB 0 0 zC (.slice none 0 0) (.slice none 0 0) (.slice none 0 0) (.slice none 0 0))
  simp only [World.size_alloc] at h
  exact h
 have BX : Below w.heap.size w ((w.alloc (.cells #[.int .i64 s.w, .int .i64 s.h, .int .u8 s.k.r, .int .u8 s.k.g, .int .u8 s.k.b, .int .u8 s.k.a, .slice vA n1 s.vc, .slice tA n2 s.tc, .slice pA n3 s.pc, .slice dA n4 s.dc] 33)).alloc (.cells #[.int .i64 0, .int .i64 0, .int .u8 0, .int .u8 0, .int .u8 0, .int .u8 0, .slice none 0 0, .slice none 0 0, .slice none 0 0, .slice none 0 0] 33)) := ((new_below _ _).alloc (by simp) _)
 have ZX : ((w.alloc (.cells #[.int .i64 s.w, .int .i64 s.h, .int .u8 s.k.r, .int .u8 s.k.g, .int .u8 s.k.b, .int .u8 s.k.a, .slice vA n1 s.vc, .slice tA n2 s.tc, .slice pA n3 s.pc, .slice dA n4 s.dc] 33)).alloc (.cells #[.int .i64 0, .int .i64 0, .int .u8 0, .int .u8 0, .int .u8 0, .int .u8 0, .slice none 0 0, .slice none 0 0, .slice none 0 0, .slice none 0 0] 33)).heap.size = w.heap.size + 2 := by simp
 generalize ((w.alloc (.cells #[.int .i64 s.w, .int .i64 s.h, .int .u8 s.k.r, .int .u8 s.k.g, .int .u8 s.k.b, .int .u8 s.k.a, .slice vA n1 s.vc, .slice tA n2 s.tc, .slice pA n3 s.pc, .slice dA n4 s.dc] 33)).alloc (.cells #[.int .i64 0, .int .i64 0, .int .u8 0, .int .u8 0, .int .u8 0, .int .u8 0, .slice none 0 0, .slice none 0 0, .slice none 0 0, .slice none 0 0] 33)) = X at *
 replace SX := Lib.hid SX
 replace RX := Lib.hid RX
 replace BX := Lib.hid BX
 go_cut [11] from 21 to 34 (fun p Xc => ∃ h, p = .pointer (some ⟨h, 0, none⟩) ∧ X.heap.size ≤ h ∧ Below X.heap.size X Xc ∧ Xc.heap[h]? = some (ouB oW oH ok (.slice none 0 0) (.slice none 0 0) (.slice none 0 0) (.slice none 0 0)))
 case first =>
  obtain ⟨s0, s1, s2, s3, s4, s5, s6, s7, s8, s9⟩ := ouB_cell SX.out
  have y0 : ∀ x : Grow X, x.w.cell? ⟨w.heap.size, 0, none⟩ = some (.int .i64 s.w) := fun x => x.cell s0
  have y1 : ∀ x : Grow X, x.w.cell? ⟨w.heap.size, 1, none⟩ = some (.int .i64 s.h) := fun x => x.cell s1
  have y2 : ∀ x : Grow X, x.w.cell? ⟨w.heap.size, 2, none⟩ = some (.int .u8 s.k.r) := fun x => x.cell s2
  have y3 : ∀ x : Grow X, x.w.cell? ⟨w.heap.size, 3, none⟩ = some (.int .u8 s.k.g) := fun x => x.cell s3
  have y4 : ∀ x : Grow X, x.w.cell? ⟨w.heap.size, 4, none⟩ = some (.int .u8 s.k.b) := fun x => x.cell s4
  have y5 : ∀ x : Grow X, x.w.cell? ⟨w.heap.size, 5, none⟩ = some (.int .u8 s.k.a) := fun x => x.cell s5
  refine wp_region_held_drew (S := fun w' => ∃ x : Grow X, w' = x.w) (by as_aux_lemma => kernel_rfl) ⟨⟨_, (Below.refl _ _).drew⟩, rfl⟩ (fun hS => ?_)
  have BY := Lib.hid (show Below X.heap.size X X.drew from (Below.refl _ _).drew)
  generalize X.drew = Y at *
  clear s0 s1 s2 s3 s4 s5 s6 s7 s8 s9
  refine wpAnyH_take (i := 0) (v := .pointer (some ⟨w.heap.size, 0, none⟩)) rfl (by as_aux_lemma => kernel_rfl) (by as_aux_lemma => kernel_rfl) (by as_aux_lemma => kernel_rfl) (fun _ _ _ h => h) (Or.inl ⟨by rfl, fun w hw => by obtain ⟨x, rfl⟩ := hw; go_simp⟩) hS ?_
  try simp only [Act.put, List.setIfInBounds_toArray, List.set_cons_zero, List.set_cons_succ, List.getElem_toArray, List.getElem_cons_zero]
  refine wpAnyH_take (i := 1) (v := .int .i64 s.w) rfl (by as_aux_lemma => kernel_rfl) (by as_aux_lemma => kernel_rfl) (by as_aux_lemma => kernel_rfl) (fun _ _ _ h => h) (Or.inl ⟨by rfl, fun w hw => by obtain ⟨x, rfl⟩ := hw; go_simp⟩) hS ?_
  try simp only [Act.put, List.setIfInBounds_toArray, List.set_cons_zero, List.set_cons_succ, List.getElem_toArray, List.getElem_cons_zero, List.getElem_cons_succ]
  refine wpAnyH_take (i := 2) (v := .int .i64 most) rfl (by as_aux_lemma => kernel_rfl) (by as_aux_lemma => kernel_rfl) (by as_aux_lemma => kernel_rfl) (fun _ _ _ h => h) (Or.inl ⟨by rfl, fun w hw => by obtain ⟨x, rfl⟩ := hw; go_simp⟩) hS ?_
  try simp only [Act.put, List.setIfInBounds_toArray, List.set_cons_zero, List.set_cons_succ, List.getElem_toArray, List.getElem_cons_zero, List.getElem_cons_succ]
  refine wpAnyH_take (i := 5) (v := .pointer (some ⟨w.heap.size, 1, none⟩)) rfl (by as_aux_lemma => kernel_rfl) (by as_aux_lemma => kernel_rfl) (by as_aux_lemma => kernel_rfl) (fun _ _ _ h => h) (Or.inl ⟨by rfl, fun w hw => by obtain ⟨x, rfl⟩ := hw; go_simp⟩) hS ?_
  try simp only [Act.put, List.setIfInBounds_toArray, List.set_cons_zero, List.set_cons_succ, List.getElem_toArray, List.getElem_cons_zero, List.getElem_cons_succ]
  refine wpAnyH_take (i := 6) (v := .int .i64 s.h) rfl (by as_aux_lemma => kernel_rfl) (by as_aux_lemma => kernel_rfl) (by as_aux_lemma => kernel_rfl) (fun _ _ _ h => h) (Or.inl ⟨by rfl, fun w hw => by obtain ⟨x, rfl⟩ := hw; go_simp⟩) hS ?_
  try simp only [Act.put, List.setIfInBounds_toArray, List.set_cons_zero, List.set_cons_succ, List.getElem_toArray, List.getElem_cons_zero, List.getElem_cons_succ]
  refine wpAnyH_take (i := 7) (v := .int .i64 most) rfl (by as_aux_lemma => kernel_rfl) (by as_aux_lemma => kernel_rfl) (by as_aux_lemma => kernel_rfl) (fun _ _ _ h => h) (Or.inl ⟨by rfl, fun w hw => by obtain ⟨x, rfl⟩ := hw; go_simp⟩) hS ?_
  try simp only [Act.put, List.setIfInBounds_toArray, List.set_cons_zero, List.set_cons_succ, List.getElem_toArray, List.getElem_cons_zero, List.getElem_cons_succ]
  refine wpAnyH_take (i := 10) (v := .pointer (some ⟨w.heap.size, 2, none⟩)) rfl (by as_aux_lemma => kernel_rfl) (by as_aux_lemma => kernel_rfl) (by as_aux_lemma => kernel_rfl) (fun _ _ _ h => h) (Or.inl ⟨by rfl, fun w hw => by obtain ⟨x, rfl⟩ := hw; go_simp⟩) hS ?_
  try simp only [Act.put, List.setIfInBounds_toArray, List.set_cons_zero, List.set_cons_succ, List.getElem_toArray, List.getElem_cons_zero, List.getElem_cons_succ]
  refine wpAnyH_take (i := 11) (v := .agg #[.int .u8 s.k.r, .int .u8 s.k.g, .int .u8 s.k.b, .int .u8 s.k.a]) rfl (by as_aux_lemma => kernel_rfl) (by as_aux_lemma => kernel_rfl) (by as_aux_lemma => kernel_rfl) (fun _ _ _ h => h) (Or.inl ⟨by rfl, fun w hw => by obtain ⟨x, rfl⟩ := hw; go_simp⟩) hS ?_
  try simp only [Act.put, List.setIfInBounds_toArray, List.set_cons_zero, List.set_cons_succ, List.getElem_toArray, List.getElem_cons_zero, List.getElem_cons_succ]
  refine wpAnyH_ready (rs := [3, 14]) (by as_aux_lemma => kernel_rfl) (by simp) ?_
  refine AllReadyH.cons rfl (fun K hK => ?_) ?_
  ·
   skip
   go_simp
   with_reducible refine (HW.out _).mono ?_
   rintro e t1 ⟨rfl, hb⟩
   have Bt1 := Lib.hid (bstep BY.out BY.out.size hb)
   clear hb
   refine hK.out _ _ ⟨⟨_, Bt1.out⟩, rfl⟩ (fun hS => ?_)
   clear hK K
   try simp only [Act.put, List.setIfInBounds_toArray, List.set_cons_zero, List.set_cons_succ, List.getElem_toArray, List.getElem_cons_zero, List.getElem_cons_succ]
   refine wpAnyH_take (i := 4) (v := .int .i64 oW) rfl (by as_aux_lemma => kernel_rfl) (by as_aux_lemma => kernel_rfl) (by as_aux_lemma => kernel_rfl) (fun _ _ _ h => h) (Or.inl ⟨by rfl, fun w hw => by obtain ⟨x, rfl⟩ := hw; go_simp⟩) hS ?_
   try simp only [Act.put, List.setIfInBounds_toArray, List.set_cons_zero, List.set_cons_succ, List.getElem_toArray, List.getElem_cons_zero, List.getElem_cons_succ]
   refine wpAnyH_ready (rs := [8, 14]) (by as_aux_lemma => kernel_rfl) (by simp) ?_
   refine AllReadyH.cons rfl (fun K hK => ?_) ?_
   ·
    skip
    go_simp
    with_reducible refine (HH.out _).mono ?_
    rintro e t2 ⟨rfl, hb⟩
    have Bt2 := Lib.hid (bstep Bt1.out Bt1.out.size hb)
    clear hb
    refine hK.out _ _ ⟨⟨_, Bt2.out⟩, rfl⟩ (fun hS => ?_)
    clear hK K
    try simp only [Act.put, List.setIfInBounds_toArray, List.set_cons_zero, List.set_cons_succ, List.getElem_toArray, List.getElem_cons_zero, List.getElem_cons_succ]
    refine wpAnyH_take (i := 9) (v := .int .i64 oH) rfl (by as_aux_lemma => kernel_rfl) (by as_aux_lemma => kernel_rfl) (by as_aux_lemma => kernel_rfl) (fun _ _ _ h => h) (Or.inl ⟨by rfl, fun w hw => by obtain ⟨x, rfl⟩ := hw; go_simp⟩) hS ?_
    try simp only [Act.put, List.setIfInBounds_toArray, List.set_cons_zero, List.set_cons_succ, List.getElem_toArray, List.getElem_cons_zero, List.getElem_cons_succ]
    refine wpAnyH_ready (rs := [12, 14]) (by as_aux_lemma => kernel_rfl) (by simp) ?_
    refine AllReadyH.cons rfl (fun K hK => ?_) ?_
    ·
     skip
     go_simp
     with_reducible refine (HK.out _).mono ?_
     rintro e t3 ⟨rfl, hb⟩
     have Bt3 := Lib.hid (bstep Bt2.out Bt2.out.size hb)
     clear hb
     refine hK.out _ _ ⟨⟨_, Bt3.out⟩, rfl⟩ (fun hS => ?_)
     clear hK K
     try simp only [Act.put, List.setIfInBounds_toArray, List.set_cons_zero, List.set_cons_succ, List.getElem_toArray, List.getElem_cons_zero, List.getElem_cons_succ]
     refine wpAnyH_take (i := 13) (v := .agg #[.int .i64 oW, .int .i64 oH, .int .u8 ok.r, .int .u8 ok.g, .int .u8 ok.b, .int .u8 ok.a, .slice none 0 0, .slice none 0 0, .slice none 0 0, .slice none 0 0]) rfl (by as_aux_lemma => kernel_rfl) (by as_aux_lemma => kernel_rfl) (by as_aux_lemma => kernel_rfl) (fun _ _ _ h => h) (Or.inl ⟨by rfl, fun w hw => by obtain ⟨x, rfl⟩ := hw; go_simp⟩) hS ?_
     try simp only [Act.put, List.setIfInBounds_toArray, List.set_cons_zero, List.set_cons_succ, List.getElem_toArray, List.getElem_cons_zero, List.getElem_cons_succ]
     refine wpAnyH_ready (rs := [14]) (by as_aux_lemma => kernel_rfl) (by simp) ?_
     refine AllReadyH.cons rfl (fun K hK => ?_) AllReadyH.nil
     go_simp
     refine hK.out _ _ ⟨⟨_, Bt3.out.alloc Bt3.out.size _⟩, rfl⟩ (fun hS => ?_)
     clear hK K hS
     try simp only [Act.put, List.setIfInBounds_toArray, List.set_cons_zero, List.set_cons_succ, List.getElem_toArray, List.getElem_cons_zero, List.getElem_cons_succ]
     obtain ⟨t4, ht⟩ : ∃ t, t = t3.alloc (ouB 0 0 zC (.slice none 0 0) (.slice none 0 0) (.slice none 0 0) (.slice none 0 0)) := ⟨_, rfl⟩
     change wpAnyH _ _ _ _ _ _ _ _ (t3.alloc (ouB 0 0 zC (.slice none 0 0) (.slice none 0 0) (.slice none 0 0) (.slice none 0 0)))
     rw [← ht]
     have Bt4 := Lib.hid (show Below X.heap.size X t4 by rw [ht]; exact Bt3.out.alloc Bt3.out.size _)
     have Gt4 := Lib.hid (show t4.heap[t3.heap.size]? = some (ouB 0 0 zC (.slice none 0 0) (.slice none 0 0) (.slice none 0 0) (.slice none 0 0)) by rw [ht]; exact new_at1 _ _)
     have hge : X.heap.size ≤ t3.heap.size := Bt3.out.size
     have hS : ∃ x : Grow X, t4 = x.w := ⟨⟨t4, Bt4.out⟩, rfl⟩
     clear ht
     obtain ⟨o0, o1, o2, o3, o4, o5, o6, o7, o8, o9⟩ := ouB_cell Gt4.out
     have fr0 := ouB_free Gt4.out 0
     have fr1 := ouB_free Gt4.out 1
     have fr2 := ouB_free Gt4.out 2
     have fr3 := ouB_free Gt4.out 3
     have fr4 := ouB_free Gt4.out 4
     have fr5 := ouB_free Gt4.out 5
     have fr6 := ouB_free Gt4.out 6
     have fr7 := ouB_free Gt4.out 7
     have fr8 := ouB_free Gt4.out 8
     have fr9 := ouB_free Gt4.out 9
     obtain ⟨hR, hfx, hbl⟩ := ou_store (W := oW) (H := oH) (k := ok) (.slice none 0 0) (.slice none 0 0) (.slice none 0 0) (.slice none 0 0) Gt4.out
     have BL := Lib.hid (hbl X.heap.size X hge Bt4.out)
     have ZL := Lib.hid hR
     clear hR hfx hbl
     refine wpAnyH_ready (rs := [15]) (by as_aux_lemma => kernel_rfl) (by simp) ?_
     refine AllReadyH.cons rfl (fun K hK => ?_) AllReadyH.nil
     go_simp
     refine hK.out _ _ ⟨⟨_, BL.out⟩, rfl⟩ (fun hS => ?_)
     clear hK K hS
     try simp only [Act.put, List.setIfInBounds_toArray, List.set_cons_zero, List.set_cons_succ, List.getElem_toArray, List.getElem_cons_zero, List.getElem_cons_succ]
     refine wpAnyH_done (by as_aux_lemma => kernel_rfl) ?_ _
     go_wp2_with fail
     go_meet
     exact ⟨_, rfl, hge, BL.out, ZL.out⟩
    refine AllReadyH.cons rfl (fun K hK => ?_) ?_
    ·
     skip
     go_simp
     refine hK.out _ _ ⟨⟨_, Bt2.out.alloc Bt2.out.size _⟩, rfl⟩ (fun hS => ?_)
     clear hK K hS
     try simp only [Act.put, List.setIfInBounds_toArray, List.set_cons_zero, List.set_cons_succ, List.getElem_toArray, List.getElem_cons_zero, List.getElem_cons_succ]
     obtain ⟨t5, ht⟩ : ∃ t, t = t2.alloc (ouB 0 0 zC (.slice none 0 0) (.slice none 0 0) (.slice none 0 0) (.slice none 0 0)) := ⟨_, rfl⟩
     change wpAnyH _ _ _ _ _ _ _ _ (t2.alloc (ouB 0 0 zC (.slice none 0 0) (.slice none 0 0) (.slice none 0 0) (.slice none 0 0)))
     rw [← ht]
     have Bt5 := Lib.hid (show Below X.heap.size X t5 by rw [ht]; exact Bt2.out.alloc Bt2.out.size _)
     have Gt5 := Lib.hid (show t5.heap[t2.heap.size]? = some (ouB 0 0 zC (.slice none 0 0) (.slice none 0 0) (.slice none 0 0) (.slice none 0 0)) by rw [ht]; exact new_at1 _ _)
     have hge : X.heap.size ≤ t2.heap.size := Bt2.out.size
     have hS : ∃ x : Grow X, t5 = x.w := ⟨⟨t5, Bt5.out⟩, rfl⟩
     clear ht
     refine wpAnyH_ready (rs := [12]) (by as_aux_lemma => kernel_rfl) (by simp) ?_
     refine AllReadyH.cons rfl (fun K hK => ?_) AllReadyH.nil
     go_simp
     with_reducible refine (HK.out _).mono ?_
     rintro e t6 ⟨rfl, hb⟩
     have Bt6 := Lib.hid (bstep Bt5.out Bt5.out.size hb)
     have Gt6 := Lib.hid ((hb.block _ (Array.getElem?_eq_some_iff.1 Gt5.out).1).trans Gt5.out)
     clear hb
     refine hK.out _ _ ⟨⟨_, Bt6.out⟩, rfl⟩ (fun hS => ?_)
     clear hK K
     try simp only [Act.put, List.setIfInBounds_toArray, List.set_cons_zero, List.set_cons_succ, List.getElem_toArray, List.getElem_cons_zero, List.getElem_cons_succ]
     refine wpAnyH_take (i := 13) (v := .agg #[.int .i64 oW, .int .i64 oH, .int .u8 ok.r, .int .u8 ok.g, .int .u8 ok.b, .int .u8 ok.a, .slice none 0 0, .slice none 0 0, .slice none 0 0, .slice none 0 0]) rfl (by as_aux_lemma => kernel_rfl) (by as_aux_lemma => kernel_rfl) (by as_aux_lemma => kernel_rfl) (fun _ _ _ h => h) (Or.inl ⟨by rfl, fun w hw => by obtain ⟨x, rfl⟩ := hw; go_simp⟩) hS ?_
     try simp only [Act.put, List.setIfInBounds_toArray, List.set_cons_zero, List.set_cons_succ, List.getElem_toArray, List.getElem_cons_zero, List.getElem_cons_succ]
     obtain ⟨o0, o1, o2, o3, o4, o5, o6, o7, o8, o9⟩ := ouB_cell Gt6.out
     have fr0 := ouB_free Gt6.out 0
     have fr1 := ouB_free Gt6.out 1
     have fr2 := ouB_free Gt6.out 2
     have fr3 := ouB_free Gt6.out 3
     have fr4 := ouB_free Gt6.out 4
     have fr5 := ouB_free Gt6.out 5
     have fr6 := ouB_free Gt6.out 6
     have fr7 := ouB_free Gt6.out 7
     have fr8 := ouB_free Gt6.out 8
     have fr9 := ouB_free Gt6.out 9
     obtain ⟨hR, hfx, hbl⟩ := ou_store (W := oW) (H := oH) (k := ok) (.slice none 0 0) (.slice none 0 0) (.slice none 0 0) (.slice none 0 0) Gt6.out
     have BL := Lib.hid (hbl X.heap.size X hge Bt6.out)
     have ZL := Lib.hid hR
     clear hR hfx hbl
     refine wpAnyH_ready (rs := [15]) (by as_aux_lemma => kernel_rfl) (by simp) ?_
     refine AllReadyH.cons rfl (fun K hK => ?_) AllReadyH.nil
     go_simp
     refine hK.out _ _ ⟨⟨_, BL.out⟩, rfl⟩ (fun hS => ?_)
     clear hK K hS
     try simp only [Act.put, List.setIfInBounds_toArray, List.set_cons_zero, List.set_cons_succ, List.getElem_toArray, List.getElem_cons_zero, List.getElem_cons_succ]
     refine wpAnyH_done (by as_aux_lemma => kernel_rfl) ?_ _
     go_wp2_with fail
     go_meet
     exact ⟨_, rfl, hge, BL.out, ZL.out⟩
    exact AllReadyH.nil
   refine AllReadyH.cons rfl (fun K hK => ?_) ?_
   ·
    skip
    go_simp
    refine hK.out _ _ ⟨⟨_, Bt1.out.alloc Bt1.out.size _⟩, rfl⟩ (fun hS => ?_)
    clear hK K hS
    try simp only [Act.put, List.setIfInBounds_toArray, List.set_cons_zero, List.set_cons_succ, List.getElem_toArray, List.getElem_cons_zero, List.getElem_cons_succ]
    obtain ⟨t7, ht⟩ : ∃ t, t = t1.alloc (ouB 0 0 zC (.slice none 0 0) (.slice none 0 0) (.slice none 0 0) (.slice none 0 0)) := ⟨_, rfl⟩
    change wpAnyH _ _ _ _ _ _ _ _ (t1.alloc (ouB 0 0 zC (.slice none 0 0) (.slice none 0 0) (.slice none 0 0) (.slice none 0 0)))
    rw [← ht]
    have Bt7 := Lib.hid (show Below X.heap.size X t7 by rw [ht]; exact Bt1.out.alloc Bt1.out.size _)
    have Gt7 := Lib.hid (show t7.heap[t1.heap.size]? = some (ouB 0 0 zC (.slice none 0 0) (.slice none 0 0) (.slice none 0 0) (.slice none 0 0)) by rw [ht]; exact new_at1 _ _)
    have hge : X.heap.size ≤ t1.heap.size := Bt1.out.size
    have hS : ∃ x : Grow X, t7 = x.w := ⟨⟨t7, Bt7.out⟩, rfl⟩
    clear ht
    refine wpAnyH_ready (rs := [8]) (by as_aux_lemma => kernel_rfl) (by simp) ?_
    refine AllReadyH.cons rfl (fun K hK => ?_) AllReadyH.nil
    go_simp
    with_reducible refine (HH.out _).mono ?_
    rintro e t8 ⟨rfl, hb⟩
    have Bt8 := Lib.hid (bstep Bt7.out Bt7.out.size hb)
    have Gt8 := Lib.hid ((hb.block _ (Array.getElem?_eq_some_iff.1 Gt7.out).1).trans Gt7.out)
    clear hb
    refine hK.out _ _ ⟨⟨_, Bt8.out⟩, rfl⟩ (fun hS => ?_)
    clear hK K
    try simp only [Act.put, List.setIfInBounds_toArray, List.set_cons_zero, List.set_cons_succ, List.getElem_toArray, List.getElem_cons_zero, List.getElem_cons_succ]
    refine wpAnyH_take (i := 9) (v := .int .i64 oH) rfl (by as_aux_lemma => kernel_rfl) (by as_aux_lemma => kernel_rfl) (by as_aux_lemma => kernel_rfl) (fun _ _ _ h => h) (Or.inl ⟨by rfl, fun w hw => by obtain ⟨x, rfl⟩ := hw; go_simp⟩) hS ?_
    try simp only [Act.put, List.setIfInBounds_toArray, List.set_cons_zero, List.set_cons_succ, List.getElem_toArray, List.getElem_cons_zero, List.getElem_cons_succ]
    refine wpAnyH_ready (rs := [12]) (by as_aux_lemma => kernel_rfl) (by simp) ?_
    refine AllReadyH.cons rfl (fun K hK => ?_) AllReadyH.nil
    go_simp
    with_reducible refine (HK.out _).mono ?_
    rintro e t9 ⟨rfl, hb⟩
    have Bt9 := Lib.hid (bstep Bt8.out Bt8.out.size hb)
    have Gt9 := Lib.hid ((hb.block _ (Array.getElem?_eq_some_iff.1 Gt8.out).1).trans Gt8.out)
    clear hb
    refine hK.out _ _ ⟨⟨_, Bt9.out⟩, rfl⟩ (fun hS => ?_)
    clear hK K
    try simp only [Act.put, List.setIfInBounds_toArray, List.set_cons_zero, List.set_cons_succ, List.getElem_toArray, List.getElem_cons_zero, List.getElem_cons_succ]
    refine wpAnyH_take (i := 13) (v := .agg #[.int .i64 oW, .int .i64 oH, .int .u8 ok.r, .int .u8 ok.g, .int .u8 ok.b, .int .u8 ok.a, .slice none 0 0, .slice none 0 0, .slice none 0 0, .slice none 0 0]) rfl (by as_aux_lemma => kernel_rfl) (by as_aux_lemma => kernel_rfl) (by as_aux_lemma => kernel_rfl) (fun _ _ _ h => h) (Or.inl ⟨by rfl, fun w hw => by obtain ⟨x, rfl⟩ := hw; go_simp⟩) hS ?_
    try simp only [Act.put, List.setIfInBounds_toArray, List.set_cons_zero, List.set_cons_succ, List.getElem_toArray, List.getElem_cons_zero, List.getElem_cons_succ]
    obtain ⟨o0, o1, o2, o3, o4, o5, o6, o7, o8, o9⟩ := ouB_cell Gt9.out
    have fr0 := ouB_free Gt9.out 0
    have fr1 := ouB_free Gt9.out 1
    have fr2 := ouB_free Gt9.out 2
    have fr3 := ouB_free Gt9.out 3
    have fr4 := ouB_free Gt9.out 4
    have fr5 := ouB_free Gt9.out 5
    have fr6 := ouB_free Gt9.out 6
    have fr7 := ouB_free Gt9.out 7
    have fr8 := ouB_free Gt9.out 8
    have fr9 := ouB_free Gt9.out 9
    obtain ⟨hR, hfx, hbl⟩ := ou_store (W := oW) (H := oH) (k := ok) (.slice none 0 0) (.slice none 0 0) (.slice none 0 0) (.slice none 0 0) Gt9.out
    have BL := Lib.hid (hbl X.heap.size X hge Bt9.out)
    have ZL := Lib.hid hR
    clear hR hfx hbl
    refine wpAnyH_ready (rs := [15]) (by as_aux_lemma => kernel_rfl) (by simp) ?_
    refine AllReadyH.cons rfl (fun K hK => ?_) AllReadyH.nil
    go_simp
    refine hK.out _ _ ⟨⟨_, BL.out⟩, rfl⟩ (fun hS => ?_)
    clear hK K hS
    try simp only [Act.put, List.setIfInBounds_toArray, List.set_cons_zero, List.set_cons_succ, List.getElem_toArray, List.getElem_cons_zero, List.getElem_cons_succ]
    refine wpAnyH_done (by as_aux_lemma => kernel_rfl) ?_ _
    go_wp2_with fail
    go_meet
    exact ⟨_, rfl, hge, BL.out, ZL.out⟩
   exact AllReadyH.nil
  refine AllReadyH.cons rfl (fun K hK => ?_) ?_
  ·
   skip
   go_simp
   refine hK.out _ _ ⟨⟨_, BY.out.alloc BY.out.size _⟩, rfl⟩ (fun hS => ?_)
   clear hK K hS
   try simp only [Act.put, List.setIfInBounds_toArray, List.set_cons_zero, List.set_cons_succ, List.getElem_toArray, List.getElem_cons_zero, List.getElem_cons_succ]
   obtain ⟨t10, ht⟩ : ∃ t, t = Y.alloc (ouB 0 0 zC (.slice none 0 0) (.slice none 0 0) (.slice none 0 0) (.slice none 0 0)) := ⟨_, rfl⟩
   change wpAnyH _ _ _ _ _ _ _ _ (Y.alloc (ouB 0 0 zC (.slice none 0 0) (.slice none 0 0) (.slice none 0 0) (.slice none 0 0)))
   rw [← ht]
   have Bt10 := Lib.hid (show Below X.heap.size X t10 by rw [ht]; exact BY.out.alloc BY.out.size _)
   have Gt10 := Lib.hid (show t10.heap[Y.heap.size]? = some (ouB 0 0 zC (.slice none 0 0) (.slice none 0 0) (.slice none 0 0) (.slice none 0 0)) by rw [ht]; exact new_at1 _ _)
   have hge : X.heap.size ≤ Y.heap.size := BY.out.size
   have hS : ∃ x : Grow X, t10 = x.w := ⟨⟨t10, Bt10.out⟩, rfl⟩
   clear ht
   refine wpAnyH_ready (rs := [3]) (by as_aux_lemma => kernel_rfl) (by simp) ?_
   refine AllReadyH.cons rfl (fun K hK => ?_) AllReadyH.nil
   go_simp
   with_reducible refine (HW.out _).mono ?_
   rintro e t11 ⟨rfl, hb⟩
   have Bt11 := Lib.hid (bstep Bt10.out Bt10.out.size hb)
   have Gt11 := Lib.hid ((hb.block _ (Array.getElem?_eq_some_iff.1 Gt10.out).1).trans Gt10.out)
   clear hb
   refine hK.out _ _ ⟨⟨_, Bt11.out⟩, rfl⟩ (fun hS => ?_)
   clear hK K
   try simp only [Act.put, List.setIfInBounds_toArray, List.set_cons_zero, List.set_cons_succ, List.getElem_toArray, List.getElem_cons_zero, List.getElem_cons_succ]
   refine wpAnyH_take (i := 4) (v := .int .i64 oW) rfl (by as_aux_lemma => kernel_rfl) (by as_aux_lemma => kernel_rfl) (by as_aux_lemma => kernel_rfl) (fun _ _ _ h => h) (Or.inl ⟨by rfl, fun w hw => by obtain ⟨x, rfl⟩ := hw; go_simp⟩) hS ?_
   try simp only [Act.put, List.setIfInBounds_toArray, List.set_cons_zero, List.set_cons_succ, List.getElem_toArray, List.getElem_cons_zero, List.getElem_cons_succ]
   refine wpAnyH_ready (rs := [8]) (by as_aux_lemma => kernel_rfl) (by simp) ?_
   refine AllReadyH.cons rfl (fun K hK => ?_) AllReadyH.nil
   go_simp
   with_reducible refine (HH.out _).mono ?_
   rintro e t12 ⟨rfl, hb⟩
   have Bt12 := Lib.hid (bstep Bt11.out Bt11.out.size hb)
   have Gt12 := Lib.hid ((hb.block _ (Array.getElem?_eq_some_iff.1 Gt11.out).1).trans Gt11.out)
   clear hb
   refine hK.out _ _ ⟨⟨_, Bt12.out⟩, rfl⟩ (fun hS => ?_)
   clear hK K
   try simp only [Act.put, List.setIfInBounds_toArray, List.set_cons_zero, List.set_cons_succ, List.getElem_toArray, List.getElem_cons_zero, List.getElem_cons_succ]
   refine wpAnyH_take (i := 9) (v := .int .i64 oH) rfl (by as_aux_lemma => kernel_rfl) (by as_aux_lemma => kernel_rfl) (by as_aux_lemma => kernel_rfl) (fun _ _ _ h => h) (Or.inl ⟨by rfl, fun w hw => by obtain ⟨x, rfl⟩ := hw; go_simp⟩) hS ?_
   try simp only [Act.put, List.setIfInBounds_toArray, List.set_cons_zero, List.set_cons_succ, List.getElem_toArray, List.getElem_cons_zero, List.getElem_cons_succ]
   refine wpAnyH_ready (rs := [12]) (by as_aux_lemma => kernel_rfl) (by simp) ?_
   refine AllReadyH.cons rfl (fun K hK => ?_) AllReadyH.nil
   go_simp
   with_reducible refine (HK.out _).mono ?_
   rintro e t13 ⟨rfl, hb⟩
   have Bt13 := Lib.hid (bstep Bt12.out Bt12.out.size hb)
   have Gt13 := Lib.hid ((hb.block _ (Array.getElem?_eq_some_iff.1 Gt12.out).1).trans Gt12.out)
   clear hb
   refine hK.out _ _ ⟨⟨_, Bt13.out⟩, rfl⟩ (fun hS => ?_)
   clear hK K
   try simp only [Act.put, List.setIfInBounds_toArray, List.set_cons_zero, List.set_cons_succ, List.getElem_toArray, List.getElem_cons_zero, List.getElem_cons_succ]
   refine wpAnyH_take (i := 13) (v := .agg #[.int .i64 oW, .int .i64 oH, .int .u8 ok.r, .int .u8 ok.g, .int .u8 ok.b, .int .u8 ok.a, .slice none 0 0, .slice none 0 0, .slice none 0 0, .slice none 0 0]) rfl (by as_aux_lemma => kernel_rfl) (by as_aux_lemma => kernel_rfl) (by as_aux_lemma => kernel_rfl) (fun _ _ _ h => h) (Or.inl ⟨by rfl, fun w hw => by obtain ⟨x, rfl⟩ := hw; go_simp⟩) hS ?_
   try simp only [Act.put, List.setIfInBounds_toArray, List.set_cons_zero, List.set_cons_succ, List.getElem_toArray, List.getElem_cons_zero, List.getElem_cons_succ]
   obtain ⟨o0, o1, o2, o3, o4, o5, o6, o7, o8, o9⟩ := ouB_cell Gt13.out
   have fr0 := ouB_free Gt13.out 0
   have fr1 := ouB_free Gt13.out 1
   have fr2 := ouB_free Gt13.out 2
   have fr3 := ouB_free Gt13.out 3
   have fr4 := ouB_free Gt13.out 4
   have fr5 := ouB_free Gt13.out 5
   have fr6 := ouB_free Gt13.out 6
   have fr7 := ouB_free Gt13.out 7
   have fr8 := ouB_free Gt13.out 8
   have fr9 := ouB_free Gt13.out 9
   obtain ⟨hR, hfx, hbl⟩ := ou_store (W := oW) (H := oH) (k := ok) (.slice none 0 0) (.slice none 0 0) (.slice none 0 0) (.slice none 0 0) Gt13.out
   have BL := Lib.hid (hbl X.heap.size X hge Bt13.out)
   have ZL := Lib.hid hR
   clear hR hfx hbl
   refine wpAnyH_ready (rs := [15]) (by as_aux_lemma => kernel_rfl) (by simp) ?_
   refine AllReadyH.cons rfl (fun K hK => ?_) AllReadyH.nil
   go_simp
   refine hK.out _ _ ⟨⟨_, BL.out⟩, rfl⟩ (fun hS => ?_)
   clear hK K hS
   try simp only [Act.put, List.setIfInBounds_toArray, List.set_cons_zero, List.set_cons_succ, List.getElem_toArray, List.getElem_cons_zero, List.getElem_cons_succ]
   refine wpAnyH_done (by as_aux_lemma => kernel_rfl) ?_ _
   go_wp2_with fail
   go_meet
   exact ⟨_, rfl, hge, BL.out, ZL.out⟩
  exact AllReadyH.nil
 case rest =>
 rename World => V
 obtain ⟨go, rfl, hge, BV, ZV⟩ := hcut
 have hgo : w.heap.size + 1 < go := by omega
 have F0 := Lib.hid (show FtF w (ouB s.w s.h s.k (.slice vA n1 s.vc) (.slice tA n2 s.tc) (.slice pA n3 s.pc) (.slice dA n4 s.dc)) go V (ouB oW oH ok (.slice none 0 0) (.slice none 0 0) (.slice none 0 0) (.slice none 0 0)) from ⟨(BV.block _ (by omega)).trans SX.out, (BV.block _ (by omega)).trans RX.out, ZV, BX.out.trans (BV.mono (by omega))⟩)
 clear BV ZV SX RX BX HW HH HK wq0 wq1 qw qh hge ZX
 have OEv := Lib.hid (show OwnE EV (V.alloc (.cells #[.int .i64 (-2), .int .i64 (-2), .int .i64 0, .int .i64 1, .int .i64 200, .int .i64 0, .int .i64 0, .int .i64 128] 43)) V.heap.size (.slice none 0 0) [] from OwnE.nil _ _)
 have EZ := Lib.hid (es_one (E := EV) (x := vz) (cs := #[.int .i64 (-2), .int .i64 (-2), .int .i64 0, .int .i64 1, .int .i64 200, .int .i64 0, .int .i64 0, .int .i64 128]) rfl (heap_alloc_new V (.cells #[.int .i64 (-2), .int .i64 (-2), .int .i64 0, .int .i64 1, .int .i64 200, .int .i64 0, .int .i64 0, .int .i64 128] 43)))
 obtain ⟨o0, o1, o2, o3, o4, o5, o6, o7, o8, o9⟩ := ouB_cell F0.out.o
 have of6 := ouB_free F0.out.o 6
 have hgV := F0.out.z
 go_wp2_with (at_builtin; refine wpList_append_len rfl RV _ _ 1 1 rfl rfl rfl rfl OEv.out EZ.out (by simp) (by simp) (by simp) ?_; intro v' w4 h1 h2 h3; obtain ⟨g', cap', rfl⟩ := ownsRow_succ h1; obtain ⟨hO, hB⟩ := ownE_app OEv.out h1 h2 (by simp); have B1 := Lib.hid ((new_below V (.cells #[.int .i64 (-2), .int .i64 (-2), .int .i64 0, .int .i64 1, .int .i64 200, .int .i64 0, .int .i64 0, .int .i64 128] 43)).trans hB); have F1 := Lib.hid (F0.out.keep B1.out hgV hgo); have O1 := Lib.hid (show OwnE EV w4 V.heap.size (.slice (some ⟨g', 0, none⟩) 1 cap') [vz] from hO); obtain ⟨p0, p1, p2, p3, p4, p5, p6, p7, p8, p9⟩ := ouB_cell F1.out.o; have pf6 := ouB_free F1.out.o 6; have hgw := F1.out.z; clear h1 h2 h3 hO hB)
 have F2 := Lib.hid (F1.out.set hgo (ouB_set6 (.slice (some ⟨g', 0, none⟩) 1 cap') F1.out.o))
 have O2 := Lib.hid (O1.out.setCell (g := go) (o := 6) (u := .slice (some ⟨g', 0, none⟩) 1 cap') hgV)
 have hzX : V.heap.size ≤ (w4.setCell ⟨go, 6, none⟩ (.slice (some ⟨g', 0, none⟩) 1 cap')).heap.size := by have := B1.out.size; simpa using this
 clear o0 o1 o2 o3 o4 o5 o6 o7 o8 o9 of6 p0 p1 p2 p3 p4 p5 p6 p7 p8 p9 pf6 F0 F1 O1 OEv EZ hgw
 obtain ⟨m1, hm1⟩ : ∃ m, min n1 verts = m := ⟨_, rfl⟩
 go_loopw [12] (fun i wr => ∃ (j : Nat) (v : Value) (ls : List U.V), j ≤ m1 ∧ i = .int .i64 j ∧ ls = vz :: ((s.vs.take j).map U.fitV) ∧ OwnE EV wr V.heap.size v ls ∧ V.heap.size ≤ wr.heap.size ∧ FtF w (ouB s.w s.h s.k (.slice vA n1 s.vc) (.slice tA n2 s.tc) (.slice pA n3 s.pc) (.slice dA n4 s.dc)) go wr (ouB oW oH ok v (.slice none 0 0) (.slice none 0 0) (.slice none 0 0))) (fun i _ => m1 - (intOf i).toNat)
 case atStart => exact ⟨0, _, _, Nat.zero_le _, rfl, rfl, O2.out, hzX, F2.out⟩
 case round =>
  obtain ⟨j, v, ls, hj, rfl, hx, ho, hs, hF⟩ := hrel
  have HX := Lib.hid hx
  have HN := Lib.hid ho
  have HF := Lib.hid hF
  have hz := hF.z
  have hll : ls.length ≤ 70 := by
   have := congrArg List.length hx
   rw [List.length_cons, List.length_map, List.length_take] at this
   omega
  obtain ⟨s0, s1, s2, s3, s4, s5, s6, s7, s8, s9⟩ := ouB_cell hF.s
  obtain ⟨q0, q1, q2, q3, q4, q5, q6, q7, q8, q9⟩ := ouB_cell hF.o
  have qf := ouB_free hF.o 6
  clear hx ho hF
  go_upto_region 4 with fail
  go_cut [51] from 42 to 50 (fun c Xc => c = .bool (decide ((j : Int) < m1)) ∧ Xc = wr)
  case first =>
   by_cases e1 : j < n1
   ·
    by_cases e2 : j < verts
    ·
     have e3 : decide ((j : Int) < verts) = true := by simp; omega
     have d1 : decide ((j : Int) < m1) = true := by simp; omega
     have D1 := Lib.hid d1
     clear d1
     go_wp2_with fail
     go_meet
     exact ⟨by rw [D1.out], rfl⟩
    ·
     have e3 : decide ((j : Int) < verts) = false := by simp; omega
     have d1 : decide ((j : Int) < m1) = false := by simp; omega
     have D1 := Lib.hid d1
     clear d1
     go_wp2_with fail
     go_meet
     exact ⟨by rw [D1.out], rfl⟩
   ·
    have d1 : decide ((j : Int) < m1) = false := by simp; omega
    have D1 := Lib.hid d1
    clear d1
    go_wp2_with fail
    go_meet
    exact ⟨by rw [D1.out], rfl⟩
  case rest =>
  rename World => wc
  obtain ⟨rfl, rfl⟩ := hcut
  by_cases hlt : j < m1
  ·
   have d1 : decide ((j : Int) < m1) = true := by simp; omega
   rw [d1]
   clear d1
   obtain ⟨u, hu⟩ := LV.out j (by omega)
   obtain ⟨b, off, rfl, hbB, hat⟩ := EVs.out.at hu
   obtain ⟨d0, d1, d2, d3, d4, d5, d6, d7⟩ := atV (show AtE EV wc b (off + j * 8) u from hat.below HF.out.b hbB)
   obtain ⟨f, hf⟩ : ∃ f, U.fitV u = f := ⟨_, rfl⟩
   have HFit := Lib.hid (fun w => U.fit_any u w)
   rw [hf] at HFit
   have HU := Lib.hid (show (s.vs.take (j + 1)).map U.fitV = (s.vs.take j).map U.fitV ++ [f] by rw [take_snoc hu, List.map_append, ← hf]; rfl)
   replace hu := Lib.hid hu
   clear hat hf
   have hvb : ∀ x, v.ownBlock = some x → V.heap.size ≤ x := fun x e => ownE_ge HN.out x e
   have NM1 := Lib.hid (show ¬ (w.heap.size = go ∨ v.ownBlock = some w.heap.size) from fun e => e.elim (fun h => by omega) (fun h => by have := hvb _ h; omega))
   have NM2 := Lib.hid (show ¬ (b = go ∨ v.ownBlock = some b) from fun e => e.elim (fun h => by omega) (fun h => by have := hvb _ h; omega))
   replace hvb := Lib.hid hvb
   go_wp2_with fail
   have y0 : ∀ w', Om (fun b => b = go ∨ v.ownBlock = some b) wc w' → w'.cell? ⟨w.heap.size, 6, none⟩ = some (.slice (some ⟨b, off, none⟩) n1 s.vc) := fun w' h => h.cell (by assumption) (NM1.out)
   have y1 : ∀ w', Om (fun b => b = go ∨ v.ownBlock = some b) wc w' → w'.cell? ⟨b, off + j * 8, none⟩ = some (.int .i64 u.x) := fun w' h => h.cell (by assumption) (NM2.out)
   have y2 : ∀ w', Om (fun b => b = go ∨ v.ownBlock = some b) wc w' → w'.cell? ⟨b, off + j * 8 + 1, none⟩ = some (.int .i64 u.y) := fun w' h => h.cell (by assumption) (NM2.out)
   have y3 : ∀ w', Om (fun b => b = go ∨ v.ownBlock = some b) wc w' → w'.cell? ⟨b, off + j * 8 + 2, none⟩ = some (.int .i64 u.z) := fun w' h => h.cell (by assumption) (NM2.out)
   have y4 : ∀ w', Om (fun b => b = go ∨ v.ownBlock = some b) wc w' → w'.cell? ⟨b, off + j * 8 + 3, none⟩ = some (.int .i64 u.w) := fun w' h => h.cell (by assumption) (NM2.out)
   have y5 : ∀ w', Om (fun b => b = go ∨ v.ownBlock = some b) wc w' → w'.cell? ⟨b, off + j * 8 + 4, none⟩ = some (.int .i64 u.a) := fun w' h => h.cell (by assumption) (NM2.out)
   have y6 : ∀ w', Om (fun b => b = go ∨ v.ownBlock = some b) wc w' → w'.cell? ⟨b, off + j * 8 + 5, none⟩ = some (.int .i64 u.b) := fun w' h => h.cell (by assumption) (NM2.out)
   have y7 : ∀ w', Om (fun b => b = go ∨ v.ownBlock = some b) wc w' → w'.cell? ⟨b, off + j * 8 + 6, none⟩ = some (.int .i64 u.c) := fun w' h => h.cell (by assumption) (NM2.out)
   have y8 : ∀ w', Om (fun b => b = go ∨ v.ownBlock = some b) wc w' → w'.cell? ⟨b, off + j * 8 + 7, none⟩ = some (.int .i64 u.d) := fun w' h => h.cell (by assumption) (NM2.out)
   refine wp_region_held_drew (S := fun w' => Om (fun b => b = go ∨ v.ownBlock = some b) wc w') (by as_aux_lemma => kernel_rfl) (om_drew _ _) (fun hS => ?_)
   have B_t0 := Lib.hid (show Below wc.heap.size wc wc.drew from (Below.refl _ _).drew)
   have M_t0 := Lib.hid (om_drew (fun b => b = go ∨ v.ownBlock = some b) wc)
   generalize wc.drew = t0 at *
   refine wpAnyH_take (i := 0) (v := .pointer (some ⟨go, 6, none⟩)) rfl (by as_aux_lemma => kernel_rfl) (by as_aux_lemma => kernel_rfl) (by as_aux_lemma => kernel_rfl) (fun _ _ _ h => h) (Or.inl ⟨by rfl, fun w hw => by have z0 := y0 w hw; have z1 := y1 w hw; have z2 := y2 w hw; have z3 := y3 w hw; have z4 := y4 w hw; have z5 := y5 w hw; have z6 := y6 w hw; have z7 := y7 w hw; have z8 := y8 w hw; go_simp⟩) hS ?_
   try simp only [Act.put, List.setIfInBounds_toArray, List.set_cons_zero, List.set_cons_succ, List.getElem_toArray, List.getElem_cons_zero]
   refine wpAnyH_take (i := 2) (v := .pointer (some ⟨w.heap.size, 6, none⟩)) rfl (by as_aux_lemma => kernel_rfl) (by as_aux_lemma => kernel_rfl) (by as_aux_lemma => kernel_rfl) (fun _ _ _ h => h) (Or.inl ⟨by rfl, fun w hw => by have z0 := y0 w hw; have z1 := y1 w hw; have z2 := y2 w hw; have z3 := y3 w hw; have z4 := y4 w hw; have z5 := y5 w hw; have z6 := y6 w hw; have z7 := y7 w hw; have z8 := y8 w hw; go_simp⟩) hS ?_
   try simp only [Act.put, List.setIfInBounds_toArray, List.set_cons_zero, List.set_cons_succ, List.getElem_toArray, List.getElem_cons_zero, List.getElem_cons_succ]
   refine wpAnyH_take (i := 3) (v := .slice (some ⟨b, off, none⟩) n1 s.vc) rfl (by as_aux_lemma => kernel_rfl) (by as_aux_lemma => kernel_rfl) (by as_aux_lemma => kernel_rfl) (fun _ _ _ h => h) (Or.inl ⟨by rfl, fun w hw => by have z0 := y0 w hw; have z1 := y1 w hw; have z2 := y2 w hw; have z3 := y3 w hw; have z4 := y4 w hw; have z5 := y5 w hw; have z6 := y6 w hw; have z7 := y7 w hw; have z8 := y8 w hw; go_simp⟩) hS ?_
   try simp only [Act.put, List.setIfInBounds_toArray, List.set_cons_zero, List.set_cons_succ, List.getElem_toArray, List.getElem_cons_zero, List.getElem_cons_succ]
   refine wpAnyH_take (i := 4) (v := .int .i64 j) rfl (by as_aux_lemma => kernel_rfl) (by as_aux_lemma => kernel_rfl) (by as_aux_lemma => kernel_rfl) (fun _ _ _ h => h) (Or.inl ⟨by rfl, fun w hw => by have z0 := y0 w hw; have z1 := y1 w hw; have z2 := y2 w hw; have z3 := y3 w hw; have z4 := y4 w hw; have z5 := y5 w hw; have z6 := y6 w hw; have z7 := y7 w hw; have z8 := y8 w hw; go_simp⟩) hS ?_
   try simp only [Act.put, List.setIfInBounds_toArray, List.set_cons_zero, List.set_cons_succ, List.getElem_toArray, List.getElem_cons_zero, List.getElem_cons_succ]
   refine wpAnyH_take (i := 5) (v := .pointer (some ⟨b, off + j * 8, none⟩)) rfl (by as_aux_lemma => kernel_rfl) (by as_aux_lemma => kernel_rfl) (by as_aux_lemma => kernel_rfl) (fun _ _ _ h => h) (Or.inl ⟨by rfl, fun w hw => by have z0 := y0 w hw; have z1 := y1 w hw; have z2 := y2 w hw; have z3 := y3 w hw; have z4 := y4 w hw; have z5 := y5 w hw; have z6 := y6 w hw; have z7 := y7 w hw; have z8 := y8 w hw; go_simp <;> (intro h; exact absurd h (by omega))⟩) hS ?_
   try simp only [Act.put, List.setIfInBounds_toArray, List.set_cons_zero, List.set_cons_succ, List.getElem_toArray, List.getElem_cons_zero, List.getElem_cons_succ]
   refine wpAnyH_take (i := 6) (v := .agg #[.int .i64 u.x, .int .i64 u.y, .int .i64 u.z, .int .i64 u.w, .int .i64 u.a, .int .i64 u.b, .int .i64 u.c, .int .i64 u.d]) rfl (by as_aux_lemma => kernel_rfl) (by as_aux_lemma => kernel_rfl) (by as_aux_lemma => kernel_rfl) (fun _ _ _ h => h) (Or.inl ⟨by rfl, fun w hw => by have z0 := y0 w hw; have z1 := y1 w hw; have z2 := y2 w hw; have z3 := y3 w hw; have z4 := y4 w hw; have z5 := y5 w hw; have z6 := y6 w hw; have z7 := y7 w hw; have z8 := y8 w hw; go_simp⟩) hS ?_
   try simp only [Act.put, List.setIfInBounds_toArray, List.set_cons_zero, List.set_cons_succ, List.getElem_toArray, List.getElem_cons_zero, List.getElem_cons_succ]
   refine wpAnyH_ready (rs := [1, 7]) (by as_aux_lemma => kernel_rfl) (by simp) ?_
   refine AllReadyH.cons rfl (fun K hK => ?_) ?_
   ·
    skip
    have ldc : t0.cell? ⟨go, 6, none⟩ = some v := (B_t0.out.cell (p := ⟨go, 6, none⟩) hz).trans q6
    have lds := Nat.lt_of_lt_of_le hz B_t0.out.size
    go_simp
    refine hK.out _ _ M_t0.out (fun hS => ?_)
    clear hK K ldc lds
    try simp only [Act.put, List.setIfInBounds_toArray, List.set_cons_zero, List.set_cons_succ, List.getElem_toArray, List.getElem_cons_zero, List.getElem_cons_succ]
    refine wpAnyH_ready (rs := [7]) (by as_aux_lemma => kernel_rfl) (by simp) ?_
    refine AllReadyH.cons rfl (fun K hK => ?_) AllReadyH.nil
    go_simp
    with_reducible refine (HFit.out _).mono ?_
    rintro e t1 ⟨rfl, hb⟩
    have B_t1 := Lib.hid (bstep B_t0.out B_t0.out.size hb)
    have M_t1 := Lib.hid (M_t0.out.bel (hb.mono M_t0.out.1))
    clear hb
    refine hK.out _ _ M_t1.out (fun hS => ?_)
    clear hK K
    try simp only [Act.put, List.setIfInBounds_toArray, List.set_cons_zero, List.set_cons_succ, List.getElem_toArray, List.getElem_cons_zero, List.getElem_cons_succ]
    refine wpAnyH_ready (rs := [8]) (by as_aux_lemma => kernel_rfl) (by simp) ?_
    refine AllReadyH.cons rfl (fun K hK => ?_) AllReadyH.nil
    go_simp
    refine hK.out _ _ (M_t1.out.alloc _) (fun hS => ?_)
    clear hK K hS
    try simp only [Act.put, List.setIfInBounds_toArray, List.set_cons_zero, List.set_cons_succ, List.getElem_toArray, List.getElem_cons_zero, List.getElem_cons_succ]
    obtain ⟨t2, ht⟩ : ∃ t, t = t1.alloc (.cells #[.int .i64 f.x, .int .i64 f.y, .int .i64 f.z, .int .i64 f.w, .int .i64 f.a, .int .i64 f.b, .int .i64 f.c, .int .i64 f.d] 43) := ⟨_, rfl⟩
    change wpAnyH _ _ _ _ _ _ _ _ (t1.alloc (.cells #[.int .i64 f.x, .int .i64 f.y, .int .i64 f.z, .int .i64 f.w, .int .i64 f.a, .int .i64 f.b, .int .i64 f.c, .int .i64 f.d] 43))
    rw [← ht]
    have B_t2 := Lib.hid (show Below wc.heap.size wc t2 by rw [ht]; exact B_t1.out.alloc B_t1.out.size _)
    have M_t2 := Lib.hid (show Om (fun b => b = go ∨ v.ownBlock = some b) wc t2 by rw [ht]; exact M_t1.out.alloc _)
    have G_t2 := Lib.hid (show t2.heap[t1.heap.size]? = some (.cells #[.int .i64 f.x, .int .i64 f.y, .int .i64 f.z, .int .i64 f.w, .int .i64 f.a, .int .i64 f.b, .int .i64 f.c, .int .i64 f.d] 43 (0, 0)) by rw [ht]; exact heap_alloc_new _ _)
    have Z_t2 : t2.heap.size = t1.heap.size + 1 := by rw [ht]; simp
    have hS := M_t2.out
    clear ht
    refine wpAnyH_ready (rs := [9]) (by as_aux_lemma => kernel_rfl) (by simp) ?_
    refine AllReadyH.cons rfl (fun K hK => ?_) AllReadyH.nil
    rw [if_pos (by rfl)]
    refine opw_append_len RV (.tmp 55) (.tmp 62) 1 1 (show [f].length = 1 from rfl) rfl rfl rfl (HN.out.keep B_t2.out) (es_one (E := EV) (x := f) (cs := #[.int .i64 f.x, .int .i64 f.y, .int .i64 f.z, .int .i64 f.w, .int .i64 f.a, .int .i64 f.b, .int .i64 f.c, .int .i64 f.d]) rfl G_t2.out) (by omega) (by simp) (by have := B_t2.out.size; omega) ?_
    intro v' w7 h1 h2 h3
    obtain ⟨g', cap', rfl⟩ := ownsRow_succ h1
    obtain ⟨hN7, hB7a⟩ := ownE_app (HN.out.keep B_t2.out) h1 h2 (by have := B_t2.out.size; omega)
    have hB7 := (B_t2.out.mono hs).trans hB7a
    clear hB7a
    have F7 := Lib.hid (HF.out.keep hB7 (by omega) hgo)
    have M7 := Lib.hid (M_t2.out.grown h2 (fun r e => .inl (.inr e)))
    obtain ⟨z0, z1, z2, z3, z4, z5, z6, z7, z8, z9⟩ := ouB_cell F7.out.o
    have zf := ouB_free F7.out.o 6
    have zg := F7.out.z
    have N7 := Lib.hid hN7
    have B7 := Lib.hid hB7
    clear h1 h2 h3 hN7 hB7
    refine hK.out _ _ M7.out (fun hS => ?_)
    clear hK K
    try simp only [Act.put, List.setIfInBounds_toArray, List.set_cons_zero, List.set_cons_succ, List.getElem_toArray, List.getElem_cons_zero, List.getElem_cons_succ]
    refine wpAnyH_take (i := 10) (v := .pointer (some ⟨go, 6, none⟩)) rfl (by as_aux_lemma => kernel_rfl) (by as_aux_lemma => kernel_rfl) (by as_aux_lemma => kernel_rfl) (fun _ _ _ h => h) (Or.inl ⟨by rfl, fun w hw => by go_simp⟩) hS ?_
    try simp only [Act.put, List.setIfInBounds_toArray, List.set_cons_zero, List.set_cons_succ, List.getElem_toArray, List.getElem_cons_zero, List.getElem_cons_succ]
    refine wpAnyH_ready (rs := [11]) (by as_aux_lemma => kernel_rfl) (by simp) ?_
    refine AllReadyH.cons rfl (fun K hK => ?_) AllReadyH.nil
    go_simp
    refine hK.out _ _ (M7.out.set (.inl (.inl rfl))) (fun hS => ?_)
    clear hK K hS
    try simp only [Act.put, List.setIfInBounds_toArray, List.set_cons_zero, List.set_cons_succ, List.getElem_toArray, List.getElem_cons_zero, List.getElem_cons_succ]
    refine wpAnyH_done (by as_aux_lemma => kernel_rfl) ?_ _
    go_wp2_with fail
    go_roundw
    case rel => exact ⟨j + 1, _, ls ++ [f], by omega, by go_num, by rw [HX.out, HU.out]; rfl, N7.out.setCell (by omega), by have := B7.out.size; simp; omega, F7.out.set hgo (ouB_set6 _ F7.out.o)⟩
    case measure => simp [intOf]; omega
   refine AllReadyH.cons rfl (fun K hK => ?_) ?_
   ·
    skip
    go_simp
    with_reducible refine (HFit.out _).mono ?_
    rintro e t3 ⟨rfl, hb⟩
    have B_t3 := Lib.hid (bstep B_t0.out B_t0.out.size hb)
    have M_t3 := Lib.hid (M_t0.out.bel (hb.mono M_t0.out.1))
    clear hb
    refine hK.out _ _ M_t3.out (fun hS => ?_)
    clear hK K
    try simp only [Act.put, List.setIfInBounds_toArray, List.set_cons_zero, List.set_cons_succ, List.getElem_toArray, List.getElem_cons_zero, List.getElem_cons_succ]
    refine wpAnyH_ready (rs := [1, 8]) (by as_aux_lemma => kernel_rfl) (by simp) ?_
    refine AllReadyH.cons rfl (fun K hK => ?_) ?_
    ·
     skip
     have ldc : t3.cell? ⟨go, 6, none⟩ = some v := (B_t3.out.cell (p := ⟨go, 6, none⟩) hz).trans q6
     have lds := Nat.lt_of_lt_of_le hz B_t3.out.size
     go_simp
     refine hK.out _ _ M_t3.out (fun hS => ?_)
     clear hK K ldc lds
     try simp only [Act.put, List.setIfInBounds_toArray, List.set_cons_zero, List.set_cons_succ, List.getElem_toArray, List.getElem_cons_zero, List.getElem_cons_succ]
     refine wpAnyH_ready (rs := [8]) (by as_aux_lemma => kernel_rfl) (by simp) ?_
     refine AllReadyH.cons rfl (fun K hK => ?_) AllReadyH.nil
     go_simp
     refine hK.out _ _ (M_t3.out.alloc _) (fun hS => ?_)
     clear hK K hS
     try simp only [Act.put, List.setIfInBounds_toArray, List.set_cons_zero, List.set_cons_succ, List.getElem_toArray, List.getElem_cons_zero, List.getElem_cons_succ]
     obtain ⟨t4, ht⟩ : ∃ t, t = t3.alloc (.cells #[.int .i64 f.x, .int .i64 f.y, .int .i64 f.z, .int .i64 f.w, .int .i64 f.a, .int .i64 f.b, .int .i64 f.c, .int .i64 f.d] 43) := ⟨_, rfl⟩
     change wpAnyH _ _ _ _ _ _ _ _ (t3.alloc (.cells #[.int .i64 f.x, .int .i64 f.y, .int .i64 f.z, .int .i64 f.w, .int .i64 f.a, .int .i64 f.b, .int .i64 f.c, .int .i64 f.d] 43))
     rw [← ht]
     have B_t4 := Lib.hid (show Below wc.heap.size wc t4 by rw [ht]; exact B_t3.out.alloc B_t3.out.size _)
     have M_t4 := Lib.hid (show Om (fun b => b = go ∨ v.ownBlock = some b) wc t4 by rw [ht]; exact M_t3.out.alloc _)
     have G_t4 := Lib.hid (show t4.heap[t3.heap.size]? = some (.cells #[.int .i64 f.x, .int .i64 f.y, .int .i64 f.z, .int .i64 f.w, .int .i64 f.a, .int .i64 f.b, .int .i64 f.c, .int .i64 f.d] 43 (0, 0)) by rw [ht]; exact heap_alloc_new _ _)
     have Z_t4 : t4.heap.size = t3.heap.size + 1 := by rw [ht]; simp
     have hS := M_t4.out
     clear ht
     refine wpAnyH_ready (rs := [9]) (by as_aux_lemma => kernel_rfl) (by simp) ?_
     refine AllReadyH.cons rfl (fun K hK => ?_) AllReadyH.nil
     rw [if_pos (by rfl)]
     refine opw_append_len RV (.tmp 55) (.tmp 62) 1 1 (show [f].length = 1 from rfl) rfl rfl rfl (HN.out.keep B_t4.out) (es_one (E := EV) (x := f) (cs := #[.int .i64 f.x, .int .i64 f.y, .int .i64 f.z, .int .i64 f.w, .int .i64 f.a, .int .i64 f.b, .int .i64 f.c, .int .i64 f.d]) rfl G_t4.out) (by omega) (by simp) (by have := B_t4.out.size; omega) ?_
     intro v' w7 h1 h2 h3
     obtain ⟨g', cap', rfl⟩ := ownsRow_succ h1
     obtain ⟨hN7, hB7a⟩ := ownE_app (HN.out.keep B_t4.out) h1 h2 (by have := B_t4.out.size; omega)
     have hB7 := (B_t4.out.mono hs).trans hB7a
     clear hB7a
     have F7 := Lib.hid (HF.out.keep hB7 (by omega) hgo)
     have M7 := Lib.hid (M_t4.out.grown h2 (fun r e => .inl (.inr e)))
     obtain ⟨z0, z1, z2, z3, z4, z5, z6, z7, z8, z9⟩ := ouB_cell F7.out.o
     have zf := ouB_free F7.out.o 6
     have zg := F7.out.z
     have N7 := Lib.hid hN7
     have B7 := Lib.hid hB7
     clear h1 h2 h3 hN7 hB7
     refine hK.out _ _ M7.out (fun hS => ?_)
     clear hK K
     try simp only [Act.put, List.setIfInBounds_toArray, List.set_cons_zero, List.set_cons_succ, List.getElem_toArray, List.getElem_cons_zero, List.getElem_cons_succ]
     refine wpAnyH_take (i := 10) (v := .pointer (some ⟨go, 6, none⟩)) rfl (by as_aux_lemma => kernel_rfl) (by as_aux_lemma => kernel_rfl) (by as_aux_lemma => kernel_rfl) (fun _ _ _ h => h) (Or.inl ⟨by rfl, fun w hw => by go_simp⟩) hS ?_
     try simp only [Act.put, List.setIfInBounds_toArray, List.set_cons_zero, List.set_cons_succ, List.getElem_toArray, List.getElem_cons_zero, List.getElem_cons_succ]
     refine wpAnyH_ready (rs := [11]) (by as_aux_lemma => kernel_rfl) (by simp) ?_
     refine AllReadyH.cons rfl (fun K hK => ?_) AllReadyH.nil
     go_simp
     refine hK.out _ _ (M7.out.set (.inl (.inl rfl))) (fun hS => ?_)
     clear hK K hS
     try simp only [Act.put, List.setIfInBounds_toArray, List.set_cons_zero, List.set_cons_succ, List.getElem_toArray, List.getElem_cons_zero, List.getElem_cons_succ]
     refine wpAnyH_done (by as_aux_lemma => kernel_rfl) ?_ _
     go_wp2_with fail
     go_roundw
     case rel => exact ⟨j + 1, _, ls ++ [f], by omega, by go_num, by rw [HX.out, HU.out]; rfl, N7.out.setCell (by omega), by have := B7.out.size; simp; omega, F7.out.set hgo (ouB_set6 _ F7.out.o)⟩
     case measure => simp [intOf]; omega
    refine AllReadyH.cons rfl (fun K hK => ?_) ?_
    ·
     skip
     go_simp
     refine hK.out _ _ (M_t3.out.alloc _) (fun hS => ?_)
     clear hK K hS
     try simp only [Act.put, List.setIfInBounds_toArray, List.set_cons_zero, List.set_cons_succ, List.getElem_toArray, List.getElem_cons_zero, List.getElem_cons_succ]
     obtain ⟨t5, ht⟩ : ∃ t, t = t3.alloc (.cells #[.int .i64 f.x, .int .i64 f.y, .int .i64 f.z, .int .i64 f.w, .int .i64 f.a, .int .i64 f.b, .int .i64 f.c, .int .i64 f.d] 43) := ⟨_, rfl⟩
     change wpAnyH _ _ _ _ _ _ _ _ (t3.alloc (.cells #[.int .i64 f.x, .int .i64 f.y, .int .i64 f.z, .int .i64 f.w, .int .i64 f.a, .int .i64 f.b, .int .i64 f.c, .int .i64 f.d] 43))
     rw [← ht]
     have B_t5 := Lib.hid (show Below wc.heap.size wc t5 by rw [ht]; exact B_t3.out.alloc B_t3.out.size _)
     have M_t5 := Lib.hid (show Om (fun b => b = go ∨ v.ownBlock = some b) wc t5 by rw [ht]; exact M_t3.out.alloc _)
     have G_t5 := Lib.hid (show t5.heap[t3.heap.size]? = some (.cells #[.int .i64 f.x, .int .i64 f.y, .int .i64 f.z, .int .i64 f.w, .int .i64 f.a, .int .i64 f.b, .int .i64 f.c, .int .i64 f.d] 43 (0, 0)) by rw [ht]; exact heap_alloc_new _ _)
     have Z_t5 : t5.heap.size = t3.heap.size + 1 := by rw [ht]; simp
     have hS := M_t5.out
     clear ht
     refine wpAnyH_ready (rs := [1]) (by as_aux_lemma => kernel_rfl) (by simp) ?_
     refine AllReadyH.cons rfl (fun K hK => ?_) AllReadyH.nil
     have ldc : t5.cell? ⟨go, 6, none⟩ = some v := (B_t5.out.cell (p := ⟨go, 6, none⟩) hz).trans q6
     have lds := Nat.lt_of_lt_of_le hz B_t5.out.size
     go_simp
     refine hK.out _ _ M_t5.out (fun hS => ?_)
     clear hK K ldc lds
     try simp only [Act.put, List.setIfInBounds_toArray, List.set_cons_zero, List.set_cons_succ, List.getElem_toArray, List.getElem_cons_zero, List.getElem_cons_succ]
     refine wpAnyH_ready (rs := [9]) (by as_aux_lemma => kernel_rfl) (by simp) ?_
     refine AllReadyH.cons rfl (fun K hK => ?_) AllReadyH.nil
     rw [if_pos (by rfl)]
     refine opw_append_len RV (.tmp 55) (.tmp 62) 1 1 (show [f].length = 1 from rfl) rfl rfl rfl (HN.out.keep B_t5.out) (es_one (E := EV) (x := f) (cs := #[.int .i64 f.x, .int .i64 f.y, .int .i64 f.z, .int .i64 f.w, .int .i64 f.a, .int .i64 f.b, .int .i64 f.c, .int .i64 f.d]) rfl G_t5.out) (by omega) (by simp) (by have := B_t5.out.size; omega) ?_
     intro v' w7 h1 h2 h3
     obtain ⟨g', cap', rfl⟩ := ownsRow_succ h1
     obtain ⟨hN7, hB7a⟩ := ownE_app (HN.out.keep B_t5.out) h1 h2 (by have := B_t5.out.size; omega)
     have hB7 := (B_t5.out.mono hs).trans hB7a
     clear hB7a
     have F7 := Lib.hid (HF.out.keep hB7 (by omega) hgo)
     have M7 := Lib.hid (M_t5.out.grown h2 (fun r e => .inl (.inr e)))
     obtain ⟨z0, z1, z2, z3, z4, z5, z6, z7, z8, z9⟩ := ouB_cell F7.out.o
     have zf := ouB_free F7.out.o 6
     have zg := F7.out.z
     have N7 := Lib.hid hN7
     have B7 := Lib.hid hB7
     clear h1 h2 h3 hN7 hB7
     refine hK.out _ _ M7.out (fun hS => ?_)
     clear hK K
     try simp only [Act.put, List.setIfInBounds_toArray, List.set_cons_zero, List.set_cons_succ, List.getElem_toArray, List.getElem_cons_zero, List.getElem_cons_succ]
     refine wpAnyH_take (i := 10) (v := .pointer (some ⟨go, 6, none⟩)) rfl (by as_aux_lemma => kernel_rfl) (by as_aux_lemma => kernel_rfl) (by as_aux_lemma => kernel_rfl) (fun _ _ _ h => h) (Or.inl ⟨by rfl, fun w hw => by go_simp⟩) hS ?_
     try simp only [Act.put, List.setIfInBounds_toArray, List.set_cons_zero, List.set_cons_succ, List.getElem_toArray, List.getElem_cons_zero, List.getElem_cons_succ]
     refine wpAnyH_ready (rs := [11]) (by as_aux_lemma => kernel_rfl) (by simp) ?_
     refine AllReadyH.cons rfl (fun K hK => ?_) AllReadyH.nil
     go_simp
     refine hK.out _ _ (M7.out.set (.inl (.inl rfl))) (fun hS => ?_)
     clear hK K hS
     try simp only [Act.put, List.setIfInBounds_toArray, List.set_cons_zero, List.set_cons_succ, List.getElem_toArray, List.getElem_cons_zero, List.getElem_cons_succ]
     refine wpAnyH_done (by as_aux_lemma => kernel_rfl) ?_ _
     go_wp2_with fail
     go_roundw
     case rel => exact ⟨j + 1, _, ls ++ [f], by omega, by go_num, by rw [HX.out, HU.out]; rfl, N7.out.setCell (by omega), by have := B7.out.size; simp; omega, F7.out.set hgo (ouB_set6 _ F7.out.o)⟩
     case measure => simp [intOf]; omega
    exact AllReadyH.nil
   exact AllReadyH.nil
  ·
   have d1 : decide ((j : Int) < m1) = false := by simp; omega
   rw [d1]
   clear d1
   have hjm : j = m1 := by omega
   rw [hjm] at HX
   clear hjm
   obtain ⟨vA', vc', hv, hvc, -, -⟩ := HN.out.es
   obtain ⟨nv, hnv⟩ : ∃ n, ls.length = n := ⟨_, rfl⟩
   rw [hnv] at hv hvc
   subst hv
   have hnv1 : nv = m1 + 1 := by
    have := congrArg List.length HX.out
    rw [List.length_cons, List.length_map, List.length_take, hn1.out] at this
    omega
   replace hnv1 := Lib.hid hnv1
   have OVb := Lib.hid (show ∀ b, (Value.slice vA' nv vc').ownBlock = some b → b < wc.heap.size from fun b e => ownE_lt HN.out e)
   have XV := HX
   have OV1 := HN
   have F1 := HF
   replace hnv := Lib.hid hnv
   rename List U.V => lsv
   rename World => X1
   clear HX HN HF s0 s1 s2 s3 s4 s5 s6 s7 s8 s9 q0 q1 q2 q3 q4 q5 q6 q7 q8 q9 qf hll hlt hj
   obtain ⟨m2, hm2⟩ : ∃ m, min n2 2 = m := ⟨_, rfl⟩
   go_wp2_with fail
   go_loopw [13] (fun i wr => ∃ (j : Nat) (v : Value) (ls : List (Lo Tx)), j ≤ m2 ∧ i = .int .i64 j ∧ ls.map Lo.x = ((s.ts.map Lo.x).take j).map fitT ∧ OwnN ET EC Tx.px wr X1.heap.size v ls ∧ X1.heap.size ≤ wr.heap.size ∧ FtF w (ouB s.w s.h s.k (.slice vA n1 s.vc) (.slice tA n2 s.tc) (.slice pA n3 s.pc) (.slice dA n4 s.dc)) go wr (ouB oW oH ok (.slice vA' nv vc') v (.slice none 0 0) (.slice none 0 0)) ∧ Fx (go + 1) X1.heap.size X1 wr) (fun i _ => m2 - (intOf i).toNat)
   case atStart => exact ⟨0, _, [], Nat.zero_le _, rfl, rfl, OwnN.nil _ _, Nat.le_refl _, F1.out, Fx.refl _ _ _⟩
   case round =>
    obtain ⟨j, v, ls, hj, rfl, hx, ho, hs, hF, hf⟩ := hrel
    have HX := Lib.hid hx
    have HN := Lib.hid ho
    have HF := Lib.hid hF
    have HFx := Lib.hid hf
    clear hf
    have hz := hF.z
    have hll : ls.length ≤ 70 := by
     have := congrArg List.length hx
     rw [List.length_map, List.length_map, List.length_take] at this
     omega
    obtain ⟨s0, s1, s2, s3, s4, s5, s6, s7, s8, s9⟩ := ouB_cell hF.s
    obtain ⟨q0, q1, q2, q3, q4, q5, q6, q7, q8, q9⟩ := ouB_cell hF.o
    have qf := ouB_free hF.o 7
    clear hx ho hF
    go_upto_region 8 with fail
    go_cut [73] from 65 to 72 (fun c Xc => c = .bool (decide ((j : Int) < m2)) ∧ Xc = wr)
    case first =>
     by_cases e1 : j < n2
     ·
      by_cases e2 : j < 2
      ·
       have e3 : decide ((j : Int) < 2) = true := by simp; omega
       have d1 : decide ((j : Int) < m2) = true := by simp; omega
       have D1 := Lib.hid d1
       clear d1
       go_wp2_with fail
       go_meet
       exact ⟨by rw [D1.out], rfl⟩
      ·
       have e3 : decide ((j : Int) < 2) = false := by simp; omega
       have d1 : decide ((j : Int) < m2) = false := by simp; omega
       have D1 := Lib.hid d1
       clear d1
       go_wp2_with fail
       go_meet
       exact ⟨by rw [D1.out], rfl⟩
     ·
      have d1 : decide ((j : Int) < m2) = false := by simp; omega
      have D1 := Lib.hid d1
      clear d1
      go_wp2_with fail
      go_meet
      exact ⟨by rw [D1.out], rfl⟩
    case rest =>
    rename World => wc
    obtain ⟨rfl, rfl⟩ := hcut
    by_cases hlt : j < m2
    ·
     have d1 : decide ((j : Int) < m2) = true := by simp; omega
     rw [d1]
     clear d1
     obtain ⟨u, hu⟩ := LT.out j (by omega)
     obtain ⟨b, off, rfl, hbB, hat⟩ := ETs.out.at hu
     obtain ⟨d0, d1, d2⟩ := atT (show AtE ET wc b (off + j * 3) u from hat.below HF.out.b hbB)
     obtain ⟨f, hf⟩ : ∃ f, fitT u.x = f := ⟨_, rfl⟩
     have hmu := List.mem_of_getElem? hu
     have hcc := HC.out.ts u hmu
     have HEt := Lib.hid (HA.out.tx u hmu)
     have HFit := Lib.hid (show ∀ t, Below wc.heap.size wc t → Calls Try.prog 24 #[.agg #[.int .i64 u.x.w, .int .i64 u.x.h, .slice u.A u.x.px.length u.c]] t (fun e w' => ∃ A' c', e = .returned (.agg #[.int .i64 f.w, .int .i64 f.h, .slice A' f.px.length c']) ∧ f.px.length ≤ c' ∧ Es EC w' w'.heap.size A' f.px ∧ OwnE EC w' t.heap.size (.slice A' f.px.length c') f.px ∧ Below t.heap.size t w') from fun t hb => by
      rw [← hf]
      have hbt := HF.out.b.trans (hb.mono HF.out.b.size)
      exact fit_any u.x u.A u.c t hcc.1 hcc.2.1 ((HEt.out.below hbt).more hbt.size))
     have HU := Lib.hid (map_take_snoc (f := fitT) hu)
     rw [hf] at HU
     replace hu := Lib.hid hu
     clear hat hf hmu hcc
     have hvb : ∀ x, v.ownBlock = some x → X1.heap.size ≤ x := fun x e => ownE_ge HN.out.own x e
     have NM1 := Lib.hid (show ¬ (w.heap.size = go ∨ v.ownBlock = some w.heap.size) from fun e => e.elim (fun h => by omega) (fun h => by have := hvb _ h; omega))
     have NM2 := Lib.hid (show ¬ (b = go ∨ v.ownBlock = some b) from fun e => e.elim (fun h => by omega) (fun h => by have := hvb _ h; omega))
     replace hvb := Lib.hid hvb
     go_wp2_with fail
     have y0 : ∀ w', Om (fun b => b = go ∨ v.ownBlock = some b) wc w' → w'.cell? ⟨w.heap.size, 7, none⟩ = some (.slice (some ⟨b, off, none⟩) n2 s.tc) := fun w' h => h.cell (by assumption) (NM1.out)
     have y1 : ∀ w', Om (fun b => b = go ∨ v.ownBlock = some b) wc w' → w'.cell? ⟨b, off + j * 3, none⟩ = some (.int .i64 u.x.w) := fun w' h => h.cell (by assumption) (NM2.out)
     have y2 : ∀ w', Om (fun b => b = go ∨ v.ownBlock = some b) wc w' → w'.cell? ⟨b, off + j * 3 + 1, none⟩ = some (.int .i64 u.x.h) := fun w' h => h.cell (by assumption) (NM2.out)
     have y3 : ∀ w', Om (fun b => b = go ∨ v.ownBlock = some b) wc w' → w'.cell? ⟨b, off + j * 3 + 2, none⟩ = some (.slice u.A u.x.px.length u.c) := fun w' h => h.cell (by assumption) (NM2.out)
     refine wp_region_held_drew (S := fun w' => Om (fun b => b = go ∨ v.ownBlock = some b) wc w') (by as_aux_lemma => kernel_rfl) (om_drew _ _) (fun hS => ?_)
     have B_t0 := Lib.hid (show Below wc.heap.size wc wc.drew from (Below.refl _ _).drew)
     have M_t0 := Lib.hid (om_drew (fun b => b = go ∨ v.ownBlock = some b) wc)
     generalize wc.drew = t0 at *
     refine wpAnyH_take (i := 0) (v := .pointer (some ⟨go, 7, none⟩)) rfl (by as_aux_lemma => kernel_rfl) (by as_aux_lemma => kernel_rfl) (by as_aux_lemma => kernel_rfl) (fun _ _ _ h => h) (Or.inl ⟨by rfl, fun w hw => by have z0 := y0 w hw; have z1 := y1 w hw; have z2 := y2 w hw; have z3 := y3 w hw; go_simp⟩) hS ?_
     try simp only [Act.put, List.setIfInBounds_toArray, List.set_cons_zero, List.set_cons_succ, List.getElem_toArray, List.getElem_cons_zero]
     refine wpAnyH_take (i := 2) (v := .pointer (some ⟨w.heap.size, 7, none⟩)) rfl (by as_aux_lemma => kernel_rfl) (by as_aux_lemma => kernel_rfl) (by as_aux_lemma => kernel_rfl) (fun _ _ _ h => h) (Or.inl ⟨by rfl, fun w hw => by have z0 := y0 w hw; have z1 := y1 w hw; have z2 := y2 w hw; have z3 := y3 w hw; go_simp⟩) hS ?_
     try simp only [Act.put, List.setIfInBounds_toArray, List.set_cons_zero, List.set_cons_succ, List.getElem_toArray, List.getElem_cons_zero, List.getElem_cons_succ]
     refine wpAnyH_take (i := 3) (v := .slice (some ⟨b, off, none⟩) n2 s.tc) rfl (by as_aux_lemma => kernel_rfl) (by as_aux_lemma => kernel_rfl) (by as_aux_lemma => kernel_rfl) (fun _ _ _ h => h) (Or.inl ⟨by rfl, fun w hw => by have z0 := y0 w hw; have z1 := y1 w hw; have z2 := y2 w hw; have z3 := y3 w hw; go_simp⟩) hS ?_
     try simp only [Act.put, List.setIfInBounds_toArray, List.set_cons_zero, List.set_cons_succ, List.getElem_toArray, List.getElem_cons_zero, List.getElem_cons_succ]
     refine wpAnyH_take (i := 4) (v := .int .i64 j) rfl (by as_aux_lemma => kernel_rfl) (by as_aux_lemma => kernel_rfl) (by as_aux_lemma => kernel_rfl) (fun _ _ _ h => h) (Or.inl ⟨by rfl, fun w hw => by have z0 := y0 w hw; have z1 := y1 w hw; have z2 := y2 w hw; have z3 := y3 w hw; go_simp⟩) hS ?_
     try simp only [Act.put, List.setIfInBounds_toArray, List.set_cons_zero, List.set_cons_succ, List.getElem_toArray, List.getElem_cons_zero, List.getElem_cons_succ]
     refine wpAnyH_take (i := 5) (v := .pointer (some ⟨b, off + j * 3, none⟩)) rfl (by as_aux_lemma => kernel_rfl) (by as_aux_lemma => kernel_rfl) (by as_aux_lemma => kernel_rfl) (fun _ _ _ h => h) (Or.inl ⟨by rfl, fun w hw => by have z0 := y0 w hw; have z1 := y1 w hw; have z2 := y2 w hw; have z3 := y3 w hw; go_simp <;> (intro h; exact absurd h (by omega))⟩) hS ?_
     try simp only [Act.put, List.setIfInBounds_toArray, List.set_cons_zero, List.set_cons_succ, List.getElem_toArray, List.getElem_cons_zero, List.getElem_cons_succ]
     refine wpAnyH_take (i := 6) (v := .agg #[.int .i64 u.x.w, .int .i64 u.x.h, .slice u.A u.x.px.length u.c]) rfl (by as_aux_lemma => kernel_rfl) (by as_aux_lemma => kernel_rfl) (by as_aux_lemma => kernel_rfl) (fun _ _ _ h => h) (Or.inl ⟨by rfl, fun w hw => by have z0 := y0 w hw; have z1 := y1 w hw; have z2 := y2 w hw; have z3 := y3 w hw; go_simp⟩) hS ?_
     try simp only [Act.put, List.setIfInBounds_toArray, List.set_cons_zero, List.set_cons_succ, List.getElem_toArray, List.getElem_cons_zero, List.getElem_cons_succ]
     refine wpAnyH_ready (rs := [1, 7]) (by as_aux_lemma => kernel_rfl) (by simp) ?_
     refine AllReadyH.cons rfl (fun K hK => ?_) ?_
     ·
      skip
      have ldc : t0.cell? ⟨go, 7, none⟩ = some v := (B_t0.out.cell (p := ⟨go, 7, none⟩) hz).trans q7
      have lds := Nat.lt_of_lt_of_le hz B_t0.out.size
      go_simp
      refine hK.out _ _ M_t0.out (fun hS => ?_)
      clear hK K ldc lds
      try simp only [Act.put, List.setIfInBounds_toArray, List.set_cons_zero, List.set_cons_succ, List.getElem_toArray, List.getElem_cons_zero, List.getElem_cons_succ]
      refine wpAnyH_ready (rs := [7]) (by as_aux_lemma => kernel_rfl) (by simp) ?_
      refine AllReadyH.cons rfl (fun K hK => ?_) AllReadyH.nil
      go_simp
      with_reducible refine (HFit.out _ B_t0.out).mono ?_
      rintro e t1 ⟨A_t1, c_t1, rfl, hcp_t1, -, how, hb⟩
      have B_t1 := Lib.hid (bstep B_t0.out B_t0.out.size hb)
      have M_t1 := Lib.hid (M_t0.out.bel (hb.mono M_t0.out.1))
      have O_t1 := Lib.hid how
      have hsz_t1 := B_t0.out.size
      clear how
      clear hb
      refine hK.out _ _ M_t1.out (fun hS => ?_)
      clear hK K
      try simp only [Act.put, List.setIfInBounds_toArray, List.set_cons_zero, List.set_cons_succ, List.getElem_toArray, List.getElem_cons_zero, List.getElem_cons_succ]
      refine wpAnyH_ready (rs := [8]) (by as_aux_lemma => kernel_rfl) (by simp) ?_
      refine AllReadyH.cons rfl (fun K hK => ?_) AllReadyH.nil
      go_simp
      refine hK.out _ _ (M_t1.out.alloc _) (fun hS => ?_)
      clear hK K hS
      try simp only [Act.put, List.setIfInBounds_toArray, List.set_cons_zero, List.set_cons_succ, List.getElem_toArray, List.getElem_cons_zero, List.getElem_cons_succ]
      obtain ⟨t2, ht⟩ : ∃ t, t = t1.alloc (.cells #[.int .i64 f.w, .int .i64 f.h, .slice A_t1 f.px.length c_t1] 49) := ⟨_, rfl⟩
      change wpAnyH _ _ _ _ _ _ _ _ (t1.alloc (.cells #[.int .i64 f.w, .int .i64 f.h, .slice A_t1 f.px.length c_t1] 49))
      rw [← ht]
      have B_t2 := Lib.hid (show Below wc.heap.size wc t2 by rw [ht]; exact B_t1.out.alloc B_t1.out.size _)
      have M_t2 := Lib.hid (show Om (fun b => b = go ∨ v.ownBlock = some b) wc t2 by rw [ht]; exact M_t1.out.alloc _)
      have G_t2 := Lib.hid (show t2.heap[t1.heap.size]? = some (.cells #[.int .i64 f.w, .int .i64 f.h, .slice A_t1 f.px.length c_t1] 49 (0, 0)) by rw [ht]; exact heap_alloc_new _ _)
      have Z_t2 : t2.heap.size = t1.heap.size + 1 := by rw [ht]; simp
      have EI_t1 := Lib.hid (show EsP EC t2 (fun b => X1.heap.size ≤ b ∧ v.ownBlock ≠ some b) A_t1 f.px from ((O_t1.out.toP.keep (w' := t2) (fun b h1 h2 => by rw [ht, Below.heap_alloc _ _ _ h2])).imp fun b h1 _ => ⟨by omega, fun e => by have := ownE_lt HN.out.own e; omega⟩))
      have hS := M_t2.out
      clear ht
      refine wpAnyH_ready (rs := [9]) (by as_aux_lemma => kernel_rfl) (by simp) ?_
      refine AllReadyH.cons rfl (fun K hK => ?_) AllReadyH.nil
      rw [if_pos (by rfl)]
      refine opw_append_len RT (.tmp 77) (.tmp 84) 1 1 (show [⟨f, A_t1, c_t1⟩].length = 1 from rfl) rfl rfl rfl (HN.out.keep B_t2.out).own (es_one (E := ET) (x := ⟨f, A_t1, c_t1⟩) (cs := #[.int .i64 f.w, .int .i64 f.h, .slice A_t1 f.px.length c_t1]) rfl G_t2.out) (by omega) (by simp) (by have := B_t2.out.size; omega) ?_
      intro v' w7 h1 h2 h3
      obtain ⟨g', cap', rfl⟩ := ownsRow_succ h1
      obtain ⟨hN7, hB7⟩ := HN.out.app B_t2.out hs h1 h2 h3 EI_t1.out hcp_t1
      have F7 := Lib.hid (HF.out.keep hB7 (by omega) hgo)
      have M7 := Lib.hid (M_t2.out.grown h2 (fun r e => .inl (.inr e)))
      obtain ⟨z0, z1, z2, z3, z4, z5, z6, z7, z8, z9⟩ := ouB_cell F7.out.o
      have zf := ouB_free F7.out.o 7
      have zg := F7.out.z
      have N7 := Lib.hid hN7
      have B7 := Lib.hid hB7
      clear h1 h2 h3 hN7 hB7
      refine hK.out _ _ M7.out (fun hS => ?_)
      clear hK K
      try simp only [Act.put, List.setIfInBounds_toArray, List.set_cons_zero, List.set_cons_succ, List.getElem_toArray, List.getElem_cons_zero, List.getElem_cons_succ]
      refine wpAnyH_take (i := 10) (v := .pointer (some ⟨go, 7, none⟩)) rfl (by as_aux_lemma => kernel_rfl) (by as_aux_lemma => kernel_rfl) (by as_aux_lemma => kernel_rfl) (fun _ _ _ h => h) (Or.inl ⟨by rfl, fun w hw => by go_simp⟩) hS ?_
      try simp only [Act.put, List.setIfInBounds_toArray, List.set_cons_zero, List.set_cons_succ, List.getElem_toArray, List.getElem_cons_zero, List.getElem_cons_succ]
      refine wpAnyH_ready (rs := [11]) (by as_aux_lemma => kernel_rfl) (by simp) ?_
      refine AllReadyH.cons rfl (fun K hK => ?_) AllReadyH.nil
      go_simp
      refine hK.out _ _ (M7.out.set (.inl (.inl rfl))) (fun hS => ?_)
      clear hK K hS
      try simp only [Act.put, List.setIfInBounds_toArray, List.set_cons_zero, List.set_cons_succ, List.getElem_toArray, List.getElem_cons_zero, List.getElem_cons_succ]
      refine wpAnyH_done (by as_aux_lemma => kernel_rfl) ?_ _
      go_wp2_with fail
      go_roundw
      case rel => exact ⟨j + 1, _, ls ++ [⟨f, A_t1, c_t1⟩], by omega, by go_num, by rw [List.map_append, HX.out, HU.out]; rfl, N7.out.set (by omega), by have := B7.out.size; simp; omega, F7.out.set hgo (ouB_set7 _ F7.out.o), (HFx.out.below B7.out (Nat.le_refl _)).set (by omega)⟩
      case measure => simp [intOf]; omega
     refine AllReadyH.cons rfl (fun K hK => ?_) ?_
     ·
      skip
      go_simp
      with_reducible refine (HFit.out _ B_t0.out).mono ?_
      rintro e t3 ⟨A_t3, c_t3, rfl, hcp_t3, -, how, hb⟩
      have B_t3 := Lib.hid (bstep B_t0.out B_t0.out.size hb)
      have M_t3 := Lib.hid (M_t0.out.bel (hb.mono M_t0.out.1))
      have O_t3 := Lib.hid how
      have hsz_t3 := B_t0.out.size
      clear how
      clear hb
      refine hK.out _ _ M_t3.out (fun hS => ?_)
      clear hK K
      try simp only [Act.put, List.setIfInBounds_toArray, List.set_cons_zero, List.set_cons_succ, List.getElem_toArray, List.getElem_cons_zero, List.getElem_cons_succ]
      refine wpAnyH_ready (rs := [1, 8]) (by as_aux_lemma => kernel_rfl) (by simp) ?_
      refine AllReadyH.cons rfl (fun K hK => ?_) ?_
      ·
       skip
       have ldc : t3.cell? ⟨go, 7, none⟩ = some v := (B_t3.out.cell (p := ⟨go, 7, none⟩) hz).trans q7
       have lds := Nat.lt_of_lt_of_le hz B_t3.out.size
       go_simp
       refine hK.out _ _ M_t3.out (fun hS => ?_)
       clear hK K ldc lds
       try simp only [Act.put, List.setIfInBounds_toArray, List.set_cons_zero, List.set_cons_succ, List.getElem_toArray, List.getElem_cons_zero, List.getElem_cons_succ]
       refine wpAnyH_ready (rs := [8]) (by as_aux_lemma => kernel_rfl) (by simp) ?_
       refine AllReadyH.cons rfl (fun K hK => ?_) AllReadyH.nil
       go_simp
       refine hK.out _ _ (M_t3.out.alloc _) (fun hS => ?_)
       clear hK K hS
       try simp only [Act.put, List.setIfInBounds_toArray, List.set_cons_zero, List.set_cons_succ, List.getElem_toArray, List.getElem_cons_zero, List.getElem_cons_succ]
       obtain ⟨t4, ht⟩ : ∃ t, t = t3.alloc (.cells #[.int .i64 f.w, .int .i64 f.h, .slice A_t3 f.px.length c_t3] 49) := ⟨_, rfl⟩
       change wpAnyH _ _ _ _ _ _ _ _ (t3.alloc (.cells #[.int .i64 f.w, .int .i64 f.h, .slice A_t3 f.px.length c_t3] 49))
       rw [← ht]
       have B_t4 := Lib.hid (show Below wc.heap.size wc t4 by rw [ht]; exact B_t3.out.alloc B_t3.out.size _)
       have M_t4 := Lib.hid (show Om (fun b => b = go ∨ v.ownBlock = some b) wc t4 by rw [ht]; exact M_t3.out.alloc _)
       have G_t4 := Lib.hid (show t4.heap[t3.heap.size]? = some (.cells #[.int .i64 f.w, .int .i64 f.h, .slice A_t3 f.px.length c_t3] 49 (0, 0)) by rw [ht]; exact heap_alloc_new _ _)
       have Z_t4 : t4.heap.size = t3.heap.size + 1 := by rw [ht]; simp
       have EI_t3 := Lib.hid (show EsP EC t4 (fun b => X1.heap.size ≤ b ∧ v.ownBlock ≠ some b) A_t3 f.px from ((O_t3.out.toP.keep (w' := t4) (fun b h1 h2 => by rw [ht, Below.heap_alloc _ _ _ h2])).imp fun b h1 _ => ⟨by omega, fun e => by have := ownE_lt HN.out.own e; omega⟩))
       have hS := M_t4.out
       clear ht
       refine wpAnyH_ready (rs := [9]) (by as_aux_lemma => kernel_rfl) (by simp) ?_
       refine AllReadyH.cons rfl (fun K hK => ?_) AllReadyH.nil
       rw [if_pos (by rfl)]
       refine opw_append_len RT (.tmp 77) (.tmp 84) 1 1 (show [⟨f, A_t3, c_t3⟩].length = 1 from rfl) rfl rfl rfl (HN.out.keep B_t4.out).own (es_one (E := ET) (x := ⟨f, A_t3, c_t3⟩) (cs := #[.int .i64 f.w, .int .i64 f.h, .slice A_t3 f.px.length c_t3]) rfl G_t4.out) (by omega) (by simp) (by have := B_t4.out.size; omega) ?_
       intro v' w7 h1 h2 h3
       obtain ⟨g', cap', rfl⟩ := ownsRow_succ h1
       obtain ⟨hN7, hB7⟩ := HN.out.app B_t4.out hs h1 h2 h3 EI_t3.out hcp_t3
       have F7 := Lib.hid (HF.out.keep hB7 (by omega) hgo)
       have M7 := Lib.hid (M_t4.out.grown h2 (fun r e => .inl (.inr e)))
       obtain ⟨z0, z1, z2, z3, z4, z5, z6, z7, z8, z9⟩ := ouB_cell F7.out.o
       have zf := ouB_free F7.out.o 7
       have zg := F7.out.z
       have N7 := Lib.hid hN7
       have B7 := Lib.hid hB7
       clear h1 h2 h3 hN7 hB7
       refine hK.out _ _ M7.out (fun hS => ?_)
       clear hK K
       try simp only [Act.put, List.setIfInBounds_toArray, List.set_cons_zero, List.set_cons_succ, List.getElem_toArray, List.getElem_cons_zero, List.getElem_cons_succ]
       refine wpAnyH_take (i := 10) (v := .pointer (some ⟨go, 7, none⟩)) rfl (by as_aux_lemma => kernel_rfl) (by as_aux_lemma => kernel_rfl) (by as_aux_lemma => kernel_rfl) (fun _ _ _ h => h) (Or.inl ⟨by rfl, fun w hw => by go_simp⟩) hS ?_
       try simp only [Act.put, List.setIfInBounds_toArray, List.set_cons_zero, List.set_cons_succ, List.getElem_toArray, List.getElem_cons_zero, List.getElem_cons_succ]
       refine wpAnyH_ready (rs := [11]) (by as_aux_lemma => kernel_rfl) (by simp) ?_
       refine AllReadyH.cons rfl (fun K hK => ?_) AllReadyH.nil
       go_simp
       refine hK.out _ _ (M7.out.set (.inl (.inl rfl))) (fun hS => ?_)
       clear hK K hS
       try simp only [Act.put, List.setIfInBounds_toArray, List.set_cons_zero, List.set_cons_succ, List.getElem_toArray, List.getElem_cons_zero, List.getElem_cons_succ]
       refine wpAnyH_done (by as_aux_lemma => kernel_rfl) ?_ _
       go_wp2_with fail
       go_roundw
       case rel => exact ⟨j + 1, _, ls ++ [⟨f, A_t3, c_t3⟩], by omega, by go_num, by rw [List.map_append, HX.out, HU.out]; rfl, N7.out.set (by omega), by have := B7.out.size; simp; omega, F7.out.set hgo (ouB_set7 _ F7.out.o), (HFx.out.below B7.out (Nat.le_refl _)).set (by omega)⟩
       case measure => simp [intOf]; omega
      refine AllReadyH.cons rfl (fun K hK => ?_) ?_
      ·
       skip
       go_simp
       refine hK.out _ _ (M_t3.out.alloc _) (fun hS => ?_)
       clear hK K hS
       try simp only [Act.put, List.setIfInBounds_toArray, List.set_cons_zero, List.set_cons_succ, List.getElem_toArray, List.getElem_cons_zero, List.getElem_cons_succ]
       obtain ⟨t5, ht⟩ : ∃ t, t = t3.alloc (.cells #[.int .i64 f.w, .int .i64 f.h, .slice A_t3 f.px.length c_t3] 49) := ⟨_, rfl⟩
       change wpAnyH _ _ _ _ _ _ _ _ (t3.alloc (.cells #[.int .i64 f.w, .int .i64 f.h, .slice A_t3 f.px.length c_t3] 49))
       rw [← ht]
       have B_t5 := Lib.hid (show Below wc.heap.size wc t5 by rw [ht]; exact B_t3.out.alloc B_t3.out.size _)
       have M_t5 := Lib.hid (show Om (fun b => b = go ∨ v.ownBlock = some b) wc t5 by rw [ht]; exact M_t3.out.alloc _)
       have G_t5 := Lib.hid (show t5.heap[t3.heap.size]? = some (.cells #[.int .i64 f.w, .int .i64 f.h, .slice A_t3 f.px.length c_t3] 49 (0, 0)) by rw [ht]; exact heap_alloc_new _ _)
       have Z_t5 : t5.heap.size = t3.heap.size + 1 := by rw [ht]; simp
       have EI_t3 := Lib.hid (show EsP EC t5 (fun b => X1.heap.size ≤ b ∧ v.ownBlock ≠ some b) A_t3 f.px from ((O_t3.out.toP.keep (w' := t5) (fun b h1 h2 => by rw [ht, Below.heap_alloc _ _ _ h2])).imp fun b h1 _ => ⟨by omega, fun e => by have := ownE_lt HN.out.own e; omega⟩))
       have hS := M_t5.out
       clear ht
       refine wpAnyH_ready (rs := [1]) (by as_aux_lemma => kernel_rfl) (by simp) ?_
       refine AllReadyH.cons rfl (fun K hK => ?_) AllReadyH.nil
       have ldc : t5.cell? ⟨go, 7, none⟩ = some v := (B_t5.out.cell (p := ⟨go, 7, none⟩) hz).trans q7
       have lds := Nat.lt_of_lt_of_le hz B_t5.out.size
       go_simp
       refine hK.out _ _ M_t5.out (fun hS => ?_)
       clear hK K ldc lds
       try simp only [Act.put, List.setIfInBounds_toArray, List.set_cons_zero, List.set_cons_succ, List.getElem_toArray, List.getElem_cons_zero, List.getElem_cons_succ]
       refine wpAnyH_ready (rs := [9]) (by as_aux_lemma => kernel_rfl) (by simp) ?_
       refine AllReadyH.cons rfl (fun K hK => ?_) AllReadyH.nil
       rw [if_pos (by rfl)]
       refine opw_append_len RT (.tmp 77) (.tmp 84) 1 1 (show [⟨f, A_t3, c_t3⟩].length = 1 from rfl) rfl rfl rfl (HN.out.keep B_t5.out).own (es_one (E := ET) (x := ⟨f, A_t3, c_t3⟩) (cs := #[.int .i64 f.w, .int .i64 f.h, .slice A_t3 f.px.length c_t3]) rfl G_t5.out) (by omega) (by simp) (by have := B_t5.out.size; omega) ?_
       intro v' w7 h1 h2 h3
       obtain ⟨g', cap', rfl⟩ := ownsRow_succ h1
       obtain ⟨hN7, hB7⟩ := HN.out.app B_t5.out hs h1 h2 h3 EI_t3.out hcp_t3
       have F7 := Lib.hid (HF.out.keep hB7 (by omega) hgo)
       have M7 := Lib.hid (M_t5.out.grown h2 (fun r e => .inl (.inr e)))
       obtain ⟨z0, z1, z2, z3, z4, z5, z6, z7, z8, z9⟩ := ouB_cell F7.out.o
       have zf := ouB_free F7.out.o 7
       have zg := F7.out.z
       have N7 := Lib.hid hN7
       have B7 := Lib.hid hB7
       clear h1 h2 h3 hN7 hB7
       refine hK.out _ _ M7.out (fun hS => ?_)
       clear hK K
       try simp only [Act.put, List.setIfInBounds_toArray, List.set_cons_zero, List.set_cons_succ, List.getElem_toArray, List.getElem_cons_zero, List.getElem_cons_succ]
       refine wpAnyH_take (i := 10) (v := .pointer (some ⟨go, 7, none⟩)) rfl (by as_aux_lemma => kernel_rfl) (by as_aux_lemma => kernel_rfl) (by as_aux_lemma => kernel_rfl) (fun _ _ _ h => h) (Or.inl ⟨by rfl, fun w hw => by go_simp⟩) hS ?_
       try simp only [Act.put, List.setIfInBounds_toArray, List.set_cons_zero, List.set_cons_succ, List.getElem_toArray, List.getElem_cons_zero, List.getElem_cons_succ]
       refine wpAnyH_ready (rs := [11]) (by as_aux_lemma => kernel_rfl) (by simp) ?_
       refine AllReadyH.cons rfl (fun K hK => ?_) AllReadyH.nil
       go_simp
       refine hK.out _ _ (M7.out.set (.inl (.inl rfl))) (fun hS => ?_)
       clear hK K hS
       try simp only [Act.put, List.setIfInBounds_toArray, List.set_cons_zero, List.set_cons_succ, List.getElem_toArray, List.getElem_cons_zero, List.getElem_cons_succ]
       refine wpAnyH_done (by as_aux_lemma => kernel_rfl) ?_ _
       go_wp2_with fail
       go_roundw
       case rel => exact ⟨j + 1, _, ls ++ [⟨f, A_t3, c_t3⟩], by omega, by go_num, by rw [List.map_append, HX.out, HU.out]; rfl, N7.out.set (by omega), by have := B7.out.size; simp; omega, F7.out.set hgo (ouB_set7 _ F7.out.o), (HFx.out.below B7.out (Nat.le_refl _)).set (by omega)⟩
       case measure => simp [intOf]; omega
      exact AllReadyH.nil
     exact AllReadyH.nil
    ·
     have d1 : decide ((j : Int) < m2) = false := by simp; omega
     rw [d1]
     clear d1
     have hjm : j = m2 := by omega
     rw [hjm] at HX
     clear hjm
     obtain ⟨tA', tc', hv, htc, -, -⟩ := HN.out.own.es
     obtain ⟨nt, hnt⟩ : ∃ n, ls.length = n := ⟨_, rfl⟩
     rw [hnt] at hv htc
     subst hv
     have hntm : nt = m2 := by
      have := congrArg List.length HX.out
      rw [List.length_map, List.length_map, List.length_take, List.length_map, hn2.out] at this
      omega
     replace hntm := Lib.hid hntm
     have OT2 := Lib.hid (HN.out.lid)
     have OV2 := Lib.hid (OV1.out.fx HFx.out (by omega) (Nat.le_refl _))
     have XT := HX
     have F2' := HF
     replace hnt := Lib.hid hnt
     rename List (Lo Tx) => lst
     rename World => X2
     clear HX HN HF HFx OV1 F1 s0 s1 s2 s3 s4 s5 s6 s7 s8 s9 q0 q1 q2 q3 q4 q5 q6 q7 q8 q9 qf hll hlt hj
     have hgX : go < X2.heap.size := F2'.out.z
     have OEp := Lib.hid (show OwnE EP ((X2.alloc (.cells #[.int .u8 1, .int .u8 0, .int .u8 0, .int .u8 0, .int .i64 0] 70)).alloc (.cells #[.slice (some ⟨X2.heap.size, 0, none⟩) 1 1] 65)) X2.heap.size (.slice none 0 0) [] from OwnE.nil _ _)
     have EZ1 := heap_alloc_new (X2.alloc (.cells #[.int .u8 1, .int .u8 0, .int .u8 0, .int .u8 0, .int .i64 0] 70)) (.cells #[.slice (some ⟨X2.heap.size, 0, none⟩) 1 1] 65)
     simp only [World.size_alloc] at EZ1
     have EZ := Lib.hid (es_one (E := EP) (x := ⟨[C.mov], some ⟨X2.heap.size, 0, none⟩, 1⟩) (cs := #[.slice (some ⟨X2.heap.size, 0, none⟩) 1 1]) rfl EZ1)
     have EM1 : ((X2.alloc (.cells #[.int .u8 1, .int .u8 0, .int .u8 0, .int .u8 0, .int .i64 0] 70)).alloc (.cells #[.slice (some ⟨X2.heap.size, 0, none⟩) 1 1] 65)).heap[X2.heap.size]? = some (.cells #[.int .u8 1, .int .u8 0, .int .u8 0, .int .u8 0, .int .i64 0] 70 (0, 0)) := by
      rw [Below.heap_alloc _ _ _ (by simp)]
      exact heap_alloc_new _ _
     have EM := Lib.hid (esP_at (p := fun b => X2.heap.size ≤ b ∧ (Value.slice none 0 0).ownBlock ≠ some b) (es_one (E := C.EI) (x := C.mov) (cs := #[.int .u8 1, .int .u8 0, .int .u8 0, .int .u8 0, .int .i64 0]) rfl EM1) ⟨Nat.le_refl _, by simp [Value.ownBlock]⟩)
     have BA := Lib.hid (show Below X2.heap.size X2 ((X2.alloc (.cells #[.int .u8 1, .int .u8 0, .int .u8 0, .int .u8 0, .int .i64 0] 70)).alloc (.cells #[.slice (some ⟨X2.heap.size, 0, none⟩) 1 1] 65)) from (new_below _ _).alloc (by simp) _)
     have F3a := Lib.hid (F2'.out.keep BA.out hgX hgo)
     clear EZ1 EM1
     obtain ⟨o0, o1, o2, o3, o4, o5, o6, o7, o8, o9⟩ := ouB_cell F2'.out.o
     go_wp2_with (at_builtin; refine wpList_append_len rfl RP _ _ 1 1 rfl rfl rfl rfl OEp.out EZ.out (by simp) (by simp) (by simp; omega) ?_; intro v' w4 h1 h2 h3; obtain ⟨g', cap', rfl⟩ := ownsRow_succ h1; obtain ⟨hO, hB⟩ := (OwnN.nil (E := EP) (F := C.EI) (inn := fun l => l) X2 X2.heap.size).app BA.out (Nat.le_refl _) h1 h2 h3 EM.out (Nat.le_refl 1); have B1 := Lib.hid hB; have F1 := Lib.hid (F2'.out.keep B1.out hgX hgo); have O1 := Lib.hid (show OwnN EP C.EI (fun l => l) w4 X2.heap.size (.slice (some ⟨g', 0, none⟩) 1 cap') [⟨[C.mov], some ⟨X2.heap.size, 0, none⟩, 1⟩] from hO); obtain ⟨p0, p1, p2, p3, p4, p5, p6, p7, p8, p9⟩ := ouB_cell F1.out.o; have pf8 := ouB_free F1.out.o 8; have hgw := F1.out.z; clear h1 h2 h3 hO hB)
     have F3 := Lib.hid (F1.out.set hgo (ouB_set8 (.slice (some ⟨g', 0, none⟩) 1 cap') F1.out.o))
     have O3 := Lib.hid (O1.out.set (g := go) (o := 8) (u := .slice (some ⟨g', 0, none⟩) 1 cap') hgX)
     have hX3 := Lib.hid ((Below.fx (B := go + 1) B1.out).set (g := go) (o := 8) (u := .slice (some ⟨g', 0, none⟩) 1 cap') (by omega))
     have hzX : X2.heap.size ≤ (w4.setCell ⟨go, 8, none⟩ (.slice (some ⟨g', 0, none⟩) 1 cap')).heap.size := by have := B1.out.size; simpa using this
     clear o0 o1 o2 o3 o4 o5 o6 o7 o8 o9 p0 p1 p2 p3 p4 p5 p6 p7 p8 p9 pf8 F2' F3a F1 O1 OEp EZ EM BA B1 hgw
     obtain ⟨m3, hm3⟩ : ∃ m, min n3 3 = m := ⟨_, rfl⟩
     obtain ⟨bb, hbb⟩ : ∃ b, ((nt : Int) == 0) = b := ⟨_, rfl⟩
     go_loopw [14] (fun i wr => ∃ (j : Nat) (v : Value) (ls : List (Lo (List C.In))), j ≤ m3 ∧ i = .int .i64 j ∧ ls.map Lo.x = [C.mov] :: (((s.ps.map Lo.x).take j).map (fitPn bb)) ∧ OwnN EP C.EI (fun l => l) wr X2.heap.size v ls ∧ X2.heap.size ≤ wr.heap.size ∧ FtF w (ouB s.w s.h s.k (.slice vA n1 s.vc) (.slice tA n2 s.tc) (.slice pA n3 s.pc) (.slice dA n4 s.dc)) go wr (ouB oW oH ok (.slice vA' nv vc') (.slice tA' nt tc') v (.slice none 0 0)) ∧ Fx (go + 1) X2.heap.size X2 wr) (fun i _ => m3 - (intOf i).toNat)
     case atStart => exact ⟨0, _, _, Nat.zero_le _, rfl, rfl, O3.out, hzX, F3.out, hX3.out⟩
     case round =>
      obtain ⟨j, v, ls, hj, rfl, hx, ho, hs, hF, hf⟩ := hrel
      have HX := Lib.hid hx
      have HN := Lib.hid ho
      have HF := Lib.hid hF
      have HFx := Lib.hid hf
      clear hf
      have hz := hF.z
      have hll : ls.length ≤ 70 := by
       have := congrArg List.length hx
       rw [List.length_map, List.length_cons, List.length_map, List.length_take] at this
       omega
      obtain ⟨s0, s1, s2, s3, s4, s5, s6, s7, s8, s9⟩ := ouB_cell hF.s
      obtain ⟨q0, q1, q2, q3, q4, q5, q6, q7, q8, q9⟩ := ouB_cell hF.o
      have qf := ouB_free hF.o 8
      clear hx ho hF
      go_upto_region 13 with fail
      go_cut [102] from 94 to 101 (fun c Xc => c = .bool (decide ((j : Int) < m3)) ∧ Xc = wr)
      case first =>
       by_cases e1 : j < n3
       ·
        by_cases e2 : j < 3
        ·
         have e3 : decide ((j : Int) < 3) = true := by simp; omega
         have d1 : decide ((j : Int) < m3) = true := by simp; omega
         have D1 := Lib.hid d1
         clear d1
         go_wp2_with fail
         go_meet
         exact ⟨by rw [D1.out], rfl⟩
        ·
         have e3 : decide ((j : Int) < 3) = false := by simp; omega
         have d1 : decide ((j : Int) < m3) = false := by simp; omega
         have D1 := Lib.hid d1
         clear d1
         go_wp2_with fail
         go_meet
         exact ⟨by rw [D1.out], rfl⟩
       ·
        have d1 : decide ((j : Int) < m3) = false := by simp; omega
        have D1 := Lib.hid d1
        clear d1
        go_wp2_with fail
        go_meet
        exact ⟨by rw [D1.out], rfl⟩
      case rest =>
      rename World => wc
      obtain ⟨rfl, rfl⟩ := hcut
      by_cases hlt : j < m3
      ·
       have d1 : decide ((j : Int) < m3) = true := by simp; omega
       rw [d1]
       clear d1
       obtain ⟨u, hu⟩ := LP.out j (by omega)
       obtain ⟨b, off, rfl, hbB, hat⟩ := EPs.out.at hu
       have d0 := atP (show AtE EP wc b (off + j * 1) u from hat.below HF.out.b hbB)
       have d0 : wc.cell? ⟨b, off + j, none⟩ = some (.slice u.A u.x.length u.c) := by simpa using d0
       obtain ⟨f, hf⟩ : ∃ f, fitPn bb u.x = f := ⟨_, rfl⟩
       have hmu := List.mem_of_getElem? hu
       have hcc := HC.out.ps u hmu
       have HEt := Lib.hid (HA.out.px u hmu)
       have HFit := Lib.hid (show ∀ t, Below wc.heap.size wc t → Calls Try.prog 25 #[.slice u.A u.x.length u.c, .bool bb] t (fun e w' => ∃ A' c', e = .returned (.slice A' f.length c') ∧ f.length ≤ c' ∧ OwnE C.EI w' t.heap.size (.slice A' f.length c') f ∧ Below t.heap.size t w') from fun t hb => by
        rw [← hf]
        have hbt := HF.out.b.trans (hb.mono HF.out.b.size)
        have he := (HEt.out.below hbt).more hbt.size
        have key : Calls Try.prog 25 #[.slice u.A u.x.length u.c, .bool bb] t (MadeE C.EI t.heap.size t (fitPn bb u.x)) := by
         cases bb
         ·
          exact C.Fit_any u.x u.A u.c hcc.1 t he
         ·
          exact C.Fitb_any u.x u.A u.c hcc.1 t he
        refine key.mono fun e w' h => ?_
        obtain ⟨v, h1, h2, h3⟩ := h
        obtain ⟨A', c', e2, h4, -, -⟩ := h2.es
        subst e2
        exact ⟨A', c', h1, h4, h2, h3⟩)
       have HU := Lib.hid (map_take_snoc (f := fitPn bb) hu)
       rw [hf] at HU
       replace hu := Lib.hid hu
       clear hat hf hmu hcc
       have hvb : ∀ x, v.ownBlock = some x → X2.heap.size ≤ x := fun x e => ownE_ge HN.out.own x e
       have NM1 := Lib.hid (show ¬ (w.heap.size = go ∨ v.ownBlock = some w.heap.size) from fun e => e.elim (fun h => by omega) (fun h => by have := hvb _ h; omega))
       have NM2 := Lib.hid (show ¬ (b = go ∨ v.ownBlock = some b) from fun e => e.elim (fun h => by omega) (fun h => by have := hvb _ h; omega))
       replace hvb := Lib.hid hvb
       go_wp2_with fail
       have y0 : ∀ w', Om (fun b => b = go ∨ v.ownBlock = some b) wc w' → w'.cell? ⟨w.heap.size, 8, none⟩ = some (.slice (some ⟨b, off, none⟩) n3 s.pc) := fun w' h => h.cell (by assumption) (NM1.out)
       have y1 : ∀ w', Om (fun b => b = go ∨ v.ownBlock = some b) wc w' → w'.cell? ⟨b, off + j, none⟩ = some (.slice u.A u.x.length u.c) := fun w' h => h.cell (by assumption) (NM2.out)
       refine wp_region_held_drew (S := fun w' => Om (fun b => b = go ∨ v.ownBlock = some b) wc w') (by as_aux_lemma => kernel_rfl) (om_drew _ _) (fun hS => ?_)
       have B_t0 := Lib.hid (show Below wc.heap.size wc wc.drew from (Below.refl _ _).drew)
       have M_t0 := Lib.hid (om_drew (fun b => b = go ∨ v.ownBlock = some b) wc)
       generalize wc.drew = t0 at *
       refine wpAnyH_take (i := 0) (v := .pointer (some ⟨go, 8, none⟩)) rfl (by as_aux_lemma => kernel_rfl) (by as_aux_lemma => kernel_rfl) (by as_aux_lemma => kernel_rfl) (fun _ _ _ h => h) (Or.inl ⟨by rfl, fun w hw => by have z0 := y0 w hw; have z1 := y1 w hw; go_simp⟩) hS ?_
       try simp only [Act.put, List.setIfInBounds_toArray, List.set_cons_zero, List.set_cons_succ, List.getElem_toArray, List.getElem_cons_zero]
       refine wpAnyH_take (i := 2) (v := .pointer (some ⟨w.heap.size, 8, none⟩)) rfl (by as_aux_lemma => kernel_rfl) (by as_aux_lemma => kernel_rfl) (by as_aux_lemma => kernel_rfl) (fun _ _ _ h => h) (Or.inl ⟨by rfl, fun w hw => by have z0 := y0 w hw; have z1 := y1 w hw; go_simp⟩) hS ?_
       try simp only [Act.put, List.setIfInBounds_toArray, List.set_cons_zero, List.set_cons_succ, List.getElem_toArray, List.getElem_cons_zero, List.getElem_cons_succ]
       refine wpAnyH_take (i := 3) (v := .slice (some ⟨b, off, none⟩) n3 s.pc) rfl (by as_aux_lemma => kernel_rfl) (by as_aux_lemma => kernel_rfl) (by as_aux_lemma => kernel_rfl) (fun _ _ _ h => h) (Or.inl ⟨by rfl, fun w hw => by have z0 := y0 w hw; have z1 := y1 w hw; go_simp⟩) hS ?_
       try simp only [Act.put, List.setIfInBounds_toArray, List.set_cons_zero, List.set_cons_succ, List.getElem_toArray, List.getElem_cons_zero, List.getElem_cons_succ]
       refine wpAnyH_take (i := 4) (v := .int .i64 j) rfl (by as_aux_lemma => kernel_rfl) (by as_aux_lemma => kernel_rfl) (by as_aux_lemma => kernel_rfl) (fun _ _ _ h => h) (Or.inl ⟨by rfl, fun w hw => by have z0 := y0 w hw; have z1 := y1 w hw; go_simp⟩) hS ?_
       try simp only [Act.put, List.setIfInBounds_toArray, List.set_cons_zero, List.set_cons_succ, List.getElem_toArray, List.getElem_cons_zero, List.getElem_cons_succ]
       refine wpAnyH_take (i := 5) (v := .pointer (some ⟨b, off + j, none⟩)) rfl (by as_aux_lemma => kernel_rfl) (by as_aux_lemma => kernel_rfl) (by as_aux_lemma => kernel_rfl) (fun _ _ _ h => h) (Or.inl ⟨by rfl, fun w hw => by have z0 := y0 w hw; have z1 := y1 w hw; go_simp <;> (intro h; exact absurd h (by omega))⟩) hS ?_
       try simp only [Act.put, List.setIfInBounds_toArray, List.set_cons_zero, List.set_cons_succ, List.getElem_toArray, List.getElem_cons_zero, List.getElem_cons_succ]
       refine wpAnyH_take (i := 6) (v := .slice u.A u.x.length u.c) rfl (by as_aux_lemma => kernel_rfl) (by as_aux_lemma => kernel_rfl) (by as_aux_lemma => kernel_rfl) (fun _ _ _ h => h) (Or.inl ⟨by rfl, fun w hw => by have z0 := y0 w hw; have z1 := y1 w hw; go_simp⟩) hS ?_
       try simp only [Act.put, List.setIfInBounds_toArray, List.set_cons_zero, List.set_cons_succ, List.getElem_toArray, List.getElem_cons_zero, List.getElem_cons_succ]
       refine wpAnyH_take (i := 7) (v := .pointer (some ⟨go, 7, none⟩)) rfl (by as_aux_lemma => kernel_rfl) (by as_aux_lemma => kernel_rfl) (by as_aux_lemma => kernel_rfl) (fun _ _ _ h => h) (Or.inl ⟨by rfl, fun w hw => by have z0 := y0 w hw; have z1 := y1 w hw; go_simp⟩) hS ?_
       try simp only [Act.put, List.setIfInBounds_toArray, List.set_cons_zero, List.set_cons_succ, List.getElem_toArray, List.getElem_cons_zero, List.getElem_cons_succ]
       refine wpAnyH_ready (rs := [1, 8]) (by as_aux_lemma => kernel_rfl) (by simp) ?_
       refine AllReadyH.cons rfl (fun K hK => ?_) ?_
       ·
        skip
        have ldc : t0.cell? ⟨go, 8, none⟩ = some v := (B_t0.out.cell (p := ⟨go, 8, none⟩) hz).trans q8
        have lds := Nat.lt_of_lt_of_le hz B_t0.out.size
        go_simp
        refine hK.out _ _ M_t0.out (fun hS => ?_)
        clear hK K ldc lds
        try simp only [Act.put, List.setIfInBounds_toArray, List.set_cons_zero, List.set_cons_succ, List.getElem_toArray, List.getElem_cons_zero, List.getElem_cons_succ]
        refine wpAnyH_ready (rs := [8]) (by as_aux_lemma => kernel_rfl) (by simp) ?_
        refine AllReadyH.cons rfl (fun K hK => ?_) AllReadyH.nil
        have ldd : t0.cell? ⟨go, 7, none⟩ = some (.slice tA' nt tc') := (B_t0.out.cell (p := ⟨go, 7, none⟩) hz).trans q7
        have ldz := Nat.lt_of_lt_of_le hz B_t0.out.size
        go_simp
        refine hK.out _ _ M_t0.out (fun hS => ?_)
        clear hK K ldd ldz
        try simp only [Act.put, List.setIfInBounds_toArray, List.set_cons_zero, List.set_cons_succ, List.getElem_toArray, List.getElem_cons_zero, List.getElem_cons_succ]
        refine wpAnyH_take (i := 9) (v := .int .i64 nt) rfl (by as_aux_lemma => kernel_rfl) (by as_aux_lemma => kernel_rfl) (by as_aux_lemma => kernel_rfl) (fun _ _ _ h => h) (Or.inl ⟨by rfl, fun w hw => by have z0 := y0 w hw; have z1 := y1 w hw; go_simp⟩) hS ?_
        try simp only [Act.put, List.setIfInBounds_toArray, List.set_cons_zero, List.set_cons_succ, List.getElem_toArray, List.getElem_cons_zero, List.getElem_cons_succ]
        refine wpAnyH_take (i := 10) (v := .bool bb) rfl (by as_aux_lemma => kernel_rfl) (by as_aux_lemma => kernel_rfl) (by as_aux_lemma => kernel_rfl) (fun _ _ _ h => h) (Or.inl ⟨by rfl, fun w hw => by have z0 := y0 w hw; have z1 := y1 w hw; go_simp⟩) hS ?_
        try simp only [Act.put, List.setIfInBounds_toArray, List.set_cons_zero, List.set_cons_succ, List.getElem_toArray, List.getElem_cons_zero, List.getElem_cons_succ]
        refine wpAnyH_ready (rs := [11]) (by as_aux_lemma => kernel_rfl) (by simp) ?_
        refine AllReadyH.cons rfl (fun K hK => ?_) AllReadyH.nil
        go_simp
        with_reducible refine (HFit.out _ B_t0.out).mono ?_
        rintro e t2 ⟨A_t2, c_t2, rfl, hcp_t2, how, hb⟩
        have B_t2 := Lib.hid (bstep B_t0.out B_t0.out.size hb)
        have M_t2 := Lib.hid (M_t0.out.bel (hb.mono M_t0.out.1))
        have O_t2 := Lib.hid how
        have hsz_t2 := B_t0.out.size
        clear how
        clear hb
        refine hK.out _ _ M_t2.out (fun hS => ?_)
        clear hK K
        try simp only [Act.put, List.setIfInBounds_toArray, List.set_cons_zero, List.set_cons_succ, List.getElem_toArray, List.getElem_cons_zero, List.getElem_cons_succ]
        refine wpAnyH_ready (rs := [12]) (by as_aux_lemma => kernel_rfl) (by simp) ?_
        refine AllReadyH.cons rfl (fun K hK => ?_) AllReadyH.nil
        go_simp
        refine hK.out _ _ (M_t2.out.alloc _) (fun hS => ?_)
        clear hK K hS
        try simp only [Act.put, List.setIfInBounds_toArray, List.set_cons_zero, List.set_cons_succ, List.getElem_toArray, List.getElem_cons_zero, List.getElem_cons_succ]
        obtain ⟨t3, ht⟩ : ∃ t, t = t2.alloc (.cells #[.slice A_t2 f.length c_t2] 65) := ⟨_, rfl⟩
        change wpAnyH _ _ _ _ _ _ _ _ (t2.alloc (.cells #[.slice A_t2 f.length c_t2] 65))
        rw [← ht]
        have B_t3 := Lib.hid (show Below wc.heap.size wc t3 by rw [ht]; exact B_t2.out.alloc B_t2.out.size _)
        have M_t3 := Lib.hid (show Om (fun b => b = go ∨ v.ownBlock = some b) wc t3 by rw [ht]; exact M_t2.out.alloc _)
        have G_t3 := Lib.hid (show t3.heap[t2.heap.size]? = some (.cells #[.slice A_t2 f.length c_t2] 65 (0, 0)) by rw [ht]; exact heap_alloc_new _ _)
        have Z_t3 : t3.heap.size = t2.heap.size + 1 := by rw [ht]; simp
        have EI_t2 := Lib.hid (show EsP C.EI t3 (fun b => X2.heap.size ≤ b ∧ v.ownBlock ≠ some b) A_t2 f from ((O_t2.out.toP.keep (w' := t3) (fun b h1 h2 => by rw [ht, Below.heap_alloc _ _ _ h2])).imp fun b h1 _ => ⟨by omega, fun e => by have := ownE_lt HN.out.own e; omega⟩))
        have hS := M_t3.out
        clear ht
        refine wpAnyH_ready (rs := [13]) (by as_aux_lemma => kernel_rfl) (by simp) ?_
        refine AllReadyH.cons rfl (fun K hK => ?_) AllReadyH.nil
        rw [if_pos (by rfl)]
        refine opw_append_len RP (.tmp 106) (.tmp 117) 1 1 (show [⟨f, A_t2, c_t2⟩].length = 1 from rfl) rfl rfl rfl (HN.out.keep B_t3.out).own (es_one (E := EP) (x := ⟨f, A_t2, c_t2⟩) (cs := #[.slice A_t2 f.length c_t2]) rfl G_t3.out) (by omega) (by simp) (by have := B_t3.out.size; omega) ?_
        intro v' w7 h1 h2 h3
        obtain ⟨g', cap', rfl⟩ := ownsRow_succ h1
        obtain ⟨hN7, hB7⟩ := HN.out.app B_t3.out hs h1 h2 h3 EI_t2.out hcp_t2
        have F7 := Lib.hid (HF.out.keep hB7 (by omega) hgo)
        have M7 := Lib.hid (M_t3.out.grown h2 (fun r e => .inl (.inr e)))
        obtain ⟨z0, z1, z2, z3, z4, z5, z6, z7, z8, z9⟩ := ouB_cell F7.out.o
        have zf := ouB_free F7.out.o 8
        have zg := F7.out.z
        have N7 := Lib.hid hN7
        have B7 := Lib.hid hB7
        clear h1 h2 h3 hN7 hB7
        refine hK.out _ _ M7.out (fun hS => ?_)
        clear hK K
        try simp only [Act.put, List.setIfInBounds_toArray, List.set_cons_zero, List.set_cons_succ, List.getElem_toArray, List.getElem_cons_zero, List.getElem_cons_succ]
        refine wpAnyH_take (i := 14) (v := .pointer (some ⟨go, 8, none⟩)) rfl (by as_aux_lemma => kernel_rfl) (by as_aux_lemma => kernel_rfl) (by as_aux_lemma => kernel_rfl) (fun _ _ _ h => h) (Or.inl ⟨by rfl, fun w hw => by go_simp⟩) hS ?_
        try simp only [Act.put, List.setIfInBounds_toArray, List.set_cons_zero, List.set_cons_succ, List.getElem_toArray, List.getElem_cons_zero, List.getElem_cons_succ]
        refine wpAnyH_ready (rs := [15]) (by as_aux_lemma => kernel_rfl) (by simp) ?_
        refine AllReadyH.cons rfl (fun K hK => ?_) AllReadyH.nil
        go_simp
        refine hK.out _ _ (M7.out.set (.inl (.inl rfl))) (fun hS => ?_)
        clear hK K hS
        try simp only [Act.put, List.setIfInBounds_toArray, List.set_cons_zero, List.set_cons_succ, List.getElem_toArray, List.getElem_cons_zero, List.getElem_cons_succ]
        refine wpAnyH_done (by as_aux_lemma => kernel_rfl) ?_ _
        go_wp2_with fail
        go_roundw
        case rel => exact ⟨j + 1, _, ls ++ [⟨f, A_t2, c_t2⟩], by omega, by go_num, by rw [List.map_append, HX.out, HU.out]; rfl, N7.out.set (by omega), by have := B7.out.size; simp; omega, F7.out.set hgo (ouB_set8 _ F7.out.o), (HFx.out.below B7.out (Nat.le_refl _)).set (by omega)⟩
        case measure => simp [intOf]; omega
       refine AllReadyH.cons rfl (fun K hK => ?_) ?_
       ·
        skip
        have ldd : t0.cell? ⟨go, 7, none⟩ = some (.slice tA' nt tc') := (B_t0.out.cell (p := ⟨go, 7, none⟩) hz).trans q7
        have ldz := Nat.lt_of_lt_of_le hz B_t0.out.size
        go_simp
        refine hK.out _ _ M_t0.out (fun hS => ?_)
        clear hK K ldd ldz
        try simp only [Act.put, List.setIfInBounds_toArray, List.set_cons_zero, List.set_cons_succ, List.getElem_toArray, List.getElem_cons_zero, List.getElem_cons_succ]
        refine wpAnyH_take (i := 9) (v := .int .i64 nt) rfl (by as_aux_lemma => kernel_rfl) (by as_aux_lemma => kernel_rfl) (by as_aux_lemma => kernel_rfl) (fun _ _ _ h => h) (Or.inl ⟨by rfl, fun w hw => by have z0 := y0 w hw; have z1 := y1 w hw; go_simp⟩) hS ?_
        try simp only [Act.put, List.setIfInBounds_toArray, List.set_cons_zero, List.set_cons_succ, List.getElem_toArray, List.getElem_cons_zero, List.getElem_cons_succ]
        refine wpAnyH_take (i := 10) (v := .bool bb) rfl (by as_aux_lemma => kernel_rfl) (by as_aux_lemma => kernel_rfl) (by as_aux_lemma => kernel_rfl) (fun _ _ _ h => h) (Or.inl ⟨by rfl, fun w hw => by have z0 := y0 w hw; have z1 := y1 w hw; go_simp⟩) hS ?_
        try simp only [Act.put, List.setIfInBounds_toArray, List.set_cons_zero, List.set_cons_succ, List.getElem_toArray, List.getElem_cons_zero, List.getElem_cons_succ]
        refine wpAnyH_ready (rs := [1, 11]) (by as_aux_lemma => kernel_rfl) (by simp) ?_
        refine AllReadyH.cons rfl (fun K hK => ?_) ?_
        ·
         skip
         have ldc : t0.cell? ⟨go, 8, none⟩ = some v := (B_t0.out.cell (p := ⟨go, 8, none⟩) hz).trans q8
         have lds := Nat.lt_of_lt_of_le hz B_t0.out.size
         go_simp
         refine hK.out _ _ M_t0.out (fun hS => ?_)
         clear hK K ldc lds
         try simp only [Act.put, List.setIfInBounds_toArray, List.set_cons_zero, List.set_cons_succ, List.getElem_toArray, List.getElem_cons_zero, List.getElem_cons_succ]
         refine wpAnyH_ready (rs := [11]) (by as_aux_lemma => kernel_rfl) (by simp) ?_
         refine AllReadyH.cons rfl (fun K hK => ?_) AllReadyH.nil
         go_simp
         with_reducible refine (HFit.out _ B_t0.out).mono ?_
         rintro e t5 ⟨A_t5, c_t5, rfl, hcp_t5, how, hb⟩
         have B_t5 := Lib.hid (bstep B_t0.out B_t0.out.size hb)
         have M_t5 := Lib.hid (M_t0.out.bel (hb.mono M_t0.out.1))
         have O_t5 := Lib.hid how
         have hsz_t5 := B_t0.out.size
         clear how
         clear hb
         refine hK.out _ _ M_t5.out (fun hS => ?_)
         clear hK K
         try simp only [Act.put, List.setIfInBounds_toArray, List.set_cons_zero, List.set_cons_succ, List.getElem_toArray, List.getElem_cons_zero, List.getElem_cons_succ]
         refine wpAnyH_ready (rs := [12]) (by as_aux_lemma => kernel_rfl) (by simp) ?_
         refine AllReadyH.cons rfl (fun K hK => ?_) AllReadyH.nil
         go_simp
         refine hK.out _ _ (M_t5.out.alloc _) (fun hS => ?_)
         clear hK K hS
         try simp only [Act.put, List.setIfInBounds_toArray, List.set_cons_zero, List.set_cons_succ, List.getElem_toArray, List.getElem_cons_zero, List.getElem_cons_succ]
         obtain ⟨t6, ht⟩ : ∃ t, t = t5.alloc (.cells #[.slice A_t5 f.length c_t5] 65) := ⟨_, rfl⟩
         change wpAnyH _ _ _ _ _ _ _ _ (t5.alloc (.cells #[.slice A_t5 f.length c_t5] 65))
         rw [← ht]
         have B_t6 := Lib.hid (show Below wc.heap.size wc t6 by rw [ht]; exact B_t5.out.alloc B_t5.out.size _)
         have M_t6 := Lib.hid (show Om (fun b => b = go ∨ v.ownBlock = some b) wc t6 by rw [ht]; exact M_t5.out.alloc _)
         have G_t6 := Lib.hid (show t6.heap[t5.heap.size]? = some (.cells #[.slice A_t5 f.length c_t5] 65 (0, 0)) by rw [ht]; exact heap_alloc_new _ _)
         have Z_t6 : t6.heap.size = t5.heap.size + 1 := by rw [ht]; simp
         have EI_t5 := Lib.hid (show EsP C.EI t6 (fun b => X2.heap.size ≤ b ∧ v.ownBlock ≠ some b) A_t5 f from ((O_t5.out.toP.keep (w' := t6) (fun b h1 h2 => by rw [ht, Below.heap_alloc _ _ _ h2])).imp fun b h1 _ => ⟨by omega, fun e => by have := ownE_lt HN.out.own e; omega⟩))
         have hS := M_t6.out
         clear ht
         refine wpAnyH_ready (rs := [13]) (by as_aux_lemma => kernel_rfl) (by simp) ?_
         refine AllReadyH.cons rfl (fun K hK => ?_) AllReadyH.nil
         rw [if_pos (by rfl)]
         refine opw_append_len RP (.tmp 106) (.tmp 117) 1 1 (show [⟨f, A_t5, c_t5⟩].length = 1 from rfl) rfl rfl rfl (HN.out.keep B_t6.out).own (es_one (E := EP) (x := ⟨f, A_t5, c_t5⟩) (cs := #[.slice A_t5 f.length c_t5]) rfl G_t6.out) (by omega) (by simp) (by have := B_t6.out.size; omega) ?_
         intro v' w7 h1 h2 h3
         obtain ⟨g', cap', rfl⟩ := ownsRow_succ h1
         obtain ⟨hN7, hB7⟩ := HN.out.app B_t6.out hs h1 h2 h3 EI_t5.out hcp_t5
         have F7 := Lib.hid (HF.out.keep hB7 (by omega) hgo)
         have M7 := Lib.hid (M_t6.out.grown h2 (fun r e => .inl (.inr e)))
         obtain ⟨z0, z1, z2, z3, z4, z5, z6, z7, z8, z9⟩ := ouB_cell F7.out.o
         have zf := ouB_free F7.out.o 8
         have zg := F7.out.z
         have N7 := Lib.hid hN7
         have B7 := Lib.hid hB7
         clear h1 h2 h3 hN7 hB7
         refine hK.out _ _ M7.out (fun hS => ?_)
         clear hK K
         try simp only [Act.put, List.setIfInBounds_toArray, List.set_cons_zero, List.set_cons_succ, List.getElem_toArray, List.getElem_cons_zero, List.getElem_cons_succ]
         refine wpAnyH_take (i := 14) (v := .pointer (some ⟨go, 8, none⟩)) rfl (by as_aux_lemma => kernel_rfl) (by as_aux_lemma => kernel_rfl) (by as_aux_lemma => kernel_rfl) (fun _ _ _ h => h) (Or.inl ⟨by rfl, fun w hw => by go_simp⟩) hS ?_
         try simp only [Act.put, List.setIfInBounds_toArray, List.set_cons_zero, List.set_cons_succ, List.getElem_toArray, List.getElem_cons_zero, List.getElem_cons_succ]
         refine wpAnyH_ready (rs := [15]) (by as_aux_lemma => kernel_rfl) (by simp) ?_
         refine AllReadyH.cons rfl (fun K hK => ?_) AllReadyH.nil
         go_simp
         refine hK.out _ _ (M7.out.set (.inl (.inl rfl))) (fun hS => ?_)
         clear hK K hS
         try simp only [Act.put, List.setIfInBounds_toArray, List.set_cons_zero, List.set_cons_succ, List.getElem_toArray, List.getElem_cons_zero, List.getElem_cons_succ]
         refine wpAnyH_done (by as_aux_lemma => kernel_rfl) ?_ _
         go_wp2_with fail
         go_roundw
         case rel => exact ⟨j + 1, _, ls ++ [⟨f, A_t5, c_t5⟩], by omega, by go_num, by rw [List.map_append, HX.out, HU.out]; rfl, N7.out.set (by omega), by have := B7.out.size; simp; omega, F7.out.set hgo (ouB_set8 _ F7.out.o), (HFx.out.below B7.out (Nat.le_refl _)).set (by omega)⟩
         case measure => simp [intOf]; omega
        refine AllReadyH.cons rfl (fun K hK => ?_) ?_
        ·
         skip
         go_simp
         with_reducible refine (HFit.out _ B_t0.out).mono ?_
         rintro e t7 ⟨A_t7, c_t7, rfl, hcp_t7, how, hb⟩
         have B_t7 := Lib.hid (bstep B_t0.out B_t0.out.size hb)
         have M_t7 := Lib.hid (M_t0.out.bel (hb.mono M_t0.out.1))
         have O_t7 := Lib.hid how
         have hsz_t7 := B_t0.out.size
         clear how
         clear hb
         refine hK.out _ _ M_t7.out (fun hS => ?_)
         clear hK K
         try simp only [Act.put, List.setIfInBounds_toArray, List.set_cons_zero, List.set_cons_succ, List.getElem_toArray, List.getElem_cons_zero, List.getElem_cons_succ]
         refine wpAnyH_ready (rs := [1, 12]) (by as_aux_lemma => kernel_rfl) (by simp) ?_
         refine AllReadyH.cons rfl (fun K hK => ?_) ?_
         ·
          skip
          have ldc : t7.cell? ⟨go, 8, none⟩ = some v := (B_t7.out.cell (p := ⟨go, 8, none⟩) hz).trans q8
          have lds := Nat.lt_of_lt_of_le hz B_t7.out.size
          go_simp
          refine hK.out _ _ M_t7.out (fun hS => ?_)
          clear hK K ldc lds
          try simp only [Act.put, List.setIfInBounds_toArray, List.set_cons_zero, List.set_cons_succ, List.getElem_toArray, List.getElem_cons_zero, List.getElem_cons_succ]
          refine wpAnyH_ready (rs := [12]) (by as_aux_lemma => kernel_rfl) (by simp) ?_
          refine AllReadyH.cons rfl (fun K hK => ?_) AllReadyH.nil
          go_simp
          refine hK.out _ _ (M_t7.out.alloc _) (fun hS => ?_)
          clear hK K hS
          try simp only [Act.put, List.setIfInBounds_toArray, List.set_cons_zero, List.set_cons_succ, List.getElem_toArray, List.getElem_cons_zero, List.getElem_cons_succ]
          obtain ⟨t8, ht⟩ : ∃ t, t = t7.alloc (.cells #[.slice A_t7 f.length c_t7] 65) := ⟨_, rfl⟩
          change wpAnyH _ _ _ _ _ _ _ _ (t7.alloc (.cells #[.slice A_t7 f.length c_t7] 65))
          rw [← ht]
          have B_t8 := Lib.hid (show Below wc.heap.size wc t8 by rw [ht]; exact B_t7.out.alloc B_t7.out.size _)
          have M_t8 := Lib.hid (show Om (fun b => b = go ∨ v.ownBlock = some b) wc t8 by rw [ht]; exact M_t7.out.alloc _)
          have G_t8 := Lib.hid (show t8.heap[t7.heap.size]? = some (.cells #[.slice A_t7 f.length c_t7] 65 (0, 0)) by rw [ht]; exact heap_alloc_new _ _)
          have Z_t8 : t8.heap.size = t7.heap.size + 1 := by rw [ht]; simp
          have EI_t7 := Lib.hid (show EsP C.EI t8 (fun b => X2.heap.size ≤ b ∧ v.ownBlock ≠ some b) A_t7 f from ((O_t7.out.toP.keep (w' := t8) (fun b h1 h2 => by rw [ht, Below.heap_alloc _ _ _ h2])).imp fun b h1 _ => ⟨by omega, fun e => by have := ownE_lt HN.out.own e; omega⟩))
          have hS := M_t8.out
          clear ht
          refine wpAnyH_ready (rs := [13]) (by as_aux_lemma => kernel_rfl) (by simp) ?_
          refine AllReadyH.cons rfl (fun K hK => ?_) AllReadyH.nil
          rw [if_pos (by rfl)]
          refine opw_append_len RP (.tmp 106) (.tmp 117) 1 1 (show [⟨f, A_t7, c_t7⟩].length = 1 from rfl) rfl rfl rfl (HN.out.keep B_t8.out).own (es_one (E := EP) (x := ⟨f, A_t7, c_t7⟩) (cs := #[.slice A_t7 f.length c_t7]) rfl G_t8.out) (by omega) (by simp) (by have := B_t8.out.size; omega) ?_
          intro v' w7 h1 h2 h3
          obtain ⟨g', cap', rfl⟩ := ownsRow_succ h1
          obtain ⟨hN7, hB7⟩ := HN.out.app B_t8.out hs h1 h2 h3 EI_t7.out hcp_t7
          have F7 := Lib.hid (HF.out.keep hB7 (by omega) hgo)
          have M7 := Lib.hid (M_t8.out.grown h2 (fun r e => .inl (.inr e)))
          obtain ⟨z0, z1, z2, z3, z4, z5, z6, z7, z8, z9⟩ := ouB_cell F7.out.o
          have zf := ouB_free F7.out.o 8
          have zg := F7.out.z
          have N7 := Lib.hid hN7
          have B7 := Lib.hid hB7
          clear h1 h2 h3 hN7 hB7
          refine hK.out _ _ M7.out (fun hS => ?_)
          clear hK K
          try simp only [Act.put, List.setIfInBounds_toArray, List.set_cons_zero, List.set_cons_succ, List.getElem_toArray, List.getElem_cons_zero, List.getElem_cons_succ]
          refine wpAnyH_take (i := 14) (v := .pointer (some ⟨go, 8, none⟩)) rfl (by as_aux_lemma => kernel_rfl) (by as_aux_lemma => kernel_rfl) (by as_aux_lemma => kernel_rfl) (fun _ _ _ h => h) (Or.inl ⟨by rfl, fun w hw => by go_simp⟩) hS ?_
          try simp only [Act.put, List.setIfInBounds_toArray, List.set_cons_zero, List.set_cons_succ, List.getElem_toArray, List.getElem_cons_zero, List.getElem_cons_succ]
          refine wpAnyH_ready (rs := [15]) (by as_aux_lemma => kernel_rfl) (by simp) ?_
          refine AllReadyH.cons rfl (fun K hK => ?_) AllReadyH.nil
          go_simp
          refine hK.out _ _ (M7.out.set (.inl (.inl rfl))) (fun hS => ?_)
          clear hK K hS
          try simp only [Act.put, List.setIfInBounds_toArray, List.set_cons_zero, List.set_cons_succ, List.getElem_toArray, List.getElem_cons_zero, List.getElem_cons_succ]
          refine wpAnyH_done (by as_aux_lemma => kernel_rfl) ?_ _
          go_wp2_with fail
          go_roundw
          case rel => exact ⟨j + 1, _, ls ++ [⟨f, A_t7, c_t7⟩], by omega, by go_num, by rw [List.map_append, HX.out, HU.out]; rfl, N7.out.set (by omega), by have := B7.out.size; simp; omega, F7.out.set hgo (ouB_set8 _ F7.out.o), (HFx.out.below B7.out (Nat.le_refl _)).set (by omega)⟩
          case measure => simp [intOf]; omega
         refine AllReadyH.cons rfl (fun K hK => ?_) ?_
         ·
          skip
          go_simp
          refine hK.out _ _ (M_t7.out.alloc _) (fun hS => ?_)
          clear hK K hS
          try simp only [Act.put, List.setIfInBounds_toArray, List.set_cons_zero, List.set_cons_succ, List.getElem_toArray, List.getElem_cons_zero, List.getElem_cons_succ]
          obtain ⟨t9, ht⟩ : ∃ t, t = t7.alloc (.cells #[.slice A_t7 f.length c_t7] 65) := ⟨_, rfl⟩
          change wpAnyH _ _ _ _ _ _ _ _ (t7.alloc (.cells #[.slice A_t7 f.length c_t7] 65))
          rw [← ht]
          have B_t9 := Lib.hid (show Below wc.heap.size wc t9 by rw [ht]; exact B_t7.out.alloc B_t7.out.size _)
          have M_t9 := Lib.hid (show Om (fun b => b = go ∨ v.ownBlock = some b) wc t9 by rw [ht]; exact M_t7.out.alloc _)
          have G_t9 := Lib.hid (show t9.heap[t7.heap.size]? = some (.cells #[.slice A_t7 f.length c_t7] 65 (0, 0)) by rw [ht]; exact heap_alloc_new _ _)
          have Z_t9 : t9.heap.size = t7.heap.size + 1 := by rw [ht]; simp
          have EI_t7 := Lib.hid (show EsP C.EI t9 (fun b => X2.heap.size ≤ b ∧ v.ownBlock ≠ some b) A_t7 f from ((O_t7.out.toP.keep (w' := t9) (fun b h1 h2 => by rw [ht, Below.heap_alloc _ _ _ h2])).imp fun b h1 _ => ⟨by omega, fun e => by have := ownE_lt HN.out.own e; omega⟩))
          have hS := M_t9.out
          clear ht
          refine wpAnyH_ready (rs := [1]) (by as_aux_lemma => kernel_rfl) (by simp) ?_
          refine AllReadyH.cons rfl (fun K hK => ?_) AllReadyH.nil
          have ldc : t9.cell? ⟨go, 8, none⟩ = some v := (B_t9.out.cell (p := ⟨go, 8, none⟩) hz).trans q8
          have lds := Nat.lt_of_lt_of_le hz B_t9.out.size
          go_simp
          refine hK.out _ _ M_t9.out (fun hS => ?_)
          clear hK K ldc lds
          try simp only [Act.put, List.setIfInBounds_toArray, List.set_cons_zero, List.set_cons_succ, List.getElem_toArray, List.getElem_cons_zero, List.getElem_cons_succ]
          refine wpAnyH_ready (rs := [13]) (by as_aux_lemma => kernel_rfl) (by simp) ?_
          refine AllReadyH.cons rfl (fun K hK => ?_) AllReadyH.nil
          rw [if_pos (by rfl)]
          refine opw_append_len RP (.tmp 106) (.tmp 117) 1 1 (show [⟨f, A_t7, c_t7⟩].length = 1 from rfl) rfl rfl rfl (HN.out.keep B_t9.out).own (es_one (E := EP) (x := ⟨f, A_t7, c_t7⟩) (cs := #[.slice A_t7 f.length c_t7]) rfl G_t9.out) (by omega) (by simp) (by have := B_t9.out.size; omega) ?_
          intro v' w7 h1 h2 h3
          obtain ⟨g', cap', rfl⟩ := ownsRow_succ h1
          obtain ⟨hN7, hB7⟩ := HN.out.app B_t9.out hs h1 h2 h3 EI_t7.out hcp_t7
          have F7 := Lib.hid (HF.out.keep hB7 (by omega) hgo)
          have M7 := Lib.hid (M_t9.out.grown h2 (fun r e => .inl (.inr e)))
          obtain ⟨z0, z1, z2, z3, z4, z5, z6, z7, z8, z9⟩ := ouB_cell F7.out.o
          have zf := ouB_free F7.out.o 8
          have zg := F7.out.z
          have N7 := Lib.hid hN7
          have B7 := Lib.hid hB7
          clear h1 h2 h3 hN7 hB7
          refine hK.out _ _ M7.out (fun hS => ?_)
          clear hK K
          try simp only [Act.put, List.setIfInBounds_toArray, List.set_cons_zero, List.set_cons_succ, List.getElem_toArray, List.getElem_cons_zero, List.getElem_cons_succ]
          refine wpAnyH_take (i := 14) (v := .pointer (some ⟨go, 8, none⟩)) rfl (by as_aux_lemma => kernel_rfl) (by as_aux_lemma => kernel_rfl) (by as_aux_lemma => kernel_rfl) (fun _ _ _ h => h) (Or.inl ⟨by rfl, fun w hw => by go_simp⟩) hS ?_
          try simp only [Act.put, List.setIfInBounds_toArray, List.set_cons_zero, List.set_cons_succ, List.getElem_toArray, List.getElem_cons_zero, List.getElem_cons_succ]
          refine wpAnyH_ready (rs := [15]) (by as_aux_lemma => kernel_rfl) (by simp) ?_
          refine AllReadyH.cons rfl (fun K hK => ?_) AllReadyH.nil
          go_simp
          refine hK.out _ _ (M7.out.set (.inl (.inl rfl))) (fun hS => ?_)
          clear hK K hS
          try simp only [Act.put, List.setIfInBounds_toArray, List.set_cons_zero, List.set_cons_succ, List.getElem_toArray, List.getElem_cons_zero, List.getElem_cons_succ]
          refine wpAnyH_done (by as_aux_lemma => kernel_rfl) ?_ _
          go_wp2_with fail
          go_roundw
          case rel => exact ⟨j + 1, _, ls ++ [⟨f, A_t7, c_t7⟩], by omega, by go_num, by rw [List.map_append, HX.out, HU.out]; rfl, N7.out.set (by omega), by have := B7.out.size; simp; omega, F7.out.set hgo (ouB_set8 _ F7.out.o), (HFx.out.below B7.out (Nat.le_refl _)).set (by omega)⟩
          case measure => simp [intOf]; omega
         exact AllReadyH.nil
        exact AllReadyH.nil
       exact AllReadyH.nil
      ·
       have d1 : decide ((j : Int) < m3) = false := by simp; omega
       rw [d1]
       clear d1
       have hjm : j = m3 := by omega
       rw [hjm] at HX
       clear hjm
       obtain ⟨pA', pc', hv, hpc, -, -⟩ := HN.out.own.es
       obtain ⟨np, hnp⟩ : ∃ n, ls.length = n := ⟨_, rfl⟩
       rw [hnp] at hv hpc
       subst hv
       have hnpm : np = m3 + 1 := by
        have := congrArg List.length HX.out
        rw [List.length_map, List.length_cons, List.length_map, List.length_take, List.length_map, hn3.out] at this
        omega
       replace hnpm := Lib.hid hnpm
       replace hbb := Lib.hid hbb
       have OP3 := Lib.hid (HN.out.lid)
       have OV3 := Lib.hid (OV2.out.fx HFx.out (by omega) (Nat.le_refl _))
       have OT3 := Lib.hid (OT2.out.fx HFx.out (by omega) (Nat.le_refl _))
       have XP := HX
       have F4 := HF
       replace hnp := Lib.hid hnp
       rename List (Lo (List C.In)) => lsp
       rename World => X3
       clear HX HN HF HFx OV2 OT2 s0 s1 s2 s3 s4 s5 s6 s7 s8 s9 q0 q1 q2 q3 q4 q5 q6 q7 q8 q9 qf hll hlt hj
       obtain ⟨m4, hm4⟩ : ∃ m, min n4 draws = m := ⟨_, rfl⟩
       have hgX3 := F4.out.z
       go_wp2_with fail
       go_loopw [15] (fun i wr => ∃ (j : Nat) (v : Value) (ls : List (Lo Dr)), j ≤ m4 ∧ i = .int .i64 j ∧ ls.map Lo.x = ((s.ds.map Lo.x).take j).mapIdx (fitDr nv nt np tris) ∧ OwnN ED ER Dr.tris wr X3.heap.size v ls ∧ X3.heap.size ≤ wr.heap.size ∧ FtF w (ouB s.w s.h s.k (.slice vA n1 s.vc) (.slice tA n2 s.tc) (.slice pA n3 s.pc) (.slice dA n4 s.dc)) go wr (ouB oW oH ok (.slice vA' nv vc') (.slice tA' nt tc') (.slice pA' np pc') v) ∧ Fx (go + 1) X3.heap.size X3 wr) (fun i _ => m4 - (intOf i).toNat)
       case atStart => exact ⟨0, _, [], Nat.zero_le _, rfl, rfl, OwnN.nil _ _, Nat.le_refl _, F4.out, Fx.refl _ _ _⟩
       case round =>
        obtain ⟨j, v, ls, hj, rfl, hx, ho, hs, hF, hf⟩ := hrel
        have HX := Lib.hid hx
        have HN := Lib.hid ho
        have HF := Lib.hid hF
        have HFx := Lib.hid hf
        clear hf
        have hz := hF.z
        have hll : ls.length ≤ 70 := by
         have := congrArg List.length hx
         rw [List.length_map, List.length_mapIdx, List.length_take] at this
         omega
        obtain ⟨s0, s1, s2, s3, s4, s5, s6, s7, s8, s9⟩ := ouB_cell hF.s
        obtain ⟨q0, q1, q2, q3, q4, q5, q6, q7, q8, q9⟩ := ouB_cell hF.o
        have qf := ouB_free hF.o 9
        clear hx ho hF
        go_upto_region 17 with fail
        go_cut [129] from 120 to 128 (fun c Xc => c = .bool (decide ((j : Int) < m4)) ∧ Xc = wr)
        case first =>
         by_cases e1 : j < n4
         ·
          by_cases e2 : j < draws
          ·
           have e3 : decide ((j : Int) < draws) = true := by simp; omega
           have d1 : decide ((j : Int) < m4) = true := by simp; omega
           have D1 := Lib.hid d1
           clear d1
           go_wp2_with fail
           go_meet
           exact ⟨by rw [D1.out], rfl⟩
          ·
           have e3 : decide ((j : Int) < draws) = false := by simp; omega
           have d1 : decide ((j : Int) < m4) = false := by simp; omega
           have D1 := Lib.hid d1
           clear d1
           go_wp2_with fail
           go_meet
           exact ⟨by rw [D1.out], rfl⟩
         ·
          have d1 : decide ((j : Int) < m4) = false := by simp; omega
          have D1 := Lib.hid d1
          clear d1
          go_wp2_with fail
          go_meet
          exact ⟨by rw [D1.out], rfl⟩
        case rest =>
        rename World => wc
        obtain ⟨rfl, rfl⟩ := hcut
        by_cases hlt : j < m4
        ·
         have d1 : decide ((j : Int) < m4) = true := by simp; omega
         rw [d1]
         clear d1
         obtain ⟨u, hu⟩ := LD.out j (by omega)
         obtain ⟨b, off, rfl, hbB, hat⟩ := EDs.out.at hu
         obtain ⟨d0, d1, d2, d3, d4⟩ := atD (show AtE ED wc b (off + j * 5) u from hat.below HF.out.b hbB)
         obtain ⟨p, hp⟩ : ∃ p, u.x.tris.length = p := ⟨_, rfl⟩
         rw [hp] at d4
         have hmu := List.mem_of_getElem? hu
         have hcc := Lib.hid (HC.out.ds u hmu)
         have HEt := Lib.hid (HA.out.dx u hmu)
         have hj8 : j < 8 := by omega
         have q100 := emod_in u.x.id (m := 100) (by decide)
         have qnp := emod_in u.x.prog (m := np) (by have := hnpm.out; omega)
         obtain ⟨i0, hi0⟩ : ∃ i, u.x.id % 100 = i := ⟨_, rfl⟩
         obtain ⟨g0, hg0⟩ : ∃ i, u.x.prog % (np : Int) = i := ⟨_, rfl⟩
         rw [show u.x.id % ((100 : Nat) : Int) = i0 from hi0] at q100
         rw [hg0] at qnp
         have HM1 := Lib.hid (show ∀ w, Calls Try.prog 22 #[.int .i64 u.x.id, .int .i64 100] w (fun e w' => e = .returned (.int .i64 i0) ∧ Below w.heap.size w w') from fun w => by rw [← hi0]; exact rmod_bel u.x.id 100 hcc.out.1.id (by omega) (by omega) w)
         have HM2 := Lib.hid (show ∀ w, Calls Try.prog 22 #[.int .i64 u.x.prog, .int .i64 np] w (fun e w' => e = .returned (.int .i64 g0) ∧ Below w.heap.size w w') from fun w => by rw [← hg0]; exact rmod_bel u.x.prog np hcc.out.1.prog (by have := hnpm.out; omega) (by have := hnpm.out; omega) w)
         have wm0 : IntKind.i64.wrap (100 * i0) = 100 * i0 := by rw [IntKind.wrap_i64]; omega
         have wm1 : IntKind.i64.wrap (100 * i0 + (j : Int)) = 100 * i0 + j := by rw [IntKind.wrap_i64]; omega
         replace hu := Lib.hid hu
         replace hp := Lib.hid hp
         replace hi0 := Lib.hid hi0
         replace hg0 := Lib.hid hg0
         clear hat hmu
         go_wp2_with fail
         have FD := Lib.hid (HF.out.keep (new_below wc (.cells #[.int .i64 u.x.id, .int .i64 u.x.prog, .int .i64 u.x.tex, .bool u.x.op, .slice u.A p u.c] 52)) hz hgo)
         have GD := Lib.hid (heap_alloc_new wc (.cells #[.int .i64 u.x.id, .int .i64 u.x.prog, .int .i64 u.x.tex, .bool u.x.op, .slice u.A p u.c] 52))
         have BD := Lib.hid (new_below wc (.cells #[.int .i64 u.x.id, .int .i64 u.x.prog, .int .i64 u.x.tex, .bool u.x.op, .slice u.A p u.c] 52))
         have ZD : (wc.alloc (.cells #[.int .i64 u.x.id, .int .i64 u.x.prog, .int .i64 u.x.tex, .bool u.x.op, .slice u.A p u.c] 52)).heap.size = wc.heap.size + 1 := by simp
         generalize wc.alloc (.cells #[.int .i64 u.x.id, .int .i64 u.x.prog, .int .i64 u.x.tex, .bool u.x.op, .slice u.A p u.c] 52) = Wd at *
         go_cut [17] from 137 to 151 (fun pp Xc => ∃ h, pp = .pointer (some ⟨h, 0, none⟩) ∧ Wd.heap.size ≤ h ∧ Below Wd.heap.size Wd Xc ∧ Xc.heap[h]? = some (.cells #[.int .i64 (100 * i0 + j), .int .i64 g0, .int .i64 (-1), .bool u.x.op, .slice none 0 0] 52 (0, 0)))
         case first =>
          obtain ⟨o0, o1, o2, o3, o4, o5, o6, o7, o8, o9⟩ := ouB_cell FD.out.o
          have y0 : ∀ x : Grow Wd, x.w.cell? ⟨wc.heap.size, 0, none⟩ = some (.int .i64 u.x.id) := fun x => x.cell (Joins.cell_of_block GD.out 0)
          have y1 : ∀ x : Grow Wd, x.w.cell? ⟨wc.heap.size, 1, none⟩ = some (.int .i64 u.x.prog) := fun x => x.cell (Joins.cell_of_block GD.out 1)
          have y2 : ∀ x : Grow Wd, x.w.cell? ⟨wc.heap.size, 3, none⟩ = some (.bool u.x.op) := fun x => x.cell (Joins.cell_of_block GD.out 3)
          have y3 : ∀ x : Grow Wd, x.w.cell? ⟨go, 8, none⟩ = some (.slice pA' np pc') := fun x => x.cell o8
          refine wp_region_held_drew (S := fun w' => ∃ x : Grow Wd, w' = x.w) (by as_aux_lemma => kernel_rfl) ⟨⟨_, (Below.refl _ _).drew⟩, rfl⟩ (fun hS => ?_)
          have BY := Lib.hid (show Below Wd.heap.size Wd Wd.drew from (Below.refl _ _).drew)
          generalize Wd.drew = Y at *
          clear o0 o1 o2 o3 o4 o5 o6 o7 o8 o9
          refine wpAnyH_take (i := 0) (v := .pointer (some ⟨wc.heap.size, 0, none⟩)) rfl (by as_aux_lemma => kernel_rfl) (by as_aux_lemma => kernel_rfl) (by as_aux_lemma => kernel_rfl) (fun _ _ _ h => h) (Or.inl ⟨by rfl, fun w hw => by obtain ⟨x, rfl⟩ := hw; go_simp⟩) hS ?_
          try simp only [Act.put, List.setIfInBounds_toArray, List.set_cons_zero, List.set_cons_succ, List.getElem_toArray, List.getElem_cons_zero]
          refine wpAnyH_take (i := 1) (v := .int .i64 u.x.id) rfl (by as_aux_lemma => kernel_rfl) (by as_aux_lemma => kernel_rfl) (by as_aux_lemma => kernel_rfl) (fun _ _ _ h => h) (Or.inl ⟨by rfl, fun w hw => by obtain ⟨x, rfl⟩ := hw; go_simp⟩) hS ?_
          try simp only [Act.put, List.setIfInBounds_toArray, List.set_cons_zero, List.set_cons_succ, List.getElem_toArray, List.getElem_cons_zero, List.getElem_cons_succ]
          refine wpAnyH_take (i := 4) (v := .int .i64 j) rfl (by as_aux_lemma => kernel_rfl) (by as_aux_lemma => kernel_rfl) (by as_aux_lemma => kernel_rfl) (fun _ _ _ h => h) (Or.inl ⟨by rfl, fun w hw => by obtain ⟨x, rfl⟩ := hw; go_simp⟩) hS ?_
          try simp only [Act.put, List.setIfInBounds_toArray, List.set_cons_zero, List.set_cons_succ, List.getElem_toArray, List.getElem_cons_zero, List.getElem_cons_succ]
          refine wpAnyH_take (i := 6) (v := .pointer (some ⟨wc.heap.size, 1, none⟩)) rfl (by as_aux_lemma => kernel_rfl) (by as_aux_lemma => kernel_rfl) (by as_aux_lemma => kernel_rfl) (fun _ _ _ h => h) (Or.inl ⟨by rfl, fun w hw => by obtain ⟨x, rfl⟩ := hw; go_simp⟩) hS ?_
          try simp only [Act.put, List.setIfInBounds_toArray, List.set_cons_zero, List.set_cons_succ, List.getElem_toArray, List.getElem_cons_zero, List.getElem_cons_succ]
          refine wpAnyH_take (i := 7) (v := .int .i64 u.x.prog) rfl (by as_aux_lemma => kernel_rfl) (by as_aux_lemma => kernel_rfl) (by as_aux_lemma => kernel_rfl) (fun _ _ _ h => h) (Or.inl ⟨by rfl, fun w hw => by obtain ⟨x, rfl⟩ := hw; go_simp⟩) hS ?_
          try simp only [Act.put, List.setIfInBounds_toArray, List.set_cons_zero, List.set_cons_succ, List.getElem_toArray, List.getElem_cons_zero, List.getElem_cons_succ]
          refine wpAnyH_take (i := 8) (v := .pointer (some ⟨go, 8, none⟩)) rfl (by as_aux_lemma => kernel_rfl) (by as_aux_lemma => kernel_rfl) (by as_aux_lemma => kernel_rfl) (fun _ _ _ h => h) (Or.inl ⟨by rfl, fun w hw => by obtain ⟨x, rfl⟩ := hw; go_simp⟩) hS ?_
          try simp only [Act.put, List.setIfInBounds_toArray, List.set_cons_zero, List.set_cons_succ, List.getElem_toArray, List.getElem_cons_zero, List.getElem_cons_succ]
          refine wpAnyH_take (i := 9) (v := .slice pA' np pc') rfl (by as_aux_lemma => kernel_rfl) (by as_aux_lemma => kernel_rfl) (by as_aux_lemma => kernel_rfl) (fun _ _ _ h => h) (Or.inl ⟨by rfl, fun w hw => by obtain ⟨x, rfl⟩ := hw; go_simp⟩) hS ?_
          try simp only [Act.put, List.setIfInBounds_toArray, List.set_cons_zero, List.set_cons_succ, List.getElem_toArray, List.getElem_cons_zero, List.getElem_cons_succ]
          refine wpAnyH_take (i := 10) (v := .int .i64 np) rfl (by as_aux_lemma => kernel_rfl) (by as_aux_lemma => kernel_rfl) (by as_aux_lemma => kernel_rfl) (fun _ _ _ h => h) (Or.inl ⟨by rfl, fun w hw => by obtain ⟨x, rfl⟩ := hw; go_simp⟩) hS ?_
          try simp only [Act.put, List.setIfInBounds_toArray, List.set_cons_zero, List.set_cons_succ, List.getElem_toArray, List.getElem_cons_zero, List.getElem_cons_succ]
          refine wpAnyH_take (i := 12) (v := .pointer (some ⟨wc.heap.size, 3, none⟩)) rfl (by as_aux_lemma => kernel_rfl) (by as_aux_lemma => kernel_rfl) (by as_aux_lemma => kernel_rfl) (fun _ _ _ h => h) (Or.inl ⟨by rfl, fun w hw => by obtain ⟨x, rfl⟩ := hw; go_simp⟩) hS ?_
          try simp only [Act.put, List.setIfInBounds_toArray, List.set_cons_zero, List.set_cons_succ, List.getElem_toArray, List.getElem_cons_zero, List.getElem_cons_succ]
          refine wpAnyH_take (i := 13) (v := .bool u.x.op) rfl (by as_aux_lemma => kernel_rfl) (by as_aux_lemma => kernel_rfl) (by as_aux_lemma => kernel_rfl) (fun _ _ _ h => h) (Or.inl ⟨by rfl, fun w hw => by obtain ⟨x, rfl⟩ := hw; go_simp⟩) hS ?_
          try simp only [Act.put, List.setIfInBounds_toArray, List.set_cons_zero, List.set_cons_succ, List.getElem_toArray, List.getElem_cons_zero, List.getElem_cons_succ]
          refine wpAnyH_ready (rs := [2, 15]) (by as_aux_lemma => kernel_rfl) (by simp) ?_
          refine AllReadyH.cons rfl (fun K hK => ?_) ?_
          ·
           skip
           go_simp
           with_reducible refine (HM1.out _).mono ?_
           rintro e t1 ⟨rfl, hb⟩
           have Bt1 := Lib.hid (bstep BY.out BY.out.size hb)
           clear hb
           refine hK.out _ _ ⟨⟨_, Bt1.out⟩, rfl⟩ (fun hS => ?_)
           clear hK K
           try simp only [Act.put, List.setIfInBounds_toArray, List.set_cons_zero, List.set_cons_succ, List.getElem_toArray, List.getElem_cons_zero, List.getElem_cons_succ]
           refine wpAnyH_take (i := 3) (v := .int .i64 (100 * i0)) rfl (by as_aux_lemma => kernel_rfl) (by as_aux_lemma => kernel_rfl) (by as_aux_lemma => kernel_rfl) (fun _ _ _ h => h) (Or.inl ⟨by rfl, fun w hw => by obtain ⟨x, rfl⟩ := hw; go_simp⟩) hS ?_
           try simp only [Act.put, List.setIfInBounds_toArray, List.set_cons_zero, List.set_cons_succ, List.getElem_toArray, List.getElem_cons_zero, List.getElem_cons_succ]
           refine wpAnyH_take (i := 5) (v := .int .i64 (100 * i0 + j)) rfl (by as_aux_lemma => kernel_rfl) (by as_aux_lemma => kernel_rfl) (by as_aux_lemma => kernel_rfl) (fun _ _ _ h => h) (Or.inl ⟨by rfl, fun w hw => by obtain ⟨x, rfl⟩ := hw; go_simp⟩) hS ?_
           try simp only [Act.put, List.setIfInBounds_toArray, List.set_cons_zero, List.set_cons_succ, List.getElem_toArray, List.getElem_cons_zero, List.getElem_cons_succ]
           refine wpAnyH_ready (rs := [11, 15]) (by as_aux_lemma => kernel_rfl) (by simp) ?_
           refine AllReadyH.cons rfl (fun K hK => ?_) ?_
           ·
            skip
            go_simp
            with_reducible refine (HM2.out _).mono ?_
            rintro e t2 ⟨rfl, hb⟩
            have Bt2 := Lib.hid (bstep Bt1.out Bt1.out.size hb)
            clear hb
            refine hK.out _ _ ⟨⟨_, Bt2.out⟩, rfl⟩ (fun hS => ?_)
            clear hK K
            try simp only [Act.put, List.setIfInBounds_toArray, List.set_cons_zero, List.set_cons_succ, List.getElem_toArray, List.getElem_cons_zero, List.getElem_cons_succ]
            refine wpAnyH_take (i := 14) (v := .agg #[.int .i64 (100 * i0 + j), .int .i64 g0, .int .i64 (-1), .bool u.x.op, .slice none 0 0]) rfl (by as_aux_lemma => kernel_rfl) (by as_aux_lemma => kernel_rfl) (by as_aux_lemma => kernel_rfl) (fun _ _ _ h => h) (Or.inl ⟨by rfl, fun w hw => by obtain ⟨x, rfl⟩ := hw; go_simp⟩) hS ?_
            try simp only [Act.put, List.setIfInBounds_toArray, List.set_cons_zero, List.set_cons_succ, List.getElem_toArray, List.getElem_cons_zero, List.getElem_cons_succ]
            refine wpAnyH_ready (rs := [15]) (by as_aux_lemma => kernel_rfl) (by simp) ?_
            refine AllReadyH.cons rfl (fun K hK => ?_) AllReadyH.nil
            go_simp
            refine hK.out _ _ ⟨⟨_, Bt2.out.alloc Bt2.out.size _⟩, rfl⟩ (fun hS => ?_)
            clear hK K hS
            try simp only [Act.put, List.setIfInBounds_toArray, List.set_cons_zero, List.set_cons_succ, List.getElem_toArray, List.getElem_cons_zero, List.getElem_cons_succ]
            obtain ⟨t3, ht⟩ : ∃ t, t = t2.alloc (.cells #[.int .i64 0, .int .i64 0, .int .i64 0, .bool false, .slice none 0 0] 52) := ⟨_, rfl⟩
            change wpAnyH _ _ _ _ _ _ _ _ (t2.alloc (.cells #[.int .i64 0, .int .i64 0, .int .i64 0, .bool false, .slice none 0 0] 52))
            rw [← ht]
            have Bt3 := Lib.hid (show Below Wd.heap.size Wd t3 by rw [ht]; exact Bt2.out.alloc Bt2.out.size _)
            have Gt3 := Lib.hid (show t3.heap[t2.heap.size]? = some (.cells #[.int .i64 0, .int .i64 0, .int .i64 0, .bool false, .slice none 0 0] 52) by rw [ht]; exact new_at1 _ _)
            have hge : Wd.heap.size ≤ t2.heap.size := Bt2.out.size
            have hS : ∃ x : Grow Wd, t3 = x.w := ⟨⟨t3, Bt3.out⟩, rfl⟩
            clear ht
            have c0 := Joins.cell_of_block Gt3.out 0
            have c1 := Joins.cell_of_block Gt3.out 1
            have c2 := Joins.cell_of_block Gt3.out 2
            have c3 := Joins.cell_of_block Gt3.out 3
            have c4 := Joins.cell_of_block Gt3.out 4
            have fr : ∀ o, t3.frozen? ⟨t2.heap.size, o, none⟩ = false := fun o => by simp [World.frozen?, Gt3.out]
            have fr0 := fr 0
            have fr1 := fr 1
            have fr2 := fr 2
            have fr3 := fr 3
            have fr4 := fr 4
            obtain ⟨hR, hbl⟩ := dx_store (.int .i64 (100 * i0 + j)) (.int .i64 g0) (.int .i64 (-1)) (.bool u.x.op) (.slice none 0 0) Gt3.out
            have BL := Lib.hid (hbl Wd.heap.size Wd hge Bt3.out)
            have ZL := Lib.hid hR
            clear hR hbl fr
            refine wpAnyH_ready (rs := [16]) (by as_aux_lemma => kernel_rfl) (by simp) ?_
            refine AllReadyH.cons rfl (fun K hK => ?_) AllReadyH.nil
            go_simp
            refine hK.out _ _ ⟨⟨_, BL.out⟩, rfl⟩ (fun hS => ?_)
            clear hK K hS
            try simp only [Act.put, List.setIfInBounds_toArray, List.set_cons_zero, List.set_cons_succ, List.getElem_toArray, List.getElem_cons_zero, List.getElem_cons_succ]
            refine wpAnyH_done (by as_aux_lemma => kernel_rfl) ?_ _
            go_wp2_with fail
            go_meet
            exact ⟨_, rfl, hge, BL.out, ZL.out⟩
           refine AllReadyH.cons rfl (fun K hK => ?_) ?_
           ·
            skip
            go_simp
            refine hK.out _ _ ⟨⟨_, Bt1.out.alloc Bt1.out.size _⟩, rfl⟩ (fun hS => ?_)
            clear hK K hS
            try simp only [Act.put, List.setIfInBounds_toArray, List.set_cons_zero, List.set_cons_succ, List.getElem_toArray, List.getElem_cons_zero, List.getElem_cons_succ]
            obtain ⟨t4, ht⟩ : ∃ t, t = t1.alloc (.cells #[.int .i64 0, .int .i64 0, .int .i64 0, .bool false, .slice none 0 0] 52) := ⟨_, rfl⟩
            change wpAnyH _ _ _ _ _ _ _ _ (t1.alloc (.cells #[.int .i64 0, .int .i64 0, .int .i64 0, .bool false, .slice none 0 0] 52))
            rw [← ht]
            have Bt4 := Lib.hid (show Below Wd.heap.size Wd t4 by rw [ht]; exact Bt1.out.alloc Bt1.out.size _)
            have Gt4 := Lib.hid (show t4.heap[t1.heap.size]? = some (.cells #[.int .i64 0, .int .i64 0, .int .i64 0, .bool false, .slice none 0 0] 52) by rw [ht]; exact new_at1 _ _)
            have hge : Wd.heap.size ≤ t1.heap.size := Bt1.out.size
            have hS : ∃ x : Grow Wd, t4 = x.w := ⟨⟨t4, Bt4.out⟩, rfl⟩
            clear ht
            refine wpAnyH_ready (rs := [11]) (by as_aux_lemma => kernel_rfl) (by simp) ?_
            refine AllReadyH.cons rfl (fun K hK => ?_) AllReadyH.nil
            go_simp
            with_reducible refine (HM2.out _).mono ?_
            rintro e t5 ⟨rfl, hb⟩
            have Bt5 := Lib.hid (bstep Bt4.out Bt4.out.size hb)
            have Gt5 := Lib.hid ((hb.block _ (Array.getElem?_eq_some_iff.1 Gt4.out).1).trans Gt4.out)
            clear hb
            refine hK.out _ _ ⟨⟨_, Bt5.out⟩, rfl⟩ (fun hS => ?_)
            clear hK K
            try simp only [Act.put, List.setIfInBounds_toArray, List.set_cons_zero, List.set_cons_succ, List.getElem_toArray, List.getElem_cons_zero, List.getElem_cons_succ]
            refine wpAnyH_take (i := 14) (v := .agg #[.int .i64 (100 * i0 + j), .int .i64 g0, .int .i64 (-1), .bool u.x.op, .slice none 0 0]) rfl (by as_aux_lemma => kernel_rfl) (by as_aux_lemma => kernel_rfl) (by as_aux_lemma => kernel_rfl) (fun _ _ _ h => h) (Or.inl ⟨by rfl, fun w hw => by obtain ⟨x, rfl⟩ := hw; go_simp⟩) hS ?_
            try simp only [Act.put, List.setIfInBounds_toArray, List.set_cons_zero, List.set_cons_succ, List.getElem_toArray, List.getElem_cons_zero, List.getElem_cons_succ]
            have c0 := Joins.cell_of_block Gt5.out 0
            have c1 := Joins.cell_of_block Gt5.out 1
            have c2 := Joins.cell_of_block Gt5.out 2
            have c3 := Joins.cell_of_block Gt5.out 3
            have c4 := Joins.cell_of_block Gt5.out 4
            have fr : ∀ o, t5.frozen? ⟨t1.heap.size, o, none⟩ = false := fun o => by simp [World.frozen?, Gt5.out]
            have fr0 := fr 0
            have fr1 := fr 1
            have fr2 := fr 2
            have fr3 := fr 3
            have fr4 := fr 4
            obtain ⟨hR, hbl⟩ := dx_store (.int .i64 (100 * i0 + j)) (.int .i64 g0) (.int .i64 (-1)) (.bool u.x.op) (.slice none 0 0) Gt5.out
            have BL := Lib.hid (hbl Wd.heap.size Wd hge Bt5.out)
            have ZL := Lib.hid hR
            clear hR hbl fr
            refine wpAnyH_ready (rs := [16]) (by as_aux_lemma => kernel_rfl) (by simp) ?_
            refine AllReadyH.cons rfl (fun K hK => ?_) AllReadyH.nil
            go_simp
            refine hK.out _ _ ⟨⟨_, BL.out⟩, rfl⟩ (fun hS => ?_)
            clear hK K hS
            try simp only [Act.put, List.setIfInBounds_toArray, List.set_cons_zero, List.set_cons_succ, List.getElem_toArray, List.getElem_cons_zero, List.getElem_cons_succ]
            refine wpAnyH_done (by as_aux_lemma => kernel_rfl) ?_ _
            go_wp2_with fail
            go_meet
            exact ⟨_, rfl, hge, BL.out, ZL.out⟩
           exact AllReadyH.nil
          refine AllReadyH.cons rfl (fun K hK => ?_) ?_
          ·
           skip
           go_simp
           refine hK.out _ _ ⟨⟨_, BY.out.alloc BY.out.size _⟩, rfl⟩ (fun hS => ?_)
           clear hK K hS
           try simp only [Act.put, List.setIfInBounds_toArray, List.set_cons_zero, List.set_cons_succ, List.getElem_toArray, List.getElem_cons_zero, List.getElem_cons_succ]
           obtain ⟨t6, ht⟩ : ∃ t, t = Y.alloc (.cells #[.int .i64 0, .int .i64 0, .int .i64 0, .bool false, .slice none 0 0] 52) := ⟨_, rfl⟩
           change wpAnyH _ _ _ _ _ _ _ _ (Y.alloc (.cells #[.int .i64 0, .int .i64 0, .int .i64 0, .bool false, .slice none 0 0] 52))
           rw [← ht]
           have Bt6 := Lib.hid (show Below Wd.heap.size Wd t6 by rw [ht]; exact BY.out.alloc BY.out.size _)
           have Gt6 := Lib.hid (show t6.heap[Y.heap.size]? = some (.cells #[.int .i64 0, .int .i64 0, .int .i64 0, .bool false, .slice none 0 0] 52) by rw [ht]; exact new_at1 _ _)
           have hge : Wd.heap.size ≤ Y.heap.size := BY.out.size
           have hS : ∃ x : Grow Wd, t6 = x.w := ⟨⟨t6, Bt6.out⟩, rfl⟩
           clear ht
           refine wpAnyH_ready (rs := [2]) (by as_aux_lemma => kernel_rfl) (by simp) ?_
           refine AllReadyH.cons rfl (fun K hK => ?_) AllReadyH.nil
           go_simp
           with_reducible refine (HM1.out _).mono ?_
           rintro e t7 ⟨rfl, hb⟩
           have Bt7 := Lib.hid (bstep Bt6.out Bt6.out.size hb)
           have Gt7 := Lib.hid ((hb.block _ (Array.getElem?_eq_some_iff.1 Gt6.out).1).trans Gt6.out)
           clear hb
           refine hK.out _ _ ⟨⟨_, Bt7.out⟩, rfl⟩ (fun hS => ?_)
           clear hK K
           try simp only [Act.put, List.setIfInBounds_toArray, List.set_cons_zero, List.set_cons_succ, List.getElem_toArray, List.getElem_cons_zero, List.getElem_cons_succ]
           refine wpAnyH_take (i := 3) (v := .int .i64 (100 * i0)) rfl (by as_aux_lemma => kernel_rfl) (by as_aux_lemma => kernel_rfl) (by as_aux_lemma => kernel_rfl) (fun _ _ _ h => h) (Or.inl ⟨by rfl, fun w hw => by obtain ⟨x, rfl⟩ := hw; go_simp⟩) hS ?_
           try simp only [Act.put, List.setIfInBounds_toArray, List.set_cons_zero, List.set_cons_succ, List.getElem_toArray, List.getElem_cons_zero, List.getElem_cons_succ]
           refine wpAnyH_take (i := 5) (v := .int .i64 (100 * i0 + j)) rfl (by as_aux_lemma => kernel_rfl) (by as_aux_lemma => kernel_rfl) (by as_aux_lemma => kernel_rfl) (fun _ _ _ h => h) (Or.inl ⟨by rfl, fun w hw => by obtain ⟨x, rfl⟩ := hw; go_simp⟩) hS ?_
           try simp only [Act.put, List.setIfInBounds_toArray, List.set_cons_zero, List.set_cons_succ, List.getElem_toArray, List.getElem_cons_zero, List.getElem_cons_succ]
           refine wpAnyH_ready (rs := [11]) (by as_aux_lemma => kernel_rfl) (by simp) ?_
           refine AllReadyH.cons rfl (fun K hK => ?_) AllReadyH.nil
           go_simp
           with_reducible refine (HM2.out _).mono ?_
           rintro e t8 ⟨rfl, hb⟩
           have Bt8 := Lib.hid (bstep Bt7.out Bt7.out.size hb)
           have Gt8 := Lib.hid ((hb.block _ (Array.getElem?_eq_some_iff.1 Gt7.out).1).trans Gt7.out)
           clear hb
           refine hK.out _ _ ⟨⟨_, Bt8.out⟩, rfl⟩ (fun hS => ?_)
           clear hK K
           try simp only [Act.put, List.setIfInBounds_toArray, List.set_cons_zero, List.set_cons_succ, List.getElem_toArray, List.getElem_cons_zero, List.getElem_cons_succ]
           refine wpAnyH_take (i := 14) (v := .agg #[.int .i64 (100 * i0 + j), .int .i64 g0, .int .i64 (-1), .bool u.x.op, .slice none 0 0]) rfl (by as_aux_lemma => kernel_rfl) (by as_aux_lemma => kernel_rfl) (by as_aux_lemma => kernel_rfl) (fun _ _ _ h => h) (Or.inl ⟨by rfl, fun w hw => by obtain ⟨x, rfl⟩ := hw; go_simp⟩) hS ?_
           try simp only [Act.put, List.setIfInBounds_toArray, List.set_cons_zero, List.set_cons_succ, List.getElem_toArray, List.getElem_cons_zero, List.getElem_cons_succ]
           have c0 := Joins.cell_of_block Gt8.out 0
           have c1 := Joins.cell_of_block Gt8.out 1
           have c2 := Joins.cell_of_block Gt8.out 2
           have c3 := Joins.cell_of_block Gt8.out 3
           have c4 := Joins.cell_of_block Gt8.out 4
           have fr : ∀ o, t8.frozen? ⟨Y.heap.size, o, none⟩ = false := fun o => by simp [World.frozen?, Gt8.out]
           have fr0 := fr 0
           have fr1 := fr 1
           have fr2 := fr 2
           have fr3 := fr 3
           have fr4 := fr 4
           obtain ⟨hR, hbl⟩ := dx_store (.int .i64 (100 * i0 + j)) (.int .i64 g0) (.int .i64 (-1)) (.bool u.x.op) (.slice none 0 0) Gt8.out
           have BL := Lib.hid (hbl Wd.heap.size Wd hge Bt8.out)
           have ZL := Lib.hid hR
           clear hR hbl fr
           refine wpAnyH_ready (rs := [16]) (by as_aux_lemma => kernel_rfl) (by simp) ?_
           refine AllReadyH.cons rfl (fun K hK => ?_) AllReadyH.nil
           go_simp
           refine hK.out _ _ ⟨⟨_, BL.out⟩, rfl⟩ (fun hS => ?_)
           clear hK K hS
           try simp only [Act.put, List.setIfInBounds_toArray, List.set_cons_zero, List.set_cons_succ, List.getElem_toArray, List.getElem_cons_zero, List.getElem_cons_succ]
           refine wpAnyH_done (by as_aux_lemma => kernel_rfl) ?_ _
           go_wp2_with fail
           go_meet
           exact ⟨_, rfl, hge, BL.out, ZL.out⟩
          exact AllReadyH.nil
         case rest =>
         rename World => Vx
         obtain ⟨gx, rfl, hgx, BV, ZV⟩ := hcut
         have BVx := Lib.hid BV
         have GX := Lib.hid ZV
         have FX := Lib.hid (FD.out.keep BV (by omega) hgo)
         have GDx := Lib.hid ((BV.block _ (by omega)).trans GD.out)
         clear BV ZV FD GD HM1 HM2 wm0 wm1
         obtain ⟨x0, hx0⟩ : ∃ i, (if 0 < nt then u.x.tex % (nt : Int) else -1) = i := ⟨_, rfl⟩
         have HX0 := Lib.hid hx0
         replace qnp := Lib.hid qnp
         replace q100 := Lib.hid q100
         clear hx0 d0 d1 d2 d3 d4 s0 s1 s2 s3 s4 s5 s6 s7 s8 s9 q0 q1 q2 q3 q4 q5 q6 q7 q8 q9
         obtain ⟨o0, o1, o2, o3, o4, o5, o6, o7, o8, o9⟩ := ouB_cell FX.out.o
         have a2 := Joins.cell_of_block GDx.out 2
         have c2 := Joins.cell_of_block GX.out 2
         have fr : Vx.frozen? ⟨gx, 2, none⟩ = false := by simp [World.frozen?, GX.out]
         go_upto_if 155 with fail
         go_cut [] from 152 to 162 (fun Xc => FtF w (ouB s.w s.h s.k (.slice vA n1 s.vc) (.slice tA n2 s.tc) (.slice pA n3 s.pc) (.slice (some ⟨b, off, none⟩) n4 s.dc)) go Xc (ouB oW oH ok (.slice vA' nv vc') (.slice tA' nt tc') (.slice pA' np pc') v) ∧ Xc.heap[gx]? = some (.cells #[.int .i64 (100 * i0 + j), .int .i64 g0, .int .i64 (x0), .bool u.x.op, .slice none 0 0] 52 (0, 0)) ∧ Below Wd.heap.size Wd Xc ∧ Xc.heap[wc.heap.size]? = some ((.cells #[.int .i64 u.x.id, .int .i64 u.x.prog, .int .i64 u.x.tex, .bool u.x.op, .slice u.A p u.c] 52) : Obj))
         case first =>
          by_cases hnt0 : 0 < nt
          ·
           have qnt := emod_in u.x.tex (m := nt) hnt0
           have hx1 : u.x.tex % (nt : Int) = x0 := by rw [← HX0.out, if_pos hnt0]
           rw [hx1] at qnt
           have HM3 := Lib.hid (show ∀ w, Calls Try.prog 22 #[.int .i64 u.x.tex, .int .i64 nt] w (fun e w' => e = .returned (.int .i64 x0) ∧ w = w') from fun w => by rw [← hx1]; exact rmod_any u.x.tex nt hcc.out.1.tex (by omega) (by have := hntm.out; omega) w)
           replace qnt := Lib.hid qnt
           clear hx1
           have hgt : decide ((nt : Int) > 0) = true := by simp; omega
           have hgt2 : decide (0 < nt) = true := by simp; omega
           go_wp2_with fail
           with_reducible refine (HM3.out _).mono ?_
           rintro e w' ⟨rfl, rfl⟩
           go_wp2_with fail
           go_meet
           exact ⟨FX.out.other (g := gx) (o := 2) (u := .int .i64 x0) (by omega) hgo, Eq.trans (heap_setCell_same _ _ 2 _ _ (.int .i64 x0) GX.out) (by simp), BVx.out.setCell (p := ⟨gx, 2, none⟩) hgx (.int .i64 x0), (heap_setCell_other Vx ⟨gx, 2, none⟩ wc.heap.size (.int .i64 x0) (show wc.heap.size ≠ gx by omega)).trans GDx.out⟩
          ·
           have hgt : decide ((nt : Int) > 0) = false := by simp; omega
           have hgt2 : decide (0 < nt) = false := by simp; omega
           have hx1 : -1 = x0 := by rw [← HX0.out, if_neg hnt0]
           go_wp2_with fail
           go_meet
           exact ⟨FX.out, by rw [← hx1]; exact GX.out, BVx.out, GDx.out⟩
         case rest =>
         rename World => V2
         obtain ⟨FX2', GX2', BX2', GD2'⟩ := hcut
         have FX2 := Lib.hid FX2'
         have GX2 := Lib.hid GX2'
         have BX2 := Lib.hid BX2'
         have GD2 := Lib.hid GD2'
         clear FX2' GX2' BX2' GD2' o0 o1 o2 o3 o4 o5 o6 o7 o8 o9 a2 c2 fr FX GX BVx GDx
         go_wp2_with fail
         have BW2 : Below wc.heap.size wc V2 := BD.out.trans (BX2.out.mono (by omega))
         have hgxV : gx < V2.heap.size := (Array.getElem?_eq_some_iff.1 GX2.out).1
         obtain ⟨mk, hmk⟩ : ∃ m, min p tris = m := ⟨_, rfl⟩
         go_loopw [18] (fun i wr => ∃ (k : Nat) (v2 : Value) (ts : List Tr), k ≤ mk ∧ i = .int .i64 k ∧ ts = (u.x.tris.take k).mapIdx (fitTri nv) ∧ OwnE ER wr V2.heap.size v2 ts ∧ V2.heap.size ≤ wr.heap.size ∧ FtF w (ouB s.w s.h s.k (.slice vA n1 s.vc) (.slice tA n2 s.tc) (.slice pA n3 s.pc) (.slice (some ⟨b, off, none⟩) n4 s.dc)) go wr (ouB oW oH ok (.slice vA' nv vc') (.slice tA' nt tc') (.slice pA' np pc') v) ∧ wr.heap[gx]? = some (.cells #[.int .i64 (100 * i0 + j), .int .i64 g0, .int .i64 (x0), .bool u.x.op, v2] 52 (0, 0)) ∧ wr.heap[wc.heap.size]? = some ((.cells #[.int .i64 u.x.id, .int .i64 u.x.prog, .int .i64 u.x.tex, .bool u.x.op, .slice u.A p u.c] 52) : Obj) ∧ Below wc.heap.size wc wr) (fun i _ => mk - (intOf i).toNat)
         case atStart => exact ⟨0, _, [], Nat.zero_le _, rfl, rfl, OwnE.nil _ _, Nat.le_refl _, FX2.out, GX2.out, GD2.out, BW2⟩
         case round =>
          rename World => wi
          obtain ⟨k, v2, ts, hk, rfl, hts, hot, hst, hFt, hGx, hGd, hBw⟩ := hrel
          have HTS := Lib.hid hts
          have HOT := Lib.hid hot
          have HFt := Lib.hid hFt
          have HGx := Lib.hid hGx
          have HGd := Lib.hid hGd
          have HBw := Lib.hid hBw
          obtain ⟨q0, q1, q2, q3, q4, q5, q6, q7, q8, q9⟩ := ouB_cell hFt.o
          have e0 := Joins.cell_of_block hGd 0
          have e1 := Joins.cell_of_block hGd 1
          have e2 := Joins.cell_of_block hGd 2
          have e3 := Joins.cell_of_block hGd 3
          have e4 := Joins.cell_of_block hGd 4
          clear hts hot hFt hGx hGd hBw
          go_upto_region 24 with fail
          go_cut [172] from 163 to 171 (fun c Xc => c = .bool (decide ((k : Int) < mk)) ∧ Xc = wi)
          case first =>
           by_cases e1' : k < p
           ·
            by_cases e2' : k < tris
            ·
             have e3' : decide ((k : Int) < tris) = true := by simp; omega
             have d1 : decide ((k : Int) < mk) = true := by simp; omega
             have D1 := Lib.hid d1
             clear d1
             go_wp2_with fail
             go_meet
             exact ⟨by rw [D1.out], rfl⟩
            ·
             have e3' : decide ((k : Int) < tris) = false := by simp; omega
             have d1 : decide ((k : Int) < mk) = false := by simp; omega
             have D1 := Lib.hid d1
             clear d1
             go_wp2_with fail
             go_meet
             exact ⟨by rw [D1.out], rfl⟩
           ·
            have d1 : decide ((k : Int) < mk) = false := by simp; omega
            have D1 := Lib.hid d1
            clear d1
            go_wp2_with fail
            go_meet
            exact ⟨by rw [D1.out], rfl⟩
          case rest =>
          rename World => wj
          obtain ⟨rfl, rfl⟩ := hcut
          by_cases hlt2 : k < mk
          ·
           have d1 : decide ((k : Int) < mk) = true := by simp; omega
           rw [d1]
           clear d1
           obtain ⟨t, ht⟩ := get_lt (l := u.x.tris) (k := k) (by rw [hp.out]; omega)
           obtain ⟨b2, off2, hA2, hb2, hat2⟩ := HEt.out.at ht
           rw [hA2] at e4
           obtain ⟨r0, r1, r2, r3⟩ := atR (show AtE ER wj b2 (off2 + k * 4) t from hat2.below HFt.out.b hb2)
           have hto := hcc.out.1.tris t (List.mem_of_getElem? ht)
           have hnvb : 0 < nv ∧ nv ≤ 100000 := by have := hnv1.out; omega
           have y100 := emod_in t.i (m := 100) (by decide)
           obtain ⟨i1, hi1⟩ : ∃ i, t.i % 100 = i := ⟨_, rfl⟩
           rw [show t.i % ((100 : Nat) : Int) = i1 from hi1] at y100
           obtain ⟨a1, ha1⟩ : ∃ i, t.a % (nv : Int) = i := ⟨_, rfl⟩
           obtain ⟨b1, hb1⟩ : ∃ i, t.b % (nv : Int) = i := ⟨_, rfl⟩
           obtain ⟨c1, hc1⟩ : ∃ i, t.c % (nv : Int) = i := ⟨_, rfl⟩
           have HT0 := Lib.hid (show ∀ w, Calls Try.prog 22 #[.int .i64 t.i, .int .i64 100] w (fun e w' => e = .returned (.int .i64 i1) ∧ w = w') from fun w => by rw [← hi1]; exact rmod_any t.i 100 hto.i (by omega) (by omega) w)
           have HT1 := Lib.hid (show ∀ w, Calls Try.prog 22 #[.int .i64 t.a, .int .i64 nv] w (fun e w' => e = .returned (.int .i64 a1) ∧ Below w.heap.size w w') from fun w => by rw [← ha1]; exact rmod_bel t.a nv hto.a hnvb.1 hnvb.2 w)
           have HT2 := Lib.hid (show ∀ w, Calls Try.prog 22 #[.int .i64 t.b, .int .i64 nv] w (fun e w' => e = .returned (.int .i64 b1) ∧ Below w.heap.size w w') from fun w => by rw [← hb1]; exact rmod_bel t.b nv hto.b hnvb.1 hnvb.2 w)
           have HT3 := Lib.hid (show ∀ w, Calls Try.prog 22 #[.int .i64 t.c, .int .i64 nv] w (fun e w' => e = .returned (.int .i64 c1) ∧ Below w.heap.size w w') from fun w => by rw [← hc1]; exact rmod_bel t.c nv hto.c hnvb.1 hnvb.2 w)
           have hk32 : k < 32 := by omega
           have HU2 := Lib.hid (show (u.x.tris.take (k + 1)).mapIdx (fitTri nv) = (u.x.tris.take k).mapIdx (fitTri nv) ++ [⟨100 * i1 + k, a1, b1, c1⟩] by
            have hkl := (List.getElem?_eq_some_iff.1 ht).1
            rw [take_snoc ht, List.mapIdx_concat, List.length_take, Nat.min_eq_left (by omega)]
            unfold fitTri
            rw [hi1, ha1, hb1, hc1])
           have wm0 : IntKind.i64.wrap (100 * i1) = 100 * i1 := by rw [IntKind.wrap_i64]; omega
           have wm1 : IntKind.i64.wrap (100 * i1 + (k : Int)) = 100 * i1 + k := by rw [IntKind.wrap_i64]; omega
           have htl : ts.length ≤ 40 := by
            rw [HTS.out, List.length_mapIdx, List.length_take]
            omega
           have hwV : wc.heap.size < V2.heap.size := by omega
           replace ht := Lib.hid ht
           replace hA2 := Lib.hid hA2
           clear hi1 ha1 hb1 hc1 hat2 hto hnvb y100
           go_wp2_with fail
           have FT1 := Lib.hid (HFt.out.keep (new_below wj (.cells #[.int .i64 t.i, .int .i64 t.a, .int .i64 t.b, .int .i64 t.c] 74)) HFt.out.z hgo)
           have GT := Lib.hid (heap_alloc_new wj (.cells #[.int .i64 t.i, .int .i64 t.a, .int .i64 t.b, .int .i64 t.c] 74))
           have BT := Lib.hid (new_below wj (.cells #[.int .i64 t.i, .int .i64 t.a, .int .i64 t.b, .int .i64 t.c] 74))
           have ZT : (wj.alloc (.cells #[.int .i64 t.i, .int .i64 t.a, .int .i64 t.b, .int .i64 t.c] 74)).heap.size = wj.heap.size + 1 := by simp
           have OT1 := Lib.hid (HOT.out.alloc (.cells #[.int .i64 t.i, .int .i64 t.a, .int .i64 t.b, .int .i64 t.c] 74))
           have GX1 := Lib.hid (((new_below wj (.cells #[.int .i64 t.i, .int .i64 t.a, .int .i64 t.b, .int .i64 t.c] 74)).block gx (by omega)).trans HGx.out)
           have GD1 := Lib.hid (((new_below wj (.cells #[.int .i64 t.i, .int .i64 t.a, .int .i64 t.b, .int .i64 t.c] 74)).block wc.heap.size (by omega)).trans HGd.out)
           generalize wj.alloc (.cells #[.int .i64 t.i, .int .i64 t.a, .int .i64 t.b, .int .i64 t.c] 74) = Wt at *
           clear q0 q1 q2 q3 q4 q5 q6 q7 q8 q9 e0 e1 e2 e3 e4 r0 r1 r2 r3
           go_cut [20] from 180 to 201 (fun pp Xc => ∃ h, pp = .pointer (some ⟨h, 0, none⟩) ∧ Wt.heap.size ≤ h ∧ Below Wt.heap.size Wt Xc ∧ Xc.heap[h]? = some (.cells #[.int .i64 a1, .int .i64 b1, .int .i64 c1] 72 (0, 0)))
           case first =>
            obtain ⟨o0, o1, o2, o3, o4, o5, o6, o7, o8, o9⟩ := ouB_cell FT1.out.o
            have y0 : ∀ x : Grow Wt, x.w.cell? ⟨wj.heap.size, 1, none⟩ = some (.int .i64 t.a) := fun x => x.cell (Joins.cell_of_block GT.out 1)
            have y1 : ∀ x : Grow Wt, x.w.cell? ⟨wj.heap.size, 2, none⟩ = some (.int .i64 t.b) := fun x => x.cell (Joins.cell_of_block GT.out 2)
            have y2 : ∀ x : Grow Wt, x.w.cell? ⟨wj.heap.size, 3, none⟩ = some (.int .i64 t.c) := fun x => x.cell (Joins.cell_of_block GT.out 3)
            have y3 : ∀ x : Grow Wt, x.w.cell? ⟨go, 6, none⟩ = some (.slice vA' nv vc') := fun x => x.cell o6
            refine wp_region_held_drew (S := fun w' => ∃ x : Grow Wt, w' = x.w) (by as_aux_lemma => kernel_rfl) ⟨⟨_, (Below.refl _ _).drew⟩, rfl⟩ (fun hS => ?_)
            have BY := Lib.hid (show Below Wt.heap.size Wt Wt.drew from (Below.refl _ _).drew)
            generalize Wt.drew = Y at *
            clear o0 o1 o2 o3 o4 o5 o6 o7 o8 o9
            refine wpAnyH_take (i := 0) (v := .pointer (some ⟨wj.heap.size, 1, none⟩)) rfl (by as_aux_lemma => kernel_rfl) (by as_aux_lemma => kernel_rfl) (by as_aux_lemma => kernel_rfl) (fun _ _ _ h => h) (Or.inl ⟨by rfl, fun w hw => by obtain ⟨x, rfl⟩ := hw; go_simp⟩) hS ?_
            try simp only [Act.put, List.setIfInBounds_toArray, List.set_cons_zero, List.set_cons_succ, List.getElem_toArray, List.getElem_cons_zero]
            refine wpAnyH_take (i := 1) (v := .pointer (some ⟨wj.heap.size, 1, none⟩)) rfl (by as_aux_lemma => kernel_rfl) (by as_aux_lemma => kernel_rfl) (by as_aux_lemma => kernel_rfl) (fun _ _ _ h => h) (Or.inl ⟨by rfl, fun w hw => by obtain ⟨x, rfl⟩ := hw; go_simp⟩) hS ?_
            try simp only [Act.put, List.setIfInBounds_toArray, List.set_cons_zero, List.set_cons_succ, List.getElem_toArray, List.getElem_cons_zero, List.getElem_cons_succ]
            refine wpAnyH_take (i := 2) (v := .int .i64 t.a) rfl (by as_aux_lemma => kernel_rfl) (by as_aux_lemma => kernel_rfl) (by as_aux_lemma => kernel_rfl) (fun _ _ _ h => h) (Or.inl ⟨by rfl, fun w hw => by obtain ⟨x, rfl⟩ := hw; go_simp⟩) hS ?_
            try simp only [Act.put, List.setIfInBounds_toArray, List.set_cons_zero, List.set_cons_succ, List.getElem_toArray, List.getElem_cons_zero, List.getElem_cons_succ]
            refine wpAnyH_take (i := 3) (v := .pointer (some ⟨go, 6, none⟩)) rfl (by as_aux_lemma => kernel_rfl) (by as_aux_lemma => kernel_rfl) (by as_aux_lemma => kernel_rfl) (fun _ _ _ h => h) (Or.inl ⟨by rfl, fun w hw => by obtain ⟨x, rfl⟩ := hw; go_simp⟩) hS ?_
            try simp only [Act.put, List.setIfInBounds_toArray, List.set_cons_zero, List.set_cons_succ, List.getElem_toArray, List.getElem_cons_zero, List.getElem_cons_succ]
            refine wpAnyH_take (i := 4) (v := .slice vA' nv vc') rfl (by as_aux_lemma => kernel_rfl) (by as_aux_lemma => kernel_rfl) (by as_aux_lemma => kernel_rfl) (fun _ _ _ h => h) (Or.inl ⟨by rfl, fun w hw => by obtain ⟨x, rfl⟩ := hw; go_simp⟩) hS ?_
            try simp only [Act.put, List.setIfInBounds_toArray, List.set_cons_zero, List.set_cons_succ, List.getElem_toArray, List.getElem_cons_zero, List.getElem_cons_succ]
            refine wpAnyH_take (i := 5) (v := .int .i64 nv) rfl (by as_aux_lemma => kernel_rfl) (by as_aux_lemma => kernel_rfl) (by as_aux_lemma => kernel_rfl) (fun _ _ _ h => h) (Or.inl ⟨by rfl, fun w hw => by obtain ⟨x, rfl⟩ := hw; go_simp⟩) hS ?_
            try simp only [Act.put, List.setIfInBounds_toArray, List.set_cons_zero, List.set_cons_succ, List.getElem_toArray, List.getElem_cons_zero, List.getElem_cons_succ]
            refine wpAnyH_take (i := 7) (v := .pointer (some ⟨wj.heap.size, 1, none⟩)) rfl (by as_aux_lemma => kernel_rfl) (by as_aux_lemma => kernel_rfl) (by as_aux_lemma => kernel_rfl) (fun _ _ _ h => h) (Or.inl ⟨by rfl, fun w hw => by obtain ⟨x, rfl⟩ := hw; go_simp⟩) hS ?_
            try simp only [Act.put, List.setIfInBounds_toArray, List.set_cons_zero, List.set_cons_succ, List.getElem_toArray, List.getElem_cons_zero, List.getElem_cons_succ]
            refine wpAnyH_take (i := 8) (v := .pointer (some ⟨wj.heap.size, 2, none⟩)) rfl (by as_aux_lemma => kernel_rfl) (by as_aux_lemma => kernel_rfl) (by as_aux_lemma => kernel_rfl) (fun _ _ _ h => h) (Or.inl ⟨by rfl, fun w hw => by obtain ⟨x, rfl⟩ := hw; go_simp⟩) hS ?_
            try simp only [Act.put, List.setIfInBounds_toArray, List.set_cons_zero, List.set_cons_succ, List.getElem_toArray, List.getElem_cons_zero, List.getElem_cons_succ]
            refine wpAnyH_take (i := 9) (v := .int .i64 t.b) rfl (by as_aux_lemma => kernel_rfl) (by as_aux_lemma => kernel_rfl) (by as_aux_lemma => kernel_rfl) (fun _ _ _ h => h) (Or.inl ⟨by rfl, fun w hw => by obtain ⟨x, rfl⟩ := hw; go_simp⟩) hS ?_
            try simp only [Act.put, List.setIfInBounds_toArray, List.set_cons_zero, List.set_cons_succ, List.getElem_toArray, List.getElem_cons_zero, List.getElem_cons_succ]
            refine wpAnyH_take (i := 10) (v := .pointer (some ⟨go, 6, none⟩)) rfl (by as_aux_lemma => kernel_rfl) (by as_aux_lemma => kernel_rfl) (by as_aux_lemma => kernel_rfl) (fun _ _ _ h => h) (Or.inl ⟨by rfl, fun w hw => by obtain ⟨x, rfl⟩ := hw; go_simp⟩) hS ?_
            try simp only [Act.put, List.setIfInBounds_toArray, List.set_cons_zero, List.set_cons_succ, List.getElem_toArray, List.getElem_cons_zero, List.getElem_cons_succ]
            refine wpAnyH_take (i := 11) (v := .slice vA' nv vc') rfl (by as_aux_lemma => kernel_rfl) (by as_aux_lemma => kernel_rfl) (by as_aux_lemma => kernel_rfl) (fun _ _ _ h => h) (Or.inl ⟨by rfl, fun w hw => by obtain ⟨x, rfl⟩ := hw; go_simp⟩) hS ?_
            try simp only [Act.put, List.setIfInBounds_toArray, List.set_cons_zero, List.set_cons_succ, List.getElem_toArray, List.getElem_cons_zero, List.getElem_cons_succ]
            refine wpAnyH_take (i := 12) (v := .int .i64 nv) rfl (by as_aux_lemma => kernel_rfl) (by as_aux_lemma => kernel_rfl) (by as_aux_lemma => kernel_rfl) (fun _ _ _ h => h) (Or.inl ⟨by rfl, fun w hw => by obtain ⟨x, rfl⟩ := hw; go_simp⟩) hS ?_
            try simp only [Act.put, List.setIfInBounds_toArray, List.set_cons_zero, List.set_cons_succ, List.getElem_toArray, List.getElem_cons_zero, List.getElem_cons_succ]
            refine wpAnyH_take (i := 14) (v := .pointer (some ⟨wj.heap.size, 1, none⟩)) rfl (by as_aux_lemma => kernel_rfl) (by as_aux_lemma => kernel_rfl) (by as_aux_lemma => kernel_rfl) (fun _ _ _ h => h) (Or.inl ⟨by rfl, fun w hw => by obtain ⟨x, rfl⟩ := hw; go_simp⟩) hS ?_
            try simp only [Act.put, List.setIfInBounds_toArray, List.set_cons_zero, List.set_cons_succ, List.getElem_toArray, List.getElem_cons_zero, List.getElem_cons_succ]
            refine wpAnyH_take (i := 15) (v := .pointer (some ⟨wj.heap.size, 3, none⟩)) rfl (by as_aux_lemma => kernel_rfl) (by as_aux_lemma => kernel_rfl) (by as_aux_lemma => kernel_rfl) (fun _ _ _ h => h) (Or.inl ⟨by rfl, fun w hw => by obtain ⟨x, rfl⟩ := hw; go_simp⟩) hS ?_
            try simp only [Act.put, List.setIfInBounds_toArray, List.set_cons_zero, List.set_cons_succ, List.getElem_toArray, List.getElem_cons_zero, List.getElem_cons_succ]
            refine wpAnyH_take (i := 16) (v := .int .i64 t.c) rfl (by as_aux_lemma => kernel_rfl) (by as_aux_lemma => kernel_rfl) (by as_aux_lemma => kernel_rfl) (fun _ _ _ h => h) (Or.inl ⟨by rfl, fun w hw => by obtain ⟨x, rfl⟩ := hw; go_simp⟩) hS ?_
            try simp only [Act.put, List.setIfInBounds_toArray, List.set_cons_zero, List.set_cons_succ, List.getElem_toArray, List.getElem_cons_zero, List.getElem_cons_succ]
            refine wpAnyH_take (i := 17) (v := .pointer (some ⟨go, 6, none⟩)) rfl (by as_aux_lemma => kernel_rfl) (by as_aux_lemma => kernel_rfl) (by as_aux_lemma => kernel_rfl) (fun _ _ _ h => h) (Or.inl ⟨by rfl, fun w hw => by obtain ⟨x, rfl⟩ := hw; go_simp⟩) hS ?_
            try simp only [Act.put, List.setIfInBounds_toArray, List.set_cons_zero, List.set_cons_succ, List.getElem_toArray, List.getElem_cons_zero, List.getElem_cons_succ]
            refine wpAnyH_take (i := 18) (v := .slice vA' nv vc') rfl (by as_aux_lemma => kernel_rfl) (by as_aux_lemma => kernel_rfl) (by as_aux_lemma => kernel_rfl) (fun _ _ _ h => h) (Or.inl ⟨by rfl, fun w hw => by obtain ⟨x, rfl⟩ := hw; go_simp⟩) hS ?_
            try simp only [Act.put, List.setIfInBounds_toArray, List.set_cons_zero, List.set_cons_succ, List.getElem_toArray, List.getElem_cons_zero, List.getElem_cons_succ]
            refine wpAnyH_take (i := 19) (v := .int .i64 nv) rfl (by as_aux_lemma => kernel_rfl) (by as_aux_lemma => kernel_rfl) (by as_aux_lemma => kernel_rfl) (fun _ _ _ h => h) (Or.inl ⟨by rfl, fun w hw => by obtain ⟨x, rfl⟩ := hw; go_simp⟩) hS ?_
            try simp only [Act.put, List.setIfInBounds_toArray, List.set_cons_zero, List.set_cons_succ, List.getElem_toArray, List.getElem_cons_zero, List.getElem_cons_succ]
            refine wpAnyH_ready (rs := [6, 22]) (by as_aux_lemma => kernel_rfl) (by simp) ?_
            refine AllReadyH.cons rfl (fun K hK => ?_) ?_
            ·
             skip
             go_simp
             with_reducible refine (HT1.out _).mono ?_
             rintro e t1 ⟨rfl, hb⟩
             have Bt1 := Lib.hid (bstep BY.out BY.out.size hb)
             clear hb
             refine hK.out _ _ ⟨⟨_, Bt1.out⟩, rfl⟩ (fun hS => ?_)
             clear hK K
             try simp only [Act.put, List.setIfInBounds_toArray, List.set_cons_zero, List.set_cons_succ, List.getElem_toArray, List.getElem_cons_zero, List.getElem_cons_succ]
             refine wpAnyH_ready (rs := [13, 22]) (by as_aux_lemma => kernel_rfl) (by simp) ?_
             refine AllReadyH.cons rfl (fun K hK => ?_) ?_
             ·
              skip
              go_simp
              with_reducible refine (HT2.out _).mono ?_
              rintro e t2 ⟨rfl, hb⟩
              have Bt2 := Lib.hid (bstep Bt1.out Bt1.out.size hb)
              clear hb
              refine hK.out _ _ ⟨⟨_, Bt2.out⟩, rfl⟩ (fun hS => ?_)
              clear hK K
              try simp only [Act.put, List.setIfInBounds_toArray, List.set_cons_zero, List.set_cons_succ, List.getElem_toArray, List.getElem_cons_zero, List.getElem_cons_succ]
              refine wpAnyH_ready (rs := [20, 22]) (by as_aux_lemma => kernel_rfl) (by simp) ?_
              refine AllReadyH.cons rfl (fun K hK => ?_) ?_
              ·
               skip
               go_simp
               with_reducible refine (HT3.out _).mono ?_
               rintro e t3 ⟨rfl, hb⟩
               have Bt3 := Lib.hid (bstep Bt2.out Bt2.out.size hb)
               clear hb
               refine hK.out _ _ ⟨⟨_, Bt3.out⟩, rfl⟩ (fun hS => ?_)
               clear hK K
               try simp only [Act.put, List.setIfInBounds_toArray, List.set_cons_zero, List.set_cons_succ, List.getElem_toArray, List.getElem_cons_zero, List.getElem_cons_succ]
               refine wpAnyH_take (i := 21) (v := .agg #[.int .i64 a1, .int .i64 b1, .int .i64 c1]) rfl (by as_aux_lemma => kernel_rfl) (by as_aux_lemma => kernel_rfl) (by as_aux_lemma => kernel_rfl) (fun _ _ _ h => h) (Or.inl ⟨by rfl, fun w hw => by obtain ⟨x, rfl⟩ := hw; go_simp⟩) hS ?_
               try simp only [Act.put, List.setIfInBounds_toArray, List.set_cons_zero, List.set_cons_succ, List.getElem_toArray, List.getElem_cons_zero, List.getElem_cons_succ]
               refine wpAnyH_ready (rs := [22]) (by as_aux_lemma => kernel_rfl) (by simp) ?_
               refine AllReadyH.cons rfl (fun K hK => ?_) AllReadyH.nil
               go_simp
               refine hK.out _ _ ⟨⟨_, Bt3.out.alloc Bt3.out.size _⟩, rfl⟩ (fun hS => ?_)
               clear hK K hS
               try simp only [Act.put, List.setIfInBounds_toArray, List.set_cons_zero, List.set_cons_succ, List.getElem_toArray, List.getElem_cons_zero, List.getElem_cons_succ]
               obtain ⟨t4, ht⟩ : ∃ t, t = t3.alloc (.cells #[.int .i64 0, .int .i64 0, .int .i64 0] 72) := ⟨_, rfl⟩
               change wpAnyH _ _ _ _ _ _ _ _ (t3.alloc (.cells #[.int .i64 0, .int .i64 0, .int .i64 0] 72))
               rw [← ht]
               have Bt4 := Lib.hid (show Below Wt.heap.size Wt t4 by rw [ht]; exact Bt3.out.alloc Bt3.out.size _)
               have Gt4 := Lib.hid (show t4.heap[t3.heap.size]? = some (.cells #[.int .i64 0, .int .i64 0, .int .i64 0] 72) by rw [ht]; exact new_at1 _ _)
               have hge : Wt.heap.size ≤ t3.heap.size := Bt3.out.size
               have hS : ∃ x : Grow Wt, t4 = x.w := ⟨⟨t4, Bt4.out⟩, rfl⟩
               clear ht
               have qc0 := Joins.cell_of_block Gt4.out 0
               have qc1 := Joins.cell_of_block Gt4.out 1
               have qc2 := Joins.cell_of_block Gt4.out 2
               have fr : ∀ o, t4.frozen? ⟨t3.heap.size, o, none⟩ = false := fun o => by simp [World.frozen?, Gt4.out]
               have fr0 := fr 0
               have fr1 := fr 1
               have fr2 := fr 2
               obtain ⟨hR, hbl⟩ := tv_store (.int .i64 a1) (.int .i64 b1) (.int .i64 c1) Gt4.out
               have BL := Lib.hid (hbl Wt.heap.size Wt hge Bt4.out)
               have ZL := Lib.hid hR
               clear hR hbl fr
               refine wpAnyH_ready (rs := [23]) (by as_aux_lemma => kernel_rfl) (by simp) ?_
               refine AllReadyH.cons rfl (fun K hK => ?_) AllReadyH.nil
               go_simp
               refine hK.out _ _ ⟨⟨_, BL.out⟩, rfl⟩ (fun hS => ?_)
               clear hK K hS
               try simp only [Act.put, List.setIfInBounds_toArray, List.set_cons_zero, List.set_cons_succ, List.getElem_toArray, List.getElem_cons_zero, List.getElem_cons_succ]
               refine wpAnyH_done (by as_aux_lemma => kernel_rfl) ?_ _
               go_wp2_with fail
               go_meet
               exact ⟨_, rfl, hge, BL.out, ZL.out⟩
              refine AllReadyH.cons rfl (fun K hK => ?_) ?_
              ·
               skip
               go_simp
               refine hK.out _ _ ⟨⟨_, Bt2.out.alloc Bt2.out.size _⟩, rfl⟩ (fun hS => ?_)
               clear hK K hS
               try simp only [Act.put, List.setIfInBounds_toArray, List.set_cons_zero, List.set_cons_succ, List.getElem_toArray, List.getElem_cons_zero, List.getElem_cons_succ]
               obtain ⟨t5, ht⟩ : ∃ t, t = t2.alloc (.cells #[.int .i64 0, .int .i64 0, .int .i64 0] 72) := ⟨_, rfl⟩
               change wpAnyH _ _ _ _ _ _ _ _ (t2.alloc (.cells #[.int .i64 0, .int .i64 0, .int .i64 0] 72))
               rw [← ht]
               have Bt5 := Lib.hid (show Below Wt.heap.size Wt t5 by rw [ht]; exact Bt2.out.alloc Bt2.out.size _)
               have Gt5 := Lib.hid (show t5.heap[t2.heap.size]? = some (.cells #[.int .i64 0, .int .i64 0, .int .i64 0] 72) by rw [ht]; exact new_at1 _ _)
               have hge : Wt.heap.size ≤ t2.heap.size := Bt2.out.size
               have hS : ∃ x : Grow Wt, t5 = x.w := ⟨⟨t5, Bt5.out⟩, rfl⟩
               clear ht
               refine wpAnyH_ready (rs := [20]) (by as_aux_lemma => kernel_rfl) (by simp) ?_
               refine AllReadyH.cons rfl (fun K hK => ?_) AllReadyH.nil
               go_simp
               with_reducible refine (HT3.out _).mono ?_
               rintro e t6 ⟨rfl, hb⟩
               have Bt6 := Lib.hid (bstep Bt5.out Bt5.out.size hb)
               have Gt6 := Lib.hid ((hb.block _ (Array.getElem?_eq_some_iff.1 Gt5.out).1).trans Gt5.out)
               clear hb
               refine hK.out _ _ ⟨⟨_, Bt6.out⟩, rfl⟩ (fun hS => ?_)
               clear hK K
               try simp only [Act.put, List.setIfInBounds_toArray, List.set_cons_zero, List.set_cons_succ, List.getElem_toArray, List.getElem_cons_zero, List.getElem_cons_succ]
               refine wpAnyH_take (i := 21) (v := .agg #[.int .i64 a1, .int .i64 b1, .int .i64 c1]) rfl (by as_aux_lemma => kernel_rfl) (by as_aux_lemma => kernel_rfl) (by as_aux_lemma => kernel_rfl) (fun _ _ _ h => h) (Or.inl ⟨by rfl, fun w hw => by obtain ⟨x, rfl⟩ := hw; go_simp⟩) hS ?_
               try simp only [Act.put, List.setIfInBounds_toArray, List.set_cons_zero, List.set_cons_succ, List.getElem_toArray, List.getElem_cons_zero, List.getElem_cons_succ]
               have qc0 := Joins.cell_of_block Gt6.out 0
               have qc1 := Joins.cell_of_block Gt6.out 1
               have qc2 := Joins.cell_of_block Gt6.out 2
               have fr : ∀ o, t6.frozen? ⟨t2.heap.size, o, none⟩ = false := fun o => by simp [World.frozen?, Gt6.out]
               have fr0 := fr 0
               have fr1 := fr 1
               have fr2 := fr 2
               obtain ⟨hR, hbl⟩ := tv_store (.int .i64 a1) (.int .i64 b1) (.int .i64 c1) Gt6.out
               have BL := Lib.hid (hbl Wt.heap.size Wt hge Bt6.out)
               have ZL := Lib.hid hR
               clear hR hbl fr
               refine wpAnyH_ready (rs := [23]) (by as_aux_lemma => kernel_rfl) (by simp) ?_
               refine AllReadyH.cons rfl (fun K hK => ?_) AllReadyH.nil
               go_simp
               refine hK.out _ _ ⟨⟨_, BL.out⟩, rfl⟩ (fun hS => ?_)
               clear hK K hS
               try simp only [Act.put, List.setIfInBounds_toArray, List.set_cons_zero, List.set_cons_succ, List.getElem_toArray, List.getElem_cons_zero, List.getElem_cons_succ]
               refine wpAnyH_done (by as_aux_lemma => kernel_rfl) ?_ _
               go_wp2_with fail
               go_meet
               exact ⟨_, rfl, hge, BL.out, ZL.out⟩
              exact AllReadyH.nil
             refine AllReadyH.cons rfl (fun K hK => ?_) ?_
             ·
              skip
              go_simp
              refine hK.out _ _ ⟨⟨_, Bt1.out.alloc Bt1.out.size _⟩, rfl⟩ (fun hS => ?_)
              clear hK K hS
              try simp only [Act.put, List.setIfInBounds_toArray, List.set_cons_zero, List.set_cons_succ, List.getElem_toArray, List.getElem_cons_zero, List.getElem_cons_succ]
              obtain ⟨t7, ht⟩ : ∃ t, t = t1.alloc (.cells #[.int .i64 0, .int .i64 0, .int .i64 0] 72) := ⟨_, rfl⟩
              change wpAnyH _ _ _ _ _ _ _ _ (t1.alloc (.cells #[.int .i64 0, .int .i64 0, .int .i64 0] 72))
              rw [← ht]
              have Bt7 := Lib.hid (show Below Wt.heap.size Wt t7 by rw [ht]; exact Bt1.out.alloc Bt1.out.size _)
              have Gt7 := Lib.hid (show t7.heap[t1.heap.size]? = some (.cells #[.int .i64 0, .int .i64 0, .int .i64 0] 72) by rw [ht]; exact new_at1 _ _)
              have hge : Wt.heap.size ≤ t1.heap.size := Bt1.out.size
              have hS : ∃ x : Grow Wt, t7 = x.w := ⟨⟨t7, Bt7.out⟩, rfl⟩
              clear ht
              refine wpAnyH_ready (rs := [13]) (by as_aux_lemma => kernel_rfl) (by simp) ?_
              refine AllReadyH.cons rfl (fun K hK => ?_) AllReadyH.nil
              go_simp
              with_reducible refine (HT2.out _).mono ?_
              rintro e t8 ⟨rfl, hb⟩
              have Bt8 := Lib.hid (bstep Bt7.out Bt7.out.size hb)
              have Gt8 := Lib.hid ((hb.block _ (Array.getElem?_eq_some_iff.1 Gt7.out).1).trans Gt7.out)
              clear hb
              refine hK.out _ _ ⟨⟨_, Bt8.out⟩, rfl⟩ (fun hS => ?_)
              clear hK K
              try simp only [Act.put, List.setIfInBounds_toArray, List.set_cons_zero, List.set_cons_succ, List.getElem_toArray, List.getElem_cons_zero, List.getElem_cons_succ]
              refine wpAnyH_ready (rs := [20]) (by as_aux_lemma => kernel_rfl) (by simp) ?_
              refine AllReadyH.cons rfl (fun K hK => ?_) AllReadyH.nil
              go_simp
              with_reducible refine (HT3.out _).mono ?_
              rintro e t9 ⟨rfl, hb⟩
              have Bt9 := Lib.hid (bstep Bt8.out Bt8.out.size hb)
              have Gt9 := Lib.hid ((hb.block _ (Array.getElem?_eq_some_iff.1 Gt8.out).1).trans Gt8.out)
              clear hb
              refine hK.out _ _ ⟨⟨_, Bt9.out⟩, rfl⟩ (fun hS => ?_)
              clear hK K
              try simp only [Act.put, List.setIfInBounds_toArray, List.set_cons_zero, List.set_cons_succ, List.getElem_toArray, List.getElem_cons_zero, List.getElem_cons_succ]
              refine wpAnyH_take (i := 21) (v := .agg #[.int .i64 a1, .int .i64 b1, .int .i64 c1]) rfl (by as_aux_lemma => kernel_rfl) (by as_aux_lemma => kernel_rfl) (by as_aux_lemma => kernel_rfl) (fun _ _ _ h => h) (Or.inl ⟨by rfl, fun w hw => by obtain ⟨x, rfl⟩ := hw; go_simp⟩) hS ?_
              try simp only [Act.put, List.setIfInBounds_toArray, List.set_cons_zero, List.set_cons_succ, List.getElem_toArray, List.getElem_cons_zero, List.getElem_cons_succ]
              have qc0 := Joins.cell_of_block Gt9.out 0
              have qc1 := Joins.cell_of_block Gt9.out 1
              have qc2 := Joins.cell_of_block Gt9.out 2
              have fr : ∀ o, t9.frozen? ⟨t1.heap.size, o, none⟩ = false := fun o => by simp [World.frozen?, Gt9.out]
              have fr0 := fr 0
              have fr1 := fr 1
              have fr2 := fr 2
              obtain ⟨hR, hbl⟩ := tv_store (.int .i64 a1) (.int .i64 b1) (.int .i64 c1) Gt9.out
              have BL := Lib.hid (hbl Wt.heap.size Wt hge Bt9.out)
              have ZL := Lib.hid hR
              clear hR hbl fr
              refine wpAnyH_ready (rs := [23]) (by as_aux_lemma => kernel_rfl) (by simp) ?_
              refine AllReadyH.cons rfl (fun K hK => ?_) AllReadyH.nil
              go_simp
              refine hK.out _ _ ⟨⟨_, BL.out⟩, rfl⟩ (fun hS => ?_)
              clear hK K hS
              try simp only [Act.put, List.setIfInBounds_toArray, List.set_cons_zero, List.set_cons_succ, List.getElem_toArray, List.getElem_cons_zero, List.getElem_cons_succ]
              refine wpAnyH_done (by as_aux_lemma => kernel_rfl) ?_ _
              go_wp2_with fail
              go_meet
              exact ⟨_, rfl, hge, BL.out, ZL.out⟩
             exact AllReadyH.nil
            refine AllReadyH.cons rfl (fun K hK => ?_) ?_
            ·
             skip
             go_simp
             refine hK.out _ _ ⟨⟨_, BY.out.alloc BY.out.size _⟩, rfl⟩ (fun hS => ?_)
             clear hK K hS
             try simp only [Act.put, List.setIfInBounds_toArray, List.set_cons_zero, List.set_cons_succ, List.getElem_toArray, List.getElem_cons_zero, List.getElem_cons_succ]
             obtain ⟨t10, ht⟩ : ∃ t, t = Y.alloc (.cells #[.int .i64 0, .int .i64 0, .int .i64 0] 72) := ⟨_, rfl⟩
             change wpAnyH _ _ _ _ _ _ _ _ (Y.alloc (.cells #[.int .i64 0, .int .i64 0, .int .i64 0] 72))
             rw [← ht]
             have Bt10 := Lib.hid (show Below Wt.heap.size Wt t10 by rw [ht]; exact BY.out.alloc BY.out.size _)
             have Gt10 := Lib.hid (show t10.heap[Y.heap.size]? = some (.cells #[.int .i64 0, .int .i64 0, .int .i64 0] 72) by rw [ht]; exact new_at1 _ _)
             have hge : Wt.heap.size ≤ Y.heap.size := BY.out.size
             have hS : ∃ x : Grow Wt, t10 = x.w := ⟨⟨t10, Bt10.out⟩, rfl⟩
             clear ht
             refine wpAnyH_ready (rs := [6]) (by as_aux_lemma => kernel_rfl) (by simp) ?_
             refine AllReadyH.cons rfl (fun K hK => ?_) AllReadyH.nil
             go_simp
             with_reducible refine (HT1.out _).mono ?_
             rintro e t11 ⟨rfl, hb⟩
             have Bt11 := Lib.hid (bstep Bt10.out Bt10.out.size hb)
             have Gt11 := Lib.hid ((hb.block _ (Array.getElem?_eq_some_iff.1 Gt10.out).1).trans Gt10.out)
             clear hb
             refine hK.out _ _ ⟨⟨_, Bt11.out⟩, rfl⟩ (fun hS => ?_)
             clear hK K
             try simp only [Act.put, List.setIfInBounds_toArray, List.set_cons_zero, List.set_cons_succ, List.getElem_toArray, List.getElem_cons_zero, List.getElem_cons_succ]
             refine wpAnyH_ready (rs := [13]) (by as_aux_lemma => kernel_rfl) (by simp) ?_
             refine AllReadyH.cons rfl (fun K hK => ?_) AllReadyH.nil
             go_simp
             with_reducible refine (HT2.out _).mono ?_
             rintro e t12 ⟨rfl, hb⟩
             have Bt12 := Lib.hid (bstep Bt11.out Bt11.out.size hb)
             have Gt12 := Lib.hid ((hb.block _ (Array.getElem?_eq_some_iff.1 Gt11.out).1).trans Gt11.out)
             clear hb
             refine hK.out _ _ ⟨⟨_, Bt12.out⟩, rfl⟩ (fun hS => ?_)
             clear hK K
             try simp only [Act.put, List.setIfInBounds_toArray, List.set_cons_zero, List.set_cons_succ, List.getElem_toArray, List.getElem_cons_zero, List.getElem_cons_succ]
             refine wpAnyH_ready (rs := [20]) (by as_aux_lemma => kernel_rfl) (by simp) ?_
             refine AllReadyH.cons rfl (fun K hK => ?_) AllReadyH.nil
             go_simp
             with_reducible refine (HT3.out _).mono ?_
             rintro e t13 ⟨rfl, hb⟩
             have Bt13 := Lib.hid (bstep Bt12.out Bt12.out.size hb)
             have Gt13 := Lib.hid ((hb.block _ (Array.getElem?_eq_some_iff.1 Gt12.out).1).trans Gt12.out)
             clear hb
             refine hK.out _ _ ⟨⟨_, Bt13.out⟩, rfl⟩ (fun hS => ?_)
             clear hK K
             try simp only [Act.put, List.setIfInBounds_toArray, List.set_cons_zero, List.set_cons_succ, List.getElem_toArray, List.getElem_cons_zero, List.getElem_cons_succ]
             refine wpAnyH_take (i := 21) (v := .agg #[.int .i64 a1, .int .i64 b1, .int .i64 c1]) rfl (by as_aux_lemma => kernel_rfl) (by as_aux_lemma => kernel_rfl) (by as_aux_lemma => kernel_rfl) (fun _ _ _ h => h) (Or.inl ⟨by rfl, fun w hw => by obtain ⟨x, rfl⟩ := hw; go_simp⟩) hS ?_
             try simp only [Act.put, List.setIfInBounds_toArray, List.set_cons_zero, List.set_cons_succ, List.getElem_toArray, List.getElem_cons_zero, List.getElem_cons_succ]
             have qc0 := Joins.cell_of_block Gt13.out 0
             have qc1 := Joins.cell_of_block Gt13.out 1
             have qc2 := Joins.cell_of_block Gt13.out 2
             have fr : ∀ o, t13.frozen? ⟨Y.heap.size, o, none⟩ = false := fun o => by simp [World.frozen?, Gt13.out]
             have fr0 := fr 0
             have fr1 := fr 1
             have fr2 := fr 2
             obtain ⟨hR, hbl⟩ := tv_store (.int .i64 a1) (.int .i64 b1) (.int .i64 c1) Gt13.out
             have BL := Lib.hid (hbl Wt.heap.size Wt hge Bt13.out)
             have ZL := Lib.hid hR
             clear hR hbl fr
             refine wpAnyH_ready (rs := [23]) (by as_aux_lemma => kernel_rfl) (by simp) ?_
             refine AllReadyH.cons rfl (fun K hK => ?_) AllReadyH.nil
             go_simp
             refine hK.out _ _ ⟨⟨_, BL.out⟩, rfl⟩ (fun hS => ?_)
             clear hK K hS
             try simp only [Act.put, List.setIfInBounds_toArray, List.set_cons_zero, List.set_cons_succ, List.getElem_toArray, List.getElem_cons_zero, List.getElem_cons_succ]
             refine wpAnyH_done (by as_aux_lemma => kernel_rfl) ?_ _
             go_wp2_with fail
             go_meet
             exact ⟨_, rfl, hge, BL.out, ZL.out⟩
            exact AllReadyH.nil
           case rest =>
           rename World => Wv
           obtain ⟨gv, rfl, hgv, BV2, ZV2⟩ := hcut
           have hgxW1 : gx < Wt.heap.size := by omega
           have FTv := Lib.hid (FT1.out.keep BV2 (by omega) hgo)
           have OTv := Lib.hid (OT1.out.keep BV2)
           have GXv := Lib.hid ((BV2.block gx hgxW1).trans GX1.out)
           have GDv := Lib.hid ((BV2.block wc.heap.size (by omega)).trans GD1.out)
           have BWv := Lib.hid (HBw.out.trans ((BT.out.trans (BV2.mono (by omega))).mono (by have := HBw.out.size; omega)))
           have hsv : V2.heap.size ≤ Wv.heap.size := by have := BV2.size; omega
           have v4 := Joins.cell_of_block GXv.out 4
           have x0' := (BV2.cell (p := ⟨wj.heap.size, 0, none⟩) (by show wj.heap.size < Wt.heap.size; omega)).trans (Joins.cell_of_block GT.out 0)
           have s0' := Joins.cell_of_block ZV2 0
           have s1' := Joins.cell_of_block ZV2 1
           have s2' := Joins.cell_of_block ZV2 2
           have hgxW : gx < Wv.heap.size := by omega
           have hgvW : gv < Wv.heap.size := (Array.getElem?_eq_some_iff.1 ZV2).1
           have hv2b : ∀ x, v2.ownBlock = some x → x < wj.heap.size := fun x e => ownE_lt HOT.out e
           have NM1 := Lib.hid (show ¬ (wj.heap.size = gx ∨ v2.ownBlock = some wj.heap.size) from fun e => e.elim (fun h => by omega) (fun h => by have := hv2b _ h; omega))
           have NM2 := Lib.hid (show ¬ (gv = gx ∨ v2.ownBlock = some gv) from fun e => e.elim (fun h => by omega) (fun h => by have := hv2b _ h; omega))
           have hgox : go < gx := by omega
           have hV2c : wc.heap.size ≤ V2.heap.size := by omega
           have hgxc : wc.heap.size ≤ gx := by omega
           replace hv2b := Lib.hid hv2b
           clear BV2 ZV2 FT1 OT1 GX1 GD1 GT BT HT1 HT2 HT3
           go_wp2_with fail
           have y0 : ∀ w', Om (fun b => b = gx ∨ v2.ownBlock = some b) Wv w' → w'.cell? ⟨wj.heap.size, 0, none⟩ = some (.int .i64 t.i) := fun w' h => h.cell (by assumption) (NM1.out)
           have y1 : ∀ w', Om (fun b => b = gx ∨ v2.ownBlock = some b) Wv w' → w'.cell? ⟨gv, 0, none⟩ = some (.int .i64 a1) := fun w' h => h.cell (by assumption) (NM2.out)
           have y2 : ∀ w', Om (fun b => b = gx ∨ v2.ownBlock = some b) Wv w' → w'.cell? ⟨gv, 1, none⟩ = some (.int .i64 b1) := fun w' h => h.cell (by assumption) (NM2.out)
           have y3 : ∀ w', Om (fun b => b = gx ∨ v2.ownBlock = some b) Wv w' → w'.cell? ⟨gv, 2, none⟩ = some (.int .i64 c1) := fun w' h => h.cell (by assumption) (NM2.out)
           refine wp_region_held_drew (S := fun w' => Om (fun b => b = gx ∨ v2.ownBlock = some b) Wv w') (by as_aux_lemma => kernel_rfl) (om_drew _ _) (fun hS => ?_)
           have B_t0 := Lib.hid (show Below Wv.heap.size Wv Wv.drew from (Below.refl _ _).drew)
           have M_t0 := Lib.hid (om_drew (fun b => b = gx ∨ v2.ownBlock = some b) Wv)
           generalize Wv.drew = t0 at *
           refine wpAnyH_take (i := 0) (v := .pointer (some ⟨gx, 4, none⟩)) rfl (by as_aux_lemma => kernel_rfl) (by as_aux_lemma => kernel_rfl) (by as_aux_lemma => kernel_rfl) (fun _ _ _ h => h) (Or.inl ⟨by rfl, fun w hw => by have z0 := y0 w hw; have z1 := y1 w hw; have z2 := y2 w hw; have z3 := y3 w hw; go_simp⟩) hS ?_
           try simp only [Act.put, List.setIfInBounds_toArray, List.set_cons_zero, List.set_cons_succ, List.getElem_toArray, List.getElem_cons_zero]
           refine wpAnyH_take (i := 2) (v := .pointer (some ⟨wj.heap.size, 0, none⟩)) rfl (by as_aux_lemma => kernel_rfl) (by as_aux_lemma => kernel_rfl) (by as_aux_lemma => kernel_rfl) (fun _ _ _ h => h) (Or.inl ⟨by rfl, fun w hw => by have z0 := y0 w hw; have z1 := y1 w hw; have z2 := y2 w hw; have z3 := y3 w hw; go_simp⟩) hS ?_
           try simp only [Act.put, List.setIfInBounds_toArray, List.set_cons_zero, List.set_cons_succ, List.getElem_toArray, List.getElem_cons_zero, List.getElem_cons_succ]
           refine wpAnyH_take (i := 3) (v := .int .i64 t.i) rfl (by as_aux_lemma => kernel_rfl) (by as_aux_lemma => kernel_rfl) (by as_aux_lemma => kernel_rfl) (fun _ _ _ h => h) (Or.inl ⟨by rfl, fun w hw => by have z0 := y0 w hw; have z1 := y1 w hw; have z2 := y2 w hw; have z3 := y3 w hw; go_simp⟩) hS ?_
           try simp only [Act.put, List.setIfInBounds_toArray, List.set_cons_zero, List.set_cons_succ, List.getElem_toArray, List.getElem_cons_zero, List.getElem_cons_succ]
           refine wpAnyH_take (i := 6) (v := .int .i64 k) rfl (by as_aux_lemma => kernel_rfl) (by as_aux_lemma => kernel_rfl) (by as_aux_lemma => kernel_rfl) (fun _ _ _ h => h) (Or.inl ⟨by rfl, fun w hw => by have z0 := y0 w hw; have z1 := y1 w hw; have z2 := y2 w hw; have z3 := y3 w hw; go_simp⟩) hS ?_
           try simp only [Act.put, List.setIfInBounds_toArray, List.set_cons_zero, List.set_cons_succ, List.getElem_toArray, List.getElem_cons_zero, List.getElem_cons_succ]
           refine wpAnyH_take (i := 8) (v := .agg #[.int .i64 a1, .int .i64 b1, .int .i64 c1]) rfl (by as_aux_lemma => kernel_rfl) (by as_aux_lemma => kernel_rfl) (by as_aux_lemma => kernel_rfl) (fun _ _ _ h => h) (Or.inl ⟨by rfl, fun w hw => by have z0 := y0 w hw; have z1 := y1 w hw; have z2 := y2 w hw; have z3 := y3 w hw; go_simp⟩) hS ?_
           try simp only [Act.put, List.setIfInBounds_toArray, List.set_cons_zero, List.set_cons_succ, List.getElem_toArray, List.getElem_cons_zero, List.getElem_cons_succ]
           refine wpAnyH_ready (rs := [1, 4]) (by as_aux_lemma => kernel_rfl) (by simp) ?_
           refine AllReadyH.cons rfl (fun K hK => ?_) ?_
           ·
            skip
            have ldc : t0.cell? ⟨gx, 4, none⟩ = some v2 := (B_t0.out.cell (p := ⟨gx, 4, none⟩) hgxW).trans v4
            have lds := Nat.lt_of_lt_of_le hgxW B_t0.out.size
            go_simp
            refine hK.out _ _ M_t0.out (fun hS => ?_)
            clear hK K ldc lds
            try simp only [Act.put, List.setIfInBounds_toArray, List.set_cons_zero, List.set_cons_succ, List.getElem_toArray, List.getElem_cons_zero, List.getElem_cons_succ]
            refine wpAnyH_ready (rs := [4]) (by as_aux_lemma => kernel_rfl) (by simp) ?_
            refine AllReadyH.cons rfl (fun K hK => ?_) AllReadyH.nil
            go_simp
            with_reducible refine (HT0.out _).mono ?_
            rintro e t1 ⟨rfl, rfl⟩
            refine hK.out _ _ M_t0.out (fun hS => ?_)
            clear hK K
            try simp only [Act.put, List.setIfInBounds_toArray, List.set_cons_zero, List.set_cons_succ, List.getElem_toArray, List.getElem_cons_zero, List.getElem_cons_succ]
            refine wpAnyH_take (i := 5) (v := .int .i64 (100 * i1)) rfl (by as_aux_lemma => kernel_rfl) (by as_aux_lemma => kernel_rfl) (by as_aux_lemma => kernel_rfl) (fun _ _ _ h => h) (Or.inl ⟨by rfl, fun w hw => by have z0 := y0 w hw; have z1 := y1 w hw; have z2 := y2 w hw; have z3 := y3 w hw; go_simp⟩) hS ?_
            try simp only [Act.put, List.setIfInBounds_toArray, List.set_cons_zero, List.set_cons_succ, List.getElem_toArray, List.getElem_cons_zero, List.getElem_cons_succ]
            refine wpAnyH_take (i := 7) (v := .int .i64 (100 * i1 + k)) rfl (by as_aux_lemma => kernel_rfl) (by as_aux_lemma => kernel_rfl) (by as_aux_lemma => kernel_rfl) (fun _ _ _ h => h) (Or.inl ⟨by rfl, fun w hw => by have z0 := y0 w hw; have z1 := y1 w hw; have z2 := y2 w hw; have z3 := y3 w hw; go_simp⟩) hS ?_
            try simp only [Act.put, List.setIfInBounds_toArray, List.set_cons_zero, List.set_cons_succ, List.getElem_toArray, List.getElem_cons_zero, List.getElem_cons_succ]
            refine wpAnyH_take (i := 9) (v := .agg #[.int .i64 (100 * i1 + k), .int .i64 a1, .int .i64 b1, .int .i64 c1]) rfl (by as_aux_lemma => kernel_rfl) (by as_aux_lemma => kernel_rfl) (by as_aux_lemma => kernel_rfl) (fun _ _ _ h => h) (Or.inl ⟨by rfl, fun w hw => by have z0 := y0 w hw; have z1 := y1 w hw; have z2 := y2 w hw; have z3 := y3 w hw; go_simp⟩) hS ?_
            try simp only [Act.put, List.setIfInBounds_toArray, List.set_cons_zero, List.set_cons_succ, List.getElem_toArray, List.getElem_cons_zero, List.getElem_cons_succ]
            refine wpAnyH_ready (rs := [10]) (by as_aux_lemma => kernel_rfl) (by simp) ?_
            refine AllReadyH.cons rfl (fun K hK => ?_) AllReadyH.nil
            go_simp
            refine hK.out _ _ (M_t0.out.alloc _) (fun hS => ?_)
            clear hK K hS
            try simp only [Act.put, List.setIfInBounds_toArray, List.set_cons_zero, List.set_cons_succ, List.getElem_toArray, List.getElem_cons_zero, List.getElem_cons_succ]
            obtain ⟨t2, ht⟩ : ∃ t, t = t0.alloc (.cells #[.int .i64 (100 * i1 + k), .int .i64 a1, .int .i64 b1, .int .i64 c1] 74) := ⟨_, rfl⟩
            change wpAnyH _ _ _ _ _ _ _ _ (t0.alloc (.cells #[.int .i64 (100 * i1 + k), .int .i64 a1, .int .i64 b1, .int .i64 c1] 74))
            rw [← ht]
            have B_t2 := Lib.hid (show Below Wv.heap.size Wv t2 by rw [ht]; exact B_t0.out.alloc B_t0.out.size _)
            have M_t2 := Lib.hid (show Om (fun b => b = gx ∨ v2.ownBlock = some b) Wv t2 by rw [ht]; exact M_t0.out.alloc _)
            have G_t2 := Lib.hid (show t2.heap[t0.heap.size]? = some (.cells #[.int .i64 (100 * i1 + k), .int .i64 a1, .int .i64 b1, .int .i64 c1] 74 (0, 0)) by rw [ht]; exact heap_alloc_new _ _)
            have Z_t2 : t2.heap.size = t0.heap.size + 1 := by rw [ht]; simp
            have hS := M_t2.out
            clear ht
            refine wpAnyH_ready (rs := [11]) (by as_aux_lemma => kernel_rfl) (by simp) ?_
            refine AllReadyH.cons rfl (fun K hK => ?_) AllReadyH.nil
            rw [if_pos (by rfl)]
            refine opw_append_len RR (.tmp 203) (.tmp 212) 1 1 (show [(⟨100 * i1 + k, a1, b1, c1⟩ : Tr)].length = 1 from rfl) rfl rfl rfl (OTv.out.keep B_t2.out) (es_one (E := ER) (x := ⟨100 * i1 + k, a1, b1, c1⟩) (cs := #[.int .i64 (100 * i1 + k), .int .i64 a1, .int .i64 b1, .int .i64 c1]) rfl G_t2.out) (by omega) (by simp) (by have := B_t2.out.size; omega) ?_
            intro v' w7 h1 h2 h3
            obtain ⟨g', cap', rfl⟩ := ownsRow_succ h1
            obtain ⟨hO7, hB7a⟩ := ownE_app (OTv.out.keep B_t2.out) h1 h2 (by have := B_t2.out.size; omega)
            have hB7 := (B_t2.out.mono hsv).trans hB7a
            have F7 := Lib.hid (FTv.out.keep hB7 (by omega) hgo)
            have M7 := Lib.hid (M_t2.out.grown h2 (fun r e => .inl (.inr e)))
            have G7 := Lib.hid ((hB7.block gx hgxV).trans GXv.out)
            have D7 := Lib.hid ((hB7.block wc.heap.size (by omega)).trans GDv.out)
            have z4 := Joins.cell_of_block G7.out 4
            have zf : w7.frozen? ⟨gx, 4, none⟩ = false := by simp [World.frozen?, G7.out]
            have zg : gx < w7.heap.size := (Array.getElem?_eq_some_iff.1 G7.out).1
            have O7 := Lib.hid hO7
            have B7 := Lib.hid hB7
            clear h1 h2 h3 hO7 hB7 hB7a
            refine hK.out _ _ M7.out (fun hS => ?_)
            clear hK K
            try simp only [Act.put, List.setIfInBounds_toArray, List.set_cons_zero, List.set_cons_succ, List.getElem_toArray, List.getElem_cons_zero, List.getElem_cons_succ]
            refine wpAnyH_take (i := 12) (v := .pointer (some ⟨gx, 4, none⟩)) rfl (by as_aux_lemma => kernel_rfl) (by as_aux_lemma => kernel_rfl) (by as_aux_lemma => kernel_rfl) (fun _ _ _ h => h) (Or.inl ⟨by rfl, fun w hw => by go_simp⟩) hS ?_
            try simp only [Act.put, List.setIfInBounds_toArray, List.set_cons_zero, List.set_cons_succ, List.getElem_toArray, List.getElem_cons_zero, List.getElem_cons_succ]
            refine wpAnyH_ready (rs := [13]) (by as_aux_lemma => kernel_rfl) (by simp) ?_
            refine AllReadyH.cons rfl (fun K hK => ?_) AllReadyH.nil
            go_simp
            refine hK.out _ _ (M7.out.set (.inl (.inl rfl))) (fun hS => ?_)
            clear hK K hS
            try simp only [Act.put, List.setIfInBounds_toArray, List.set_cons_zero, List.set_cons_succ, List.getElem_toArray, List.getElem_cons_zero, List.getElem_cons_succ]
            refine wpAnyH_done (by as_aux_lemma => kernel_rfl) ?_ _
            go_wp2_with fail
            go_roundw
            case rel => exact ⟨k + 1, _, ts ++ [⟨100 * i1 + k, a1, b1, c1⟩], by omega, by go_num, by rw [HU2.out, HTS.out], O7.out.setCell hgxV, by have := B7.out.size; simp; omega, F7.out.other hgox hgo, (heap_setCell_same _ _ 4 _ _ _ G7.out).trans (by simp), (heap_setCell_other _ _ _ _ (show wc.heap.size ≠ gx by omega)).trans D7.out, (BWv.out.trans (B7.out.mono hV2c)).setCell (p := ⟨gx, 4, none⟩) hgxc _⟩
            case measure => simp [intOf]; omega
           refine AllReadyH.cons rfl (fun K hK => ?_) ?_
           ·
            skip
            go_simp
            with_reducible refine (HT0.out _).mono ?_
            rintro e t3 ⟨rfl, rfl⟩
            refine hK.out _ _ M_t0.out (fun hS => ?_)
            clear hK K
            try simp only [Act.put, List.setIfInBounds_toArray, List.set_cons_zero, List.set_cons_succ, List.getElem_toArray, List.getElem_cons_zero, List.getElem_cons_succ]
            refine wpAnyH_take (i := 5) (v := .int .i64 (100 * i1)) rfl (by as_aux_lemma => kernel_rfl) (by as_aux_lemma => kernel_rfl) (by as_aux_lemma => kernel_rfl) (fun _ _ _ h => h) (Or.inl ⟨by rfl, fun w hw => by have z0 := y0 w hw; have z1 := y1 w hw; have z2 := y2 w hw; have z3 := y3 w hw; go_simp⟩) hS ?_
            try simp only [Act.put, List.setIfInBounds_toArray, List.set_cons_zero, List.set_cons_succ, List.getElem_toArray, List.getElem_cons_zero, List.getElem_cons_succ]
            refine wpAnyH_take (i := 7) (v := .int .i64 (100 * i1 + k)) rfl (by as_aux_lemma => kernel_rfl) (by as_aux_lemma => kernel_rfl) (by as_aux_lemma => kernel_rfl) (fun _ _ _ h => h) (Or.inl ⟨by rfl, fun w hw => by have z0 := y0 w hw; have z1 := y1 w hw; have z2 := y2 w hw; have z3 := y3 w hw; go_simp⟩) hS ?_
            try simp only [Act.put, List.setIfInBounds_toArray, List.set_cons_zero, List.set_cons_succ, List.getElem_toArray, List.getElem_cons_zero, List.getElem_cons_succ]
            refine wpAnyH_take (i := 9) (v := .agg #[.int .i64 (100 * i1 + k), .int .i64 a1, .int .i64 b1, .int .i64 c1]) rfl (by as_aux_lemma => kernel_rfl) (by as_aux_lemma => kernel_rfl) (by as_aux_lemma => kernel_rfl) (fun _ _ _ h => h) (Or.inl ⟨by rfl, fun w hw => by have z0 := y0 w hw; have z1 := y1 w hw; have z2 := y2 w hw; have z3 := y3 w hw; go_simp⟩) hS ?_
            try simp only [Act.put, List.setIfInBounds_toArray, List.set_cons_zero, List.set_cons_succ, List.getElem_toArray, List.getElem_cons_zero, List.getElem_cons_succ]
            refine wpAnyH_ready (rs := [1, 10]) (by as_aux_lemma => kernel_rfl) (by simp) ?_
            refine AllReadyH.cons rfl (fun K hK => ?_) ?_
            ·
             skip
             have ldc : t0.cell? ⟨gx, 4, none⟩ = some v2 := (B_t0.out.cell (p := ⟨gx, 4, none⟩) hgxW).trans v4
             have lds := Nat.lt_of_lt_of_le hgxW B_t0.out.size
             go_simp
             refine hK.out _ _ M_t0.out (fun hS => ?_)
             clear hK K ldc lds
             try simp only [Act.put, List.setIfInBounds_toArray, List.set_cons_zero, List.set_cons_succ, List.getElem_toArray, List.getElem_cons_zero, List.getElem_cons_succ]
             refine wpAnyH_ready (rs := [10]) (by as_aux_lemma => kernel_rfl) (by simp) ?_
             refine AllReadyH.cons rfl (fun K hK => ?_) AllReadyH.nil
             go_simp
             refine hK.out _ _ (M_t0.out.alloc _) (fun hS => ?_)
             clear hK K hS
             try simp only [Act.put, List.setIfInBounds_toArray, List.set_cons_zero, List.set_cons_succ, List.getElem_toArray, List.getElem_cons_zero, List.getElem_cons_succ]
             obtain ⟨t4, ht⟩ : ∃ t, t = t0.alloc (.cells #[.int .i64 (100 * i1 + k), .int .i64 a1, .int .i64 b1, .int .i64 c1] 74) := ⟨_, rfl⟩
             change wpAnyH _ _ _ _ _ _ _ _ (t0.alloc (.cells #[.int .i64 (100 * i1 + k), .int .i64 a1, .int .i64 b1, .int .i64 c1] 74))
             rw [← ht]
             have B_t4 := Lib.hid (show Below Wv.heap.size Wv t4 by rw [ht]; exact B_t0.out.alloc B_t0.out.size _)
             have M_t4 := Lib.hid (show Om (fun b => b = gx ∨ v2.ownBlock = some b) Wv t4 by rw [ht]; exact M_t0.out.alloc _)
             have G_t4 := Lib.hid (show t4.heap[t0.heap.size]? = some (.cells #[.int .i64 (100 * i1 + k), .int .i64 a1, .int .i64 b1, .int .i64 c1] 74 (0, 0)) by rw [ht]; exact heap_alloc_new _ _)
             have Z_t4 : t4.heap.size = t0.heap.size + 1 := by rw [ht]; simp
             have hS := M_t4.out
             clear ht
             refine wpAnyH_ready (rs := [11]) (by as_aux_lemma => kernel_rfl) (by simp) ?_
             refine AllReadyH.cons rfl (fun K hK => ?_) AllReadyH.nil
             rw [if_pos (by rfl)]
             refine opw_append_len RR (.tmp 203) (.tmp 212) 1 1 (show [(⟨100 * i1 + k, a1, b1, c1⟩ : Tr)].length = 1 from rfl) rfl rfl rfl (OTv.out.keep B_t4.out) (es_one (E := ER) (x := ⟨100 * i1 + k, a1, b1, c1⟩) (cs := #[.int .i64 (100 * i1 + k), .int .i64 a1, .int .i64 b1, .int .i64 c1]) rfl G_t4.out) (by omega) (by simp) (by have := B_t4.out.size; omega) ?_
             intro v' w7 h1 h2 h3
             obtain ⟨g', cap', rfl⟩ := ownsRow_succ h1
             obtain ⟨hO7, hB7a⟩ := ownE_app (OTv.out.keep B_t4.out) h1 h2 (by have := B_t4.out.size; omega)
             have hB7 := (B_t4.out.mono hsv).trans hB7a
             have F7 := Lib.hid (FTv.out.keep hB7 (by omega) hgo)
             have M7 := Lib.hid (M_t4.out.grown h2 (fun r e => .inl (.inr e)))
             have G7 := Lib.hid ((hB7.block gx hgxV).trans GXv.out)
             have D7 := Lib.hid ((hB7.block wc.heap.size (by omega)).trans GDv.out)
             have z4 := Joins.cell_of_block G7.out 4
             have zf : w7.frozen? ⟨gx, 4, none⟩ = false := by simp [World.frozen?, G7.out]
             have zg : gx < w7.heap.size := (Array.getElem?_eq_some_iff.1 G7.out).1
             have O7 := Lib.hid hO7
             have B7 := Lib.hid hB7
             clear h1 h2 h3 hO7 hB7 hB7a
             refine hK.out _ _ M7.out (fun hS => ?_)
             clear hK K
             try simp only [Act.put, List.setIfInBounds_toArray, List.set_cons_zero, List.set_cons_succ, List.getElem_toArray, List.getElem_cons_zero, List.getElem_cons_succ]
             refine wpAnyH_take (i := 12) (v := .pointer (some ⟨gx, 4, none⟩)) rfl (by as_aux_lemma => kernel_rfl) (by as_aux_lemma => kernel_rfl) (by as_aux_lemma => kernel_rfl) (fun _ _ _ h => h) (Or.inl ⟨by rfl, fun w hw => by go_simp⟩) hS ?_
             try simp only [Act.put, List.setIfInBounds_toArray, List.set_cons_zero, List.set_cons_succ, List.getElem_toArray, List.getElem_cons_zero, List.getElem_cons_succ]
             refine wpAnyH_ready (rs := [13]) (by as_aux_lemma => kernel_rfl) (by simp) ?_
             refine AllReadyH.cons rfl (fun K hK => ?_) AllReadyH.nil
             go_simp
             refine hK.out _ _ (M7.out.set (.inl (.inl rfl))) (fun hS => ?_)
             clear hK K hS
             try simp only [Act.put, List.setIfInBounds_toArray, List.set_cons_zero, List.set_cons_succ, List.getElem_toArray, List.getElem_cons_zero, List.getElem_cons_succ]
             refine wpAnyH_done (by as_aux_lemma => kernel_rfl) ?_ _
             go_wp2_with fail
             go_roundw
             case rel => exact ⟨k + 1, _, ts ++ [⟨100 * i1 + k, a1, b1, c1⟩], by omega, by go_num, by rw [HU2.out, HTS.out], O7.out.setCell hgxV, by have := B7.out.size; simp; omega, F7.out.other hgox hgo, (heap_setCell_same _ _ 4 _ _ _ G7.out).trans (by simp), (heap_setCell_other _ _ _ _ (show wc.heap.size ≠ gx by omega)).trans D7.out, (BWv.out.trans (B7.out.mono hV2c)).setCell (p := ⟨gx, 4, none⟩) hgxc _⟩
             case measure => simp [intOf]; omega
            refine AllReadyH.cons rfl (fun K hK => ?_) ?_
            ·
             skip
             go_simp
             refine hK.out _ _ (M_t0.out.alloc _) (fun hS => ?_)
             clear hK K hS
             try simp only [Act.put, List.setIfInBounds_toArray, List.set_cons_zero, List.set_cons_succ, List.getElem_toArray, List.getElem_cons_zero, List.getElem_cons_succ]
             obtain ⟨t5, ht⟩ : ∃ t, t = t0.alloc (.cells #[.int .i64 (100 * i1 + k), .int .i64 a1, .int .i64 b1, .int .i64 c1] 74) := ⟨_, rfl⟩
             change wpAnyH _ _ _ _ _ _ _ _ (t0.alloc (.cells #[.int .i64 (100 * i1 + k), .int .i64 a1, .int .i64 b1, .int .i64 c1] 74))
             rw [← ht]
             have B_t5 := Lib.hid (show Below Wv.heap.size Wv t5 by rw [ht]; exact B_t0.out.alloc B_t0.out.size _)
             have M_t5 := Lib.hid (show Om (fun b => b = gx ∨ v2.ownBlock = some b) Wv t5 by rw [ht]; exact M_t0.out.alloc _)
             have G_t5 := Lib.hid (show t5.heap[t0.heap.size]? = some (.cells #[.int .i64 (100 * i1 + k), .int .i64 a1, .int .i64 b1, .int .i64 c1] 74 (0, 0)) by rw [ht]; exact heap_alloc_new _ _)
             have Z_t5 : t5.heap.size = t0.heap.size + 1 := by rw [ht]; simp
             have hS := M_t5.out
             clear ht
             refine wpAnyH_ready (rs := [1]) (by as_aux_lemma => kernel_rfl) (by simp) ?_
             refine AllReadyH.cons rfl (fun K hK => ?_) AllReadyH.nil
             have ldc : t5.cell? ⟨gx, 4, none⟩ = some v2 := (B_t5.out.cell (p := ⟨gx, 4, none⟩) hgxW).trans v4
             have lds := Nat.lt_of_lt_of_le hgxW B_t5.out.size
             go_simp
             refine hK.out _ _ M_t5.out (fun hS => ?_)
             clear hK K ldc lds
             try simp only [Act.put, List.setIfInBounds_toArray, List.set_cons_zero, List.set_cons_succ, List.getElem_toArray, List.getElem_cons_zero, List.getElem_cons_succ]
             refine wpAnyH_ready (rs := [11]) (by as_aux_lemma => kernel_rfl) (by simp) ?_
             refine AllReadyH.cons rfl (fun K hK => ?_) AllReadyH.nil
             rw [if_pos (by rfl)]
             refine opw_append_len RR (.tmp 203) (.tmp 212) 1 1 (show [(⟨100 * i1 + k, a1, b1, c1⟩ : Tr)].length = 1 from rfl) rfl rfl rfl (OTv.out.keep B_t5.out) (es_one (E := ER) (x := ⟨100 * i1 + k, a1, b1, c1⟩) (cs := #[.int .i64 (100 * i1 + k), .int .i64 a1, .int .i64 b1, .int .i64 c1]) rfl G_t5.out) (by omega) (by simp) (by have := B_t5.out.size; omega) ?_
             intro v' w7 h1 h2 h3
             obtain ⟨g', cap', rfl⟩ := ownsRow_succ h1
             obtain ⟨hO7, hB7a⟩ := ownE_app (OTv.out.keep B_t5.out) h1 h2 (by have := B_t5.out.size; omega)
             have hB7 := (B_t5.out.mono hsv).trans hB7a
             have F7 := Lib.hid (FTv.out.keep hB7 (by omega) hgo)
             have M7 := Lib.hid (M_t5.out.grown h2 (fun r e => .inl (.inr e)))
             have G7 := Lib.hid ((hB7.block gx hgxV).trans GXv.out)
             have D7 := Lib.hid ((hB7.block wc.heap.size (by omega)).trans GDv.out)
             have z4 := Joins.cell_of_block G7.out 4
             have zf : w7.frozen? ⟨gx, 4, none⟩ = false := by simp [World.frozen?, G7.out]
             have zg : gx < w7.heap.size := (Array.getElem?_eq_some_iff.1 G7.out).1
             have O7 := Lib.hid hO7
             have B7 := Lib.hid hB7
             clear h1 h2 h3 hO7 hB7 hB7a
             refine hK.out _ _ M7.out (fun hS => ?_)
             clear hK K
             try simp only [Act.put, List.setIfInBounds_toArray, List.set_cons_zero, List.set_cons_succ, List.getElem_toArray, List.getElem_cons_zero, List.getElem_cons_succ]
             refine wpAnyH_take (i := 12) (v := .pointer (some ⟨gx, 4, none⟩)) rfl (by as_aux_lemma => kernel_rfl) (by as_aux_lemma => kernel_rfl) (by as_aux_lemma => kernel_rfl) (fun _ _ _ h => h) (Or.inl ⟨by rfl, fun w hw => by go_simp⟩) hS ?_
             try simp only [Act.put, List.setIfInBounds_toArray, List.set_cons_zero, List.set_cons_succ, List.getElem_toArray, List.getElem_cons_zero, List.getElem_cons_succ]
             refine wpAnyH_ready (rs := [13]) (by as_aux_lemma => kernel_rfl) (by simp) ?_
             refine AllReadyH.cons rfl (fun K hK => ?_) AllReadyH.nil
             go_simp
             refine hK.out _ _ (M7.out.set (.inl (.inl rfl))) (fun hS => ?_)
             clear hK K hS
             try simp only [Act.put, List.setIfInBounds_toArray, List.set_cons_zero, List.set_cons_succ, List.getElem_toArray, List.getElem_cons_zero, List.getElem_cons_succ]
             refine wpAnyH_done (by as_aux_lemma => kernel_rfl) ?_ _
             go_wp2_with fail
             go_roundw
             case rel => exact ⟨k + 1, _, ts ++ [⟨100 * i1 + k, a1, b1, c1⟩], by omega, by go_num, by rw [HU2.out, HTS.out], O7.out.setCell hgxV, by have := B7.out.size; simp; omega, F7.out.other hgox hgo, (heap_setCell_same _ _ 4 _ _ _ G7.out).trans (by simp), (heap_setCell_other _ _ _ _ (show wc.heap.size ≠ gx by omega)).trans D7.out, (BWv.out.trans (B7.out.mono hV2c)).setCell (p := ⟨gx, 4, none⟩) hgxc _⟩
             case measure => simp [intOf]; omega
            exact AllReadyH.nil
           exact AllReadyH.nil
          ·
           have d1 : decide ((k : Int) < mk) = false := by simp; omega
           rw [d1]
           clear d1
           have hkm : k = mk := by omega
           rw [hkm] at HTS
           clear hkm
           obtain ⟨tA2, tc2, hv2, htc2, -, -⟩ := HOT.out.es
           obtain ⟨n5, hn5⟩ : ∃ n, ts.length = n := ⟨_, rfl⟩
           rw [hn5] at hv2 htc2
           subst hv2
           replace hn5 := Lib.hid hn5
           have HD := Lib.hid (show fitDr nv nt np tris j u.x = ⟨100 * i0 + j, g0, x0, u.x.op, ts⟩ by
            have e100 : u.x.id % 100 = i0 := hi0.out
            unfold fitDr
            rw [HX0.out, e100, hg0.out, HTS.out, take_cut (l := u.x.tris) (k := tris) (m := mk) (by rw [hp.out]; exact hmk)])
           have HU := Lib.hid (show ((s.ds.map Lo.x).take (j + 1)).mapIdx (fitDr nv nt np tris) = ((s.ds.map Lo.x).take j).mapIdx (fitDr nv nt np tris) ++ [⟨100 * i0 + j, g0, x0, u.x.op, ts⟩] by rw [mapIdx_snoc hu.out, HD.out])
           have hwV : wc.heap.size < V2.heap.size := by omega
           have hwj : wc.heap.size ≤ wj.heap.size := by omega
           have K6 := Lib.hid (HBw.out.alloc HBw.out.size (.cells #[.int .i64 (100 * i0 + j), .int .i64 g0, .int .i64 (x0), .bool u.x.op, .slice tA2 n5 tc2] 52))
           have N6 := Lib.hid ((HN.out.keep HBw.out).own.alloc (.cells #[.int .i64 (100 * i0 + j), .int .i64 g0, .int .i64 (x0), .bool u.x.op, .slice tA2 n5 tc2] 52))
           have ES6 := Lib.hid (es_one (E := ED) (x := ⟨⟨100 * i0 + j, g0, x0, u.x.op, ts⟩, tA2, tc2⟩) (cs := #[.int .i64 (100 * i0 + j), .int .i64 g0, .int .i64 (x0), .bool u.x.op, .slice tA2 n5 tc2]) (by show [Value.int .i64 (100 * i0 + j), .int .i64 g0, .int .i64 (x0), .bool u.x.op, .slice tA2 n5 tc2] = [Value.int .i64 (100 * i0 + j), .int .i64 g0, .int .i64 (x0), .bool u.x.op, .slice tA2 ts.length tc2]; rw [hn5.out]) (heap_alloc_new wj (.cells #[.int .i64 (100 * i0 + j), .int .i64 g0, .int .i64 (x0), .bool u.x.op, .slice tA2 n5 tc2] 52)))
           have EI6 := Lib.hid (show EsP ER (wj.alloc (.cells #[.int .i64 (100 * i0 + j), .int .i64 g0, .int .i64 (x0), .bool u.x.op, .slice tA2 n5 tc2] 52)) (fun b => X3.heap.size ≤ b ∧ v.ownBlock ≠ some b) tA2 ts from (HOT.out.toP.keep (w' := wj.alloc (.cells #[.int .i64 (100 * i0 + j), .int .i64 g0, .int .i64 (x0), .bool u.x.op, .slice tA2 n5 tc2] 52)) (fun b h1 h2 => by rw [Below.heap_alloc _ _ _ h2])).imp fun b h1 _ => ⟨by omega, fun e => by have := ownE_lt HN.out.own e; omega⟩)
           have m0 := Joins.cell_of_block HGx.out 0
           have m1' := Joins.cell_of_block HGx.out 1
           have m2' := Joins.cell_of_block HGx.out 2
           have m3' := Joins.cell_of_block HGx.out 3
           have m4' := Joins.cell_of_block HGx.out 4
           have hgzj := HFt.out.z
           replace hp := Lib.hid hp
           replace hmk := Lib.hid hmk
           clear e0 e1 e2 e3 e4 hk hst
           go_wp2_with (at_builtin; refine wpList_append_len rfl RD _ _ 1 1 (show [(⟨⟨100 * i0 + j, g0, x0, u.x.op, ts⟩, tA2, tc2⟩ : Lo Dr)].length = 1 from rfl) rfl rfl rfl N6.out ES6.out (by omega) (by simp) (by simp; omega) ?_; intro v' w7 h1 h2 h3; obtain ⟨g', cap', rfl⟩ := ownsRow_succ h1; obtain ⟨hN7, hB7⟩ := HN.out.app K6.out hs h1 h2 h3 EI6.out (show ts.length ≤ tc2 by rw [hn5.out]; exact htc2); have N7 := Lib.hid hN7; have B7 := Lib.hid hB7; have F7 := Lib.hid (HF.out.keep hB7 (by omega) hgo); obtain ⟨z0, z1, z2, z3, z4, z5, z6, z7, z8, z9⟩ := ouB_cell F7.out.o; have zf := ouB_free F7.out.o 9; have zg := F7.out.z; clear h1 h2 h3 hN7 hB7)
           go_roundw
           case rel => exact ⟨j + 1, _, ls ++ [⟨⟨100 * i0 + j, g0, x0, u.x.op, ts⟩, tA2, tc2⟩], by omega, by go_num, by rw [List.map_append, HX.out, HU.out]; rfl, N7.out.set (by omega), by have := B7.out.size; simp; omega, F7.out.set hgo (ouB_set9 _ F7.out.o), (HFx.out.below B7.out (Nat.le_refl _)).set (by omega)⟩
           case measure => simp [intOf]; omega
        ·
         have d1 : decide ((j : Int) < m4) = false := by simp; omega
         rw [d1]
         clear d1
         have hjm : j = m4 := by omega
         rw [hjm] at HX
         clear hjm
         obtain ⟨dA', dc', hv, hdc, -, -⟩ := HN.out.own.es
         obtain ⟨nd, hnd⟩ : ∃ n, ls.length = n := ⟨_, rfl⟩
         rw [hnd] at hv hdc
         subst hv
         replace hnd := Lib.hid hnd
         have OD4 := HN
         have OV4 := Lib.hid (OV3.out.fx HFx.out (by omega) (Nat.le_refl _))
         have OT4 := Lib.hid (OT3.out.fx HFx.out (by omega) (by omega))
         have OP4 := Lib.hid (OP3.out.fx HFx.out (by omega) (by omega))
         have XD := HX
         obtain ⟨r0, r1, r2, r3, r4, r5, r6, r7, r8, r9⟩ := ouB_cell HF.out.r
         have hrz : w.heap.size + 1 < wc.heap.size := by omega
         have rf0 := ouB_free HF.out.r 0
         have rf1 := ouB_free HF.out.r 1
         have rf2 := ouB_free HF.out.r 2
         have rf3 := ouB_free HF.out.r 3
         have rf4 := ouB_free HF.out.r 4
         have rf5 := ouB_free HF.out.r 5
         have rf6 := ouB_free HF.out.r 6
         have rf7 := ouB_free HF.out.r 7
         have rf8 := ouB_free HF.out.r 8
         have rf9 := ouB_free HF.out.r 9
         clear s0 s1 s2 s3 s4 s5 s6 s7 s8 s9 hll hj HN HX HFx OV3 OT3 OP3
         go_wp2_with fail
         obtain ⟨hR, hfx, hbl⟩ := ou_store (W := oW) (H := oH) (k := ok) (.slice vA' nv vc') (.slice tA' nt tc') (.slice pA' np pc') (.slice dA' nd dc') HF.out.r
         have hB := hbl w.heap.size w (by omega) HF.out.b
         have hX := hfx (go + 1) wc.heap.size (by omega)
         have hYs : (((((((((((wc.setCell ⟨w.heap.size + 1, 0, none⟩ (.int .i64 oW)).setCell ⟨w.heap.size + 1, 1, none⟩ (.int .i64 oH)).setCell ⟨w.heap.size + 1, 2, none⟩ (.int .u8 ok.r)).setCell ⟨w.heap.size + 1, 3, none⟩ (.int .u8 ok.g)).setCell ⟨w.heap.size + 1, 4, none⟩ (.int .u8 ok.b)).setCell ⟨w.heap.size + 1, 5, none⟩ (.int .u8 ok.a)).setCell ⟨w.heap.size + 1, 6, none⟩ (.slice vA' nv vc')).setCell ⟨w.heap.size + 1, 7, none⟩ (.slice tA' nt tc')).setCell ⟨w.heap.size + 1, 8, none⟩ (.slice pA' np pc')).setCell ⟨w.heap.size + 1, 9, none⟩ (.slice dA' nd dc'))).heap.size = wc.heap.size := by simp
         clear hfx hbl r0 r1 r2 r3 r4 r5 r6 r7 r8 r9 rf0 rf1 rf2 rf3 rf4 rf5 rf6 rf7 rf8 rf9
         generalize ((((((((((wc.setCell ⟨w.heap.size + 1, 0, none⟩ (.int .i64 oW)).setCell ⟨w.heap.size + 1, 1, none⟩ (.int .i64 oH)).setCell ⟨w.heap.size + 1, 2, none⟩ (.int .u8 ok.r)).setCell ⟨w.heap.size + 1, 3, none⟩ (.int .u8 ok.g)).setCell ⟨w.heap.size + 1, 4, none⟩ (.int .u8 ok.b)).setCell ⟨w.heap.size + 1, 5, none⟩ (.int .u8 ok.a)).setCell ⟨w.heap.size + 1, 6, none⟩ (.slice vA' nv vc')).setCell ⟨w.heap.size + 1, 7, none⟩ (.slice tA' nt tc')).setCell ⟨w.heap.size + 1, 8, none⟩ (.slice pA' np pc')).setCell ⟨w.heap.size + 1, 9, none⟩ (.slice dA' nd dc')) = Y at *
         obtain ⟨z0, z1, z2, z3, z4, z5, z6, z7, z8, z9⟩ := ouB_cell hR
         refine bodyPost_ret (v := .agg #[.int .i64 oW, .int .i64 oH, .int .u8 ok.r, .int .u8 ok.g, .int .u8 ok.b, .int .u8 ok.a, .slice vA' nv vc', .slice tA' nt tc', .slice pA' np pc', .slice dA' nd dc']) (by simp [results, Try.results11, go_sem, z0, z1, z2, z3, z4, z5, z6, z7, z8, z9]) rfl ?_
         have YD := (OD4.out.fx hX (by omega) (Nat.le_refl _)).lid
         have YP := OP4.out.fx hX (by omega) (by omega)
         have YT := OT4.out.fx hX (by omega) (by omega)
         have YV := OV4.out.fx hX (by omega) (Nat.le_refl _)
         have E1 : lsv = fitVs s.p verts := by
          rw [XV.out, take_cut (l := s.vs) (k := verts) (m := m1) (by rw [hn1.out]; exact hm1)]
          rfl
         have E2 : lst.map Lo.x = fitTs s.p := by
          rw [XT.out, take_cut (l := s.ts.map Lo.x) (k := 2) (m := m2) (by rw [List.length_map, hn2.out]; exact hm2)]
          rfl
         have T0 : (fitTs s.p).length = nt := by rw [← E2, List.length_map, hnt.out]
         have E3 : lsp.map Lo.x = fitPr s.p := by
          have hb : decide (nt = 0) = bb := by
           rw [← hbb.out]
           by_cases h : nt = 0 <;> simp [h]
          rw [XP.out, take_cut (l := s.ps.map Lo.x) (k := 3) (m := m3) (by rw [List.length_map, hn3.out]; exact hm3)]
          unfold fitPr
          rw [T0, hb]
          rfl
         have V0 : (fitVs s.p verts).length = nv := by rw [← E1, hnv.out]
         have P0 : (fitPr s.p).length = np := by rw [← E3, List.length_map, hnp.out]
         have E4 : ls.map Lo.x = (s.p.ds.take draws).mapIdx (fitDr nv nt np tris) := by
          rw [XD.out, take_cut (l := s.ds.map Lo.x) (k := draws) (m := m4) (by rw [List.length_map, hn4.out]; exact hm4)]
          rfl
         obtain ⟨⟨ew, eh⟩, ek⟩ := EWH.out
         refine ⟨⟨oW, oH, ok, lsv, vA', vc', lst, tA', tc', lsp, pA', pc', ls, dA', dc'⟩, X1.heap.size, X2.heap.size, X3.heap.size, ?_, ?_, by omega, by omega, by omega, by omega, ?_, ?_, ?_, ?_, ?_, hB⟩
         ·
          dsimp only
          rw [hnv.out, hnt.out, hnp.out, hnd.out]
         ·
          show PS.mk oW oH ok lsv (lst.map Lo.x) (lsp.map Lo.x) (ls.map Lo.x) = fitS s.p most verts draws tris
          unfold fitS
          rw [E1, E2, E3, E4, V0, T0, P0, ← ew, ← eh, ← ek]
          rfl
         ·
          dsimp only
          rw [hnv.out]
          exact YV.less (by omega)
         ·
          dsimp only
          rw [hnv.out]
          exact OVb.out
         ·
          dsimp only
          rw [hnt.out]
          exact YT
         ·
          dsimp only
          rw [hnp.out]
          exact YP
         ·
          dsimp only
          rw [hnd.out]
          exact YD
end Go.Proofs.Ytfmmfaeognoleaa
