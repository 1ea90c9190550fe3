/-
  The contract of setup.Parts.
-/
import Derived.Test.YtfdlfjecgefgfaaPartP
import Derived.Test.YtfdlfjecgefgfaaCPoly
import Derived.Test.YtfdlfjecgefgfaaCPoints
namespace Go.Proofs.Ytfdlfjecgefgfaa
open Go.RowKit
attribute [local go_sem ↓] Go.wp_at_zero Go.wp_at_succ

set_option maxRecDepth 100000 in
set_option maxHeartbeats 4000000 in
theorem parts_any (m k : Int) (a b c : C.V) (ha : a.sm) (hb : b.sm) (hc : c.sm) (hsm : ∀ p ∈ C.pts m k (C.polyV [a, b, c]), p.sm) (hpl : (C.polyV [a, b, c]).length ≤ 1000) (hps : ∀ v ∈ C.polyV [a, b, c], v.sm) (w : World) :
    Calls Try.prog 10 #[.int .i64 m, .int .i64 k, .agg #[.int .i64 a.x, .int .i64 a.y, .int .i64 a.z, .int .i64 a.w, .int .i64 a.a, .int .i64 a.b, .int .i64 a.c, .int .i64 a.d, .int .i64 b.x, .int .i64 b.y, .int .i64 b.z, .int .i64 b.w, .int .i64 b.a, .int .i64 b.b, .int .i64 b.c, .int .i64 b.d, .int .i64 c.x, .int .i64 c.y, .int .i64 c.z, .int .i64 c.w, .int .i64 c.a, .int .i64 c.b, .int .i64 c.c, .int .i64 c.d]] w (MadeE EQ w.heap.size w (partsV (C.pts m k (C.polyV [a, b, c])))) := by
  obtain ⟨i0, hi, hz0, hz1, hz2⟩ := info_parts Try.info40
  have HI := Lib.hid hi
  have HZ := Lib.hid (And.intro hz0 (And.intro hz1 hz2))
  clear hi hz0 hz1 hz2
  have HPO := Lib.hid (show ∀ A c' B w, C.Vs w B A [a, b, c] → Calls Try.prog 25 #[.slice A 3 c'] w (C.MadeV w.heap.size w (C.polyV [a, b, c])) from fun A c' B w hs => C.poly_any A c' [a, b, c] B w hs (by simp) (by
    intro v hv
    simp only [List.mem_cons, List.not_mem_nil, or_false] at hv
    rcases hv with rfl | rfl | rfl
    · exact ha
    · exact hb
    · exact hc))
  have HPT := Lib.hid (fun A c' B w hs hB => C.points_any m k A c' (C.polyV [a, b, c]) B w hs hB hpl hps)
  have hpp : (C.pts m k (C.polyV [a, b, c])).length ≤ 1000 := by
    unfold C.pts
    split
    · rw [List.length_map]; exact hpl
    · simp
  clear ha hb hc hpl hps
  generalize C.okAll m k (C.polyV [a, b, c]) = okb at *
  generalize C.pts m k (C.polyV [a, b, c]) = L at *
  generalize C.polyV [a, b, c] = pv at *
  have HSM := Lib.hid hsm
  clear hsm
  go_enter Try.func10, Try.ntmps10
  go_wp2_with fail
  have K1 := Lib.hid (show Below w.heap.size w (w.alloc (.cells #[.int .i64 a.x, .int .i64 a.y, .int .i64 a.z, .int .i64 a.w, .int .i64 a.a, .int .i64 a.b, .int .i64 a.c, .int .i64 a.d, .int .i64 b.x, .int .i64 b.y, .int .i64 b.z, .int .i64 b.w, .int .i64 b.a, .int .i64 b.b, .int .i64 b.c, .int .i64 b.d, .int .i64 c.x, .int .i64 c.y, .int .i64 c.z, .int .i64 c.w, .int .i64 c.a, .int .i64 c.b, .int .i64 c.c, .int .i64 c.d] 26)) from (Below.refl _ _).alloc (Nat.le_refl _) _)
  with_reducible refine (HPO.out _ _ _ _ (v3B_vs (show (w.alloc (.cells #[.int .i64 a.x, .int .i64 a.y, .int .i64 a.z, .int .i64 a.w, .int .i64 a.a, .int .i64 a.b, .int .i64 a.c, .int .i64 a.d, .int .i64 b.x, .int .i64 b.y, .int .i64 b.z, .int .i64 b.w, .int .i64 b.a, .int .i64 b.b, .int .i64 b.c, .int .i64 b.d, .int .i64 c.x, .int .i64 c.y, .int .i64 c.z, .int .i64 c.w, .int .i64 c.a, .int .i64 c.b, .int .i64 c.c, .int .i64 c.d] 26)).heap[w.heap.size]? = some (v3B a b c) from new_at rfl))).mono ?_
  rintro e w2 ⟨v2, rfl, ho, hb⟩
  have K2 := Lib.hid (bstep K1.out K1.out.size hb)
  obtain ⟨A2, c2, rfl, -, -, vs2⟩ := ho.vs
  have V2 := Lib.hid vs2
  clear hb ho vs2
  generalize hpn : pv.length = pvn at *
  have HPN := Lib.hid hpn
  clear hpn
  go_wp2_with fail
  with_reducible refine (HPT.out _ _ _ _ V2.out (Nat.le_refl _)).mono ?_
  rintro e w3 ⟨v3, rfl, ho3, hb3⟩
  have K3 := Lib.hid (bstep K2.out K2.out.size hb3)
  obtain ⟨A3, c3, rfl, -, -, ps3⟩ := ho3.ps
  have PS := Lib.hid ps3
  clear hb3 ho3 ps3
  generalize hn : L.length = n at *
  have HN := Lib.hid hn
  clear hn
  go_wp2
  go_loopw [9, 10] (fun v i wr => ∃ j : Nat, 1 ≤ j ∧ (j + 1 ≤ n ∨ j = 1) ∧ i = .int .i64 j ∧ OwnE EQ wr w3.heap.size v (partsK L j) ∧ Below w3.heap.size w3 wr) (fun _ i _ => n - (intOf i).toNat)
  case atStart => exact ⟨1, by omega, by omega, rfl, OwnE.nil _ _, Below.refl _ _⟩
  case round =>
    obtain ⟨j, hj1, hjn, rfl, ho, hbel⟩ := hrel
    have HO := Lib.hid ho
    have HB3 := Lib.hid hbel
    clear ho hbel
    by_cases hlt : j + 1 < n
    · obtain ⟨b3, off3, rfl, hbB, hcell⟩ := PS.out.open (k := 0) (by rw [HN.out]; omega)
      obtain ⟨p0, g0, a0⟩ := hcell 0 (by rw [HN.out]; omega)
      obtain ⟨p1, g1, a1⟩ := hcell j (by rw [HN.out]; omega)
      obtain ⟨p2, g2, a2⟩ := hcell (j + 1) (by rw [HN.out]; omega)
      have R0 := Lib.hid (show wr.rangeAt b3 off3 [.int .i64 p0.x, .int .i64 p0.y, .int .i64 p0.z, .int .i64 p0.a, .int .i64 p0.b, .int .i64 p0.c, .int .i64 p0.d] by have h := at7_range (a0.below HB3.out hbB); rw [Nat.zero_mul, Nat.add_zero] at h; exact h)
      have R1 := Lib.hid (at7_range (a1.below HB3.out hbB))
      have R2 := Lib.hid (at7_range (a2.below HB3.out hbB))
      have hbz : b3 < wr.heap.size := by have := HB3.out.size; omega
      have HT := turned_any p0 p1 p2 (HSM.out _ (List.mem_of_getElem? g0)) (HSM.out _ (List.mem_of_getElem? g1)) (HSM.out _ (List.mem_of_getElem? g2))
      have hq := triQ_eq g0 g1 g2
      generalize tr1 p0 p1 p2 = d at *
      generalize tr2 p0 p1 p2 = e at *
      generalize tr3 p0 p1 p2 = f at *
      generalize trO p0 p1 p2 = o at *
      have HQ0 := Lib.hid (show o = false → triQ L j = [] from fun h => by rw [hq, h]; rfl)
      have HQ1 := Lib.hid (show o = true → triQ L j = [⟨(j : Int) - 1, d, e, f⟩] from fun h => by rw [hq, h]; rfl)
      replace HT := Lib.hid HT
      clear hq g0 g1 g2 a0 a1 a2 hcell
      have hn0 : (0 : Int) < (n : Int) := by omega
      have hn3 : ¬ n = 0 := by omega
      have hn4 : ¬ (j : Int) + 1 < 0 := by omega
      have hn1 : (j : Int) < (n : Int) := by omega
      have hn2 : (j : Int) + 1 < (n : Int) := by omega
      have wj1 : IntKind.i64.wrap ((j : Int) + 1) = (j : Int) + 1 := by rw [IntKind.wrap_i64]; omega
      go_wp2_with fail
      obtain ⟨Y0, hY0⟩ : ∃ Y0, Y0 = World.drew wr := ⟨_, rfl⟩
      have B0 := Lib.hid (show Below wr.heap.size wr Y0 by rw [hY0]; exact (Below.refl _ _).drew)
      refine wp_region_held_drew (S := fun w' => ∃ x : Grow wr, w' = x.w) (by kernel_rfl) ⟨⟨Y0, B0.out⟩, hY0.symm⟩ (fun hS => ?_)
      rw [← hY0] at hS ⊢
      clear hY0
      refine wpAnyH_take (i := 0) (v := (.slice (some ⟨b3, off3, none⟩) n c3)) rfl (by kernel_rfl) (by kernel_rfl) (by kernel_rfl) (fun _ _ _ h => h) (Or.inl ⟨by rfl, fun w hw => by obtain ⟨x, rfl⟩ := hw; go_simp⟩) hS ?_
      try simp only [Act.put, List.setIfInBounds_toArray, List.set_cons_zero, List.set_cons_succ, List.getElem_toArray, List.getElem_cons_zero]
      refine wpAnyH_take (i := 1) (v := (.pointer (some ⟨b3, off3, none⟩))) rfl (by kernel_rfl) (by kernel_rfl) (by kernel_rfl) (fun _ _ _ h => h) (Or.inl ⟨by rfl, fun w hw => by obtain ⟨x, rfl⟩ := hw; go_simp⟩) hS ?_
      try simp only [Act.put, List.setIfInBounds_toArray, List.set_cons_zero, List.set_cons_succ, List.getElem_toArray, List.getElem_cons_zero, List.getElem_cons_succ]
      refine wpAnyH_take (i := 2) (v := (.agg #[.int .i64 p0.x, .int .i64 p0.y, .int .i64 p0.z, .int .i64 p0.a, .int .i64 p0.b, .int .i64 p0.c, .int .i64 p0.d])) rfl (by kernel_rfl) (by kernel_rfl) (by kernel_rfl) (fun _ _ _ h => h) (yields_pnt (v := p0) _ rfl rfl rfl R0.out hbz) hS ?_
      try simp only [Act.put, List.setIfInBounds_toArray, List.set_cons_zero, List.set_cons_succ, List.getElem_toArray, List.getElem_cons_zero, List.getElem_cons_succ]
      refine wpAnyH_take (i := 3) (v := (.slice (some ⟨b3, off3, none⟩) n c3)) rfl (by kernel_rfl) (by kernel_rfl) (by kernel_rfl) (fun _ _ _ h => h) (Or.inl ⟨by rfl, fun w hw => by obtain ⟨x, rfl⟩ := hw; go_simp⟩) hS ?_
      try simp only [Act.put, List.setIfInBounds_toArray, List.set_cons_zero, List.set_cons_succ, List.getElem_toArray, List.getElem_cons_zero, List.getElem_cons_succ]
      refine wpAnyH_take (i := 4) (v := (.int .i64 (j : Int))) rfl (by kernel_rfl) (by kernel_rfl) (by kernel_rfl) (fun _ _ _ h => h) (Or.inl ⟨by rfl, fun w hw => by obtain ⟨x, rfl⟩ := hw; go_simp⟩) hS ?_
      try simp only [Act.put, List.setIfInBounds_toArray, List.set_cons_zero, List.set_cons_succ, List.getElem_toArray, List.getElem_cons_zero, List.getElem_cons_succ]
      refine wpAnyH_take (i := 5) (v := (.pointer (some ⟨b3, off3 + j * 7, none⟩))) rfl (by kernel_rfl) (by kernel_rfl) (by kernel_rfl) (fun _ _ _ h => h) (Or.inl ⟨by rfl, fun w hw => by obtain ⟨x, rfl⟩ := hw; go_simp⟩) hS ?_
      try simp only [Act.put, List.setIfInBounds_toArray, List.set_cons_zero, List.set_cons_succ, List.getElem_toArray, List.getElem_cons_zero, List.getElem_cons_succ]
      refine wpAnyH_take (i := 6) (v := (.agg #[.int .i64 p1.x, .int .i64 p1.y, .int .i64 p1.z, .int .i64 p1.a, .int .i64 p1.b, .int .i64 p1.c, .int .i64 p1.d])) rfl (by kernel_rfl) (by kernel_rfl) (by kernel_rfl) (fun _ _ _ h => h) (yields_pnt (v := p1) _ rfl rfl rfl R1.out hbz) hS ?_
      try simp only [Act.put, List.setIfInBounds_toArray, List.set_cons_zero, List.set_cons_succ, List.getElem_toArray, List.getElem_cons_zero, List.getElem_cons_succ]
      refine wpAnyH_take (i := 7) (v := (.slice (some ⟨b3, off3, none⟩) n c3)) rfl (by kernel_rfl) (by kernel_rfl) (by kernel_rfl) (fun _ _ _ h => h) (Or.inl ⟨by rfl, fun w hw => by obtain ⟨x, rfl⟩ := hw; go_simp⟩) hS ?_
      try simp only [Act.put, List.setIfInBounds_toArray, List.set_cons_zero, List.set_cons_succ, List.getElem_toArray, List.getElem_cons_zero, List.getElem_cons_succ]
      refine wpAnyH_take (i := 8) (v := (.int .i64 (j : Int))) rfl (by kernel_rfl) (by kernel_rfl) (by kernel_rfl) (fun _ _ _ h => h) (Or.inl ⟨by rfl, fun w hw => by obtain ⟨x, rfl⟩ := hw; go_simp⟩) hS ?_
      try simp only [Act.put, List.setIfInBounds_toArray, List.set_cons_zero, List.set_cons_succ, List.getElem_toArray, List.getElem_cons_zero, List.getElem_cons_succ]
      refine wpAnyH_take (i := 9) (v := (.int .i64 ((j : Int) + 1))) rfl (by kernel_rfl) (by kernel_rfl) (by kernel_rfl) (fun _ _ _ h => h) (Or.inl ⟨by rfl, fun w hw => by obtain ⟨x, rfl⟩ := hw; go_simp⟩) hS ?_
      try simp only [Act.put, List.setIfInBounds_toArray, List.set_cons_zero, List.set_cons_succ, List.getElem_toArray, List.getElem_cons_zero, List.getElem_cons_succ]
      refine wpAnyH_take (i := 10) (v := (.pointer (some ⟨b3, off3 + (j + 1) * 7, none⟩))) rfl (by kernel_rfl) (by kernel_rfl) (by kernel_rfl) (fun _ _ _ h => h) (Or.inl ⟨by rfl, fun w hw => by obtain ⟨x, rfl⟩ := hw; go_simp⟩) hS ?_
      try simp only [Act.put, List.setIfInBounds_toArray, List.set_cons_zero, List.set_cons_succ, List.getElem_toArray, List.getElem_cons_zero, List.getElem_cons_succ]
      refine wpAnyH_take (i := 11) (v := (.agg #[.int .i64 p2.x, .int .i64 p2.y, .int .i64 p2.z, .int .i64 p2.a, .int .i64 p2.b, .int .i64 p2.c, .int .i64 p2.d])) rfl (by kernel_rfl) (by kernel_rfl) (by kernel_rfl) (fun _ _ _ h => h) (yields_pnt (v := p2) _ rfl rfl rfl R2.out hbz) hS ?_
      try simp only [Act.put, List.setIfInBounds_toArray, List.set_cons_zero, List.set_cons_succ, List.getElem_toArray, List.getElem_cons_zero, List.getElem_cons_succ]
      refine wpAnyH_take (i := 12) (v := (.agg #[.int .i64 p0.x, .int .i64 p0.y, .int .i64 p0.z, .int .i64 p0.a, .int .i64 p0.b, .int .i64 p0.c, .int .i64 p0.d, .int .i64 p1.x, .int .i64 p1.y, .int .i64 p1.z, .int .i64 p1.a, .int .i64 p1.b, .int .i64 p1.c, .int .i64 p1.d, .int .i64 p2.x, .int .i64 p2.y, .int .i64 p2.z, .int .i64 p2.a, .int .i64 p2.b, .int .i64 p2.c, .int .i64 p2.d])) rfl (by kernel_rfl) (by kernel_rfl) (by kernel_rfl) (fun _ _ _ h => h) (yields_build 38 [(0, .tmp 31), (1, .tmp 35), (2, .tmp 40)] #[.int .i64 p0.x, .int .i64 p0.y, .int .i64 p0.z, .int .i64 p0.a, .int .i64 p0.b, .int .i64 p0.c, .int .i64 p0.d, .int .i64 p1.x, .int .i64 p1.y, .int .i64 p1.z, .int .i64 p1.a, .int .i64 p1.b, .int .i64 p1.c, .int .i64 p1.d, .int .i64 p2.x, .int .i64 p2.y, .int .i64 p2.z, .int .i64 p2.a, .int .i64 p2.b, .int .i64 p2.c, .int .i64 p2.d] rfl rfl (by kernel_rfl)) hS ?_
      try simp only [Act.put, List.setIfInBounds_toArray, List.set_cons_zero, List.set_cons_succ, List.getElem_toArray, List.getElem_cons_zero, List.getElem_cons_succ]
      refine wpAnyH_ready (rs := [13, 17]) (by kernel_rfl) (by simp) ?_
      refine AllReadyH.cons rfl (fun K hK => ?_) ?_
      · skip
        go_simp
        with_reducible refine (HT.out _).mono ?_
        rintro e t1 ⟨rfl, hb⟩
        have Bt1 := Lib.hid (bstep B0.out B0.out.size hb)
        clear hb
        refine hK.out _ _ ⟨⟨_, Bt1.out⟩, rfl⟩ (fun hS => ?_)
        clear hK K
        try simp only [Act.put, List.setIfInBounds_toArray, List.set_cons_zero, List.set_cons_succ, List.getElem_toArray, List.getElem_cons_zero, List.getElem_cons_succ]
        refine wpAnyH_take (i := 14) (v := (.tuple #[.agg #[.int .i64 d.x, .int .i64 d.y, .int .i64 d.z, .int .i64 d.a, .int .i64 d.b, .int .i64 d.c, .int .i64 d.d, .int .i64 e.x, .int .i64 e.y, .int .i64 e.z, .int .i64 e.a, .int .i64 e.b, .int .i64 e.c, .int .i64 e.d, .int .i64 f.x, .int .i64 f.y, .int .i64 f.z, .int .i64 f.a, .int .i64 f.b, .int .i64 f.c, .int .i64 f.d], .bool o])) rfl (by kernel_rfl) (by kernel_rfl) (by kernel_rfl) (fun _ _ _ h => h) (Or.inl ⟨by rfl, fun w hw => by obtain ⟨x, rfl⟩ := hw; go_simp⟩) hS ?_
        try simp only [Act.put, List.setIfInBounds_toArray, List.set_cons_zero, List.set_cons_succ, List.getElem_toArray, List.getElem_cons_zero, List.getElem_cons_succ]
        refine wpAnyH_take (i := 15) (v := (.agg #[.int .i64 d.x, .int .i64 d.y, .int .i64 d.z, .int .i64 d.a, .int .i64 d.b, .int .i64 d.c, .int .i64 d.d, .int .i64 e.x, .int .i64 e.y, .int .i64 e.z, .int .i64 e.a, .int .i64 e.b, .int .i64 e.c, .int .i64 e.d, .int .i64 f.x, .int .i64 f.y, .int .i64 f.z, .int .i64 f.a, .int .i64 f.b, .int .i64 f.c, .int .i64 f.d])) rfl (by kernel_rfl) (by kernel_rfl) (by kernel_rfl) (fun _ _ _ h => h) (Or.inl ⟨by rfl, fun w hw => by obtain ⟨x, rfl⟩ := hw; go_simp⟩) hS ?_
        try simp only [Act.put, List.setIfInBounds_toArray, List.set_cons_zero, List.set_cons_succ, List.getElem_toArray, List.getElem_cons_zero, List.getElem_cons_succ]
        refine wpAnyH_take (i := 16) (v := (.bool o)) rfl (by kernel_rfl) (by kernel_rfl) (by kernel_rfl) (fun _ _ _ h => h) (Or.inl ⟨by rfl, fun w hw => by obtain ⟨x, rfl⟩ := hw; go_simp⟩) hS ?_
        try simp only [Act.put, List.setIfInBounds_toArray, List.set_cons_zero, List.set_cons_succ, List.getElem_toArray, List.getElem_cons_zero, List.getElem_cons_succ]
        refine wpAnyH_ready (rs := [17]) (by kernel_rfl) (by simp) ?_
        refine AllReadyH.cons rfl (fun K hK => ?_) AllReadyH.nil
        rw [if_pos (by rfl)]
        refine opw_allocT rfl rfl ?_
        refine hK.out _ _ ⟨⟨_, Bt1.out.alloc Bt1.out.size _⟩, rfl⟩ (fun hS => ?_)
        clear hK K hS
        try simp only [Act.put, List.setIfInBounds_toArray, List.set_cons_zero, List.set_cons_succ]
        obtain ⟨t2, ht⟩ : ∃ t, t = t1.alloc (tB zP zP zP) := ⟨_, rfl⟩
        rw [← ht]
        have Bt2 := Lib.hid (show Below wr.heap.size wr t2 by rw [ht]; exact Bt1.out.alloc Bt1.out.size _)
        have Gt2 := Lib.hid (show t2.heap[t1.heap.size]? = some (tB zP zP zP) by rw [ht]; exact new_at rfl)
        have hge := Lib.hid (show wr.heap.size ≤ t1.heap.size from Bt1.out.size)
        clear ht
        have hS : (fun w' => ∃ x : Grow wr, w' = x.w) t2 := ⟨⟨_, Bt2.out⟩, rfl⟩
        obtain ⟨g, eg⟩ : ∃ g, g = t1.heap.size := ⟨_, rfl⟩
        rw [← eg] at Gt2 hge ⊢
        clear eg
        refine wpAnyH_ready (rs := [18]) (by kernel_rfl) (by simp) ?_
        refine AllReadyH.cons rfl (fun K hK => ?_) AllReadyH.nil
        rw [if_pos (by rfl)]
        refine opw_storeT (a := d) (b := e) (c := f) _ _ rfl rfl rfl rfl Gt2.out rfl (fun w5 P5 => ?_)
        have B5 := Lib.hid (P5.out.below _ _ Bt2.out hge.out)
        have T5 := Lib.hid P5.out.same
        clear P5
        refine hK.out _ _ ⟨⟨_, B5.out⟩, rfl⟩ (fun hS => ?_)
        clear hK K
        try simp only [Act.put, List.setIfInBounds_toArray, List.set_cons_zero, List.set_cons_succ, List.getElem_toArray, List.getElem_cons_zero, List.getElem_cons_succ]
        refine wpAnyH_ready (rs := [19]) (by kernel_rfl) (by simp) ?_
        refine AllReadyH.cons rfl (fun K hK => ?_) AllReadyH.nil
        go_simp
        refine hK.out _ _ ⟨⟨_, B5.out⟩, rfl⟩ (fun hS => ?_)
        clear hK K hS
        try simp only [Act.put, List.setIfInBounds_toArray, List.set_cons_zero, List.set_cons_succ, List.getElem_toArray, List.getElem_cons_zero, List.getElem_cons_succ]
        refine wpAnyH_done (by kernel_rfl) ?_ _
        have O5 := Lib.hid (HO.out.keep B5.out)
        have K5 := Lib.hid (bstep HB3.out HB3.out.size B5.out)
        have z5 := K5.out.size
        cases o
        · have ht : triQ L j = [] := HQ0.out rfl
          go_wp2
          go_roundw
          case rel => exact ⟨j + 1, by omega, by omega, by go_num, by rw [partsK_succ L hj1, ht, List.append_nil]; exact O5.out, K5.out⟩
          case measure => simp [intOf]; omega
        · have ht : triQ L j = [⟨(j : Int) - 1, d, e, f⟩] := HQ1.out rfl
          have HTQ := Lib.hid ht
          clear ht
          have wj : IntKind.i64.wrap ((j : Int) - 1) = (j : Int) - 1 := by rw [IntKind.wrap_i64]; omega
          obtain ⟨A5, c5, rfl⟩ := O5.out.form
          have pl := partsK_len L j
          generalize hpl : (partsK L j).length = pn at *
          have HPL := Lib.hid hpl
          clear hpl
          go_wp2_with (first | (refine wp_loadT (a := d) (b := e) (c := f) (.tmp 11) rfl rfl rfl T5.out ?_) | (refine wp_buildQ (a := d) (b := e) (c := f) (n := (j : Int) - 1) _ _ rfl rfl rfl rfl ?_) | (refine wp_bslQ (a := d) (b := e) (c := f) (n := (j : Int) - 1) _ rfl rfl rfl ?_) | (at_builtin; refine wpList_append_own _ rfl _ _ 30 rfl w3.heap.size 40 i0 _ 22 176 Try.underlying30 HI.out HZ.out.1 HZ.out.2.1 HZ.out.2.2 (by kernel_rfl) (by decide) _ _ (EQ.flat (partsK L j)) rfl (HPL.out ▸ (O5.out.alloc _).row) _ 1 1 (EQ.cells ⟨(j : Int) - 1, d, e, f⟩) rfl rfl (new_el (E := EQ) _ ⟨(j : Int) - 1, d, e, f⟩ _ rfl) (EQ.one _) (by unfold maxLen; omega) (by omega) (by simp; omega) ?_; intro v' w6 hown' hgrow _; obtain ⟨ho6, hb6⟩ := append_ofE (E := EQ) (x := ⟨(j : Int) - 1, d, e, f⟩) O5.out (by omega) (HPL.out.symm ▸ hown') hgrow; have O6 := Lib.hid ho6; have B6 := Lib.hid (K5.out.trans hb6); clear hown' hgrow ho6 hb6))
          go_roundw
          case rel =>
            refine ⟨j + 1, by omega, by omega, by go_num, ?_, B6.out⟩
            rw [partsK_succ L hj1, HTQ.out]
            exact O6.out
          case measure => simp [intOf]; omega
      refine AllReadyH.cons rfl (fun K hK => ?_) AllReadyH.nil
      · skip
        rw [if_pos (by rfl)]
        refine opw_allocT rfl rfl ?_
        refine hK.out _ _ ⟨⟨_, B0.out.alloc B0.out.size _⟩, rfl⟩ (fun hS => ?_)
        clear hK K hS
        try simp only [Act.put, List.setIfInBounds_toArray, List.set_cons_zero, List.set_cons_succ]
        obtain ⟨t1, ht⟩ : ∃ t, t = Y0.alloc (tB zP zP zP) := ⟨_, rfl⟩
        rw [← ht]
        have Bt1 := Lib.hid (show Below wr.heap.size wr t1 by rw [ht]; exact B0.out.alloc B0.out.size _)
        have Gt1 := Lib.hid (show t1.heap[Y0.heap.size]? = some (tB zP zP zP) by rw [ht]; exact new_at rfl)
        have hge := Lib.hid (show wr.heap.size ≤ Y0.heap.size from B0.out.size)
        clear ht
        have hS : (fun w' => ∃ x : Grow wr, w' = x.w) t1 := ⟨⟨_, Bt1.out⟩, rfl⟩
        obtain ⟨g, eg⟩ : ∃ g, g = Y0.heap.size := ⟨_, rfl⟩
        rw [← eg] at Gt1 hge ⊢
        clear eg
        refine wpAnyH_ready (rs := [13]) (by kernel_rfl) (by simp) ?_
        refine AllReadyH.cons rfl (fun K hK => ?_) AllReadyH.nil
        go_simp
        with_reducible refine (HT.out _).mono ?_
        rintro e t2 ⟨rfl, hb⟩
        have Bt2 := Lib.hid (bstep Bt1.out Bt1.out.size hb)
        have Gt2 := Lib.hid (tB_grow Gt1.out hb)
        clear hb
        refine hK.out _ _ ⟨⟨_, Bt2.out⟩, rfl⟩ (fun hS => ?_)
        clear hK K
        try simp only [Act.put, List.setIfInBounds_toArray, List.set_cons_zero, List.set_cons_succ, List.getElem_toArray, List.getElem_cons_zero, List.getElem_cons_succ]
        refine wpAnyH_take (i := 14) (v := (.tuple #[.agg #[.int .i64 d.x, .int .i64 d.y, .int .i64 d.z, .int .i64 d.a, .int .i64 d.b, .int .i64 d.c, .int .i64 d.d, .int .i64 e.x, .int .i64 e.y, .int .i64 e.z, .int .i64 e.a, .int .i64 e.b, .int .i64 e.c, .int .i64 e.d, .int .i64 f.x, .int .i64 f.y, .int .i64 f.z, .int .i64 f.a, .int .i64 f.b, .int .i64 f.c, .int .i64 f.d], .bool o])) rfl (by kernel_rfl) (by kernel_rfl) (by kernel_rfl) (fun _ _ _ h => h) (Or.inl ⟨by rfl, fun w hw => by obtain ⟨x, rfl⟩ := hw; go_simp⟩) hS ?_
        try simp only [Act.put, List.setIfInBounds_toArray, List.set_cons_zero, List.set_cons_succ, List.getElem_toArray, List.getElem_cons_zero, List.getElem_cons_succ]
        refine wpAnyH_take (i := 15) (v := (.agg #[.int .i64 d.x, .int .i64 d.y, .int .i64 d.z, .int .i64 d.a, .int .i64 d.b, .int .i64 d.c, .int .i64 d.d, .int .i64 e.x, .int .i64 e.y, .int .i64 e.z, .int .i64 e.a, .int .i64 e.b, .int .i64 e.c, .int .i64 e.d, .int .i64 f.x, .int .i64 f.y, .int .i64 f.z, .int .i64 f.a, .int .i64 f.b, .int .i64 f.c, .int .i64 f.d])) rfl (by kernel_rfl) (by kernel_rfl) (by kernel_rfl) (fun _ _ _ h => h) (Or.inl ⟨by rfl, fun w hw => by obtain ⟨x, rfl⟩ := hw; go_simp⟩) hS ?_
        try simp only [Act.put, List.setIfInBounds_toArray, List.set_cons_zero, List.set_cons_succ, List.getElem_toArray, List.getElem_cons_zero, List.getElem_cons_succ]
        refine wpAnyH_take (i := 16) (v := (.bool o)) rfl (by kernel_rfl) (by kernel_rfl) (by kernel_rfl) (fun _ _ _ h => h) (Or.inl ⟨by rfl, fun w hw => by obtain ⟨x, rfl⟩ := hw; go_simp⟩) hS ?_
        try simp only [Act.put, List.setIfInBounds_toArray, List.set_cons_zero, List.set_cons_succ, List.getElem_toArray, List.getElem_cons_zero, List.getElem_cons_succ]
        refine wpAnyH_ready (rs := [18]) (by kernel_rfl) (by simp) ?_
        refine AllReadyH.cons rfl (fun K hK => ?_) AllReadyH.nil
        rw [if_pos (by rfl)]
        refine opw_storeT (a := d) (b := e) (c := f) _ _ rfl rfl rfl rfl Gt2.out rfl (fun w5 P5 => ?_)
        have B5 := Lib.hid (P5.out.below _ _ Bt2.out hge.out)
        have T5 := Lib.hid P5.out.same
        clear P5
        refine hK.out _ _ ⟨⟨_, B5.out⟩, rfl⟩ (fun hS => ?_)
        clear hK K
        try simp only [Act.put, List.setIfInBounds_toArray, List.set_cons_zero, List.set_cons_succ, List.getElem_toArray, List.getElem_cons_zero, List.getElem_cons_succ]
        refine wpAnyH_ready (rs := [19]) (by kernel_rfl) (by simp) ?_
        refine AllReadyH.cons rfl (fun K hK => ?_) AllReadyH.nil
        go_simp
        refine hK.out _ _ ⟨⟨_, B5.out⟩, rfl⟩ (fun hS => ?_)
        clear hK K hS
        try simp only [Act.put, List.setIfInBounds_toArray, List.set_cons_zero, List.set_cons_succ, List.getElem_toArray, List.getElem_cons_zero, List.getElem_cons_succ]
        refine wpAnyH_done (by kernel_rfl) ?_ _
        have O5 := Lib.hid (HO.out.keep B5.out)
        have K5 := Lib.hid (bstep HB3.out HB3.out.size B5.out)
        have z5 := K5.out.size
        cases o
        · have ht : triQ L j = [] := HQ0.out rfl
          go_wp2
          go_roundw
          case rel => exact ⟨j + 1, by omega, by omega, by go_num, by rw [partsK_succ L hj1, ht, List.append_nil]; exact O5.out, K5.out⟩
          case measure => simp [intOf]; omega
        · have ht : triQ L j = [⟨(j : Int) - 1, d, e, f⟩] := HQ1.out rfl
          have HTQ := Lib.hid ht
          clear ht
          have wj : IntKind.i64.wrap ((j : Int) - 1) = (j : Int) - 1 := by rw [IntKind.wrap_i64]; omega
          obtain ⟨A5, c5, rfl⟩ := O5.out.form
          have pl := partsK_len L j
          generalize hpl : (partsK L j).length = pn at *
          have HPL := Lib.hid hpl
          clear hpl
          go_wp2_with (first | (refine wp_loadT (a := d) (b := e) (c := f) (.tmp 11) rfl rfl rfl T5.out ?_) | (refine wp_buildQ (a := d) (b := e) (c := f) (n := (j : Int) - 1) _ _ rfl rfl rfl rfl ?_) | (refine wp_bslQ (a := d) (b := e) (c := f) (n := (j : Int) - 1) _ rfl rfl rfl ?_) | (at_builtin; refine wpList_append_own _ rfl _ _ 30 rfl w3.heap.size 40 i0 _ 22 176 Try.underlying30 HI.out HZ.out.1 HZ.out.2.1 HZ.out.2.2 (by kernel_rfl) (by decide) _ _ (EQ.flat (partsK L j)) rfl (HPL.out ▸ (O5.out.alloc _).row) _ 1 1 (EQ.cells ⟨(j : Int) - 1, d, e, f⟩) rfl rfl (new_el (E := EQ) _ ⟨(j : Int) - 1, d, e, f⟩ _ rfl) (EQ.one _) (by unfold maxLen; omega) (by omega) (by simp; omega) ?_; intro v' w6 hown' hgrow _; obtain ⟨ho6, hb6⟩ := append_ofE (E := EQ) (x := ⟨(j : Int) - 1, d, e, f⟩) O5.out (by omega) (HPL.out.symm ▸ hown') hgrow; have O6 := Lib.hid ho6; have B6 := Lib.hid (K5.out.trans hb6); clear hown' hgrow ho6 hb6))
          go_roundw
          case rel =>
            refine ⟨j + 1, by omega, by omega, by go_num, ?_, B6.out⟩
            rw [partsK_succ L hj1, HTQ.out]
            exact O6.out
          case measure => simp [intOf]; omega
    · go_wp2
      go_ret
      refine ⟨_, rfl, ?_, bstep K3.out K3.out.size HB3.out⟩
      have e : partsV L = partsK L j := by
        unfold partsV
        rw [HN.out]
        rcases hjn with h | h
        · rw [show n - 1 = j by omega]
        · subst h
          rcases (show n = 0 ∨ n = 1 ∨ n = 2 by omega) with h | h | h <;> rw [h] <;> rfl
      rw [e]
      exact HO.out.less K3.out.size
end Go.Proofs.Ytfdlfjecgefgfaa
