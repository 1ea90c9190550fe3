/-
  ClipTurns' walk.
-/
import Derived.Test.YtfheipejbdfjbaaTurnQ
import Derived.Test.YtfheipejbdfjbaaFewW
namespace Go.Proofs.Ytfheipejbdfjbaa
open Go.RowKit
attribute [local go_sem ↓] Go.wp_at_zero Go.wp_at_succ

set_option maxRecDepth 100000 in
set_option maxHeartbeats 4000000 in
theorem turns_walk (A : Option Addr) (c : Nat) (xs : List V) (nb mb : Int) (w : World) (hxs : Vs w w.heap.size A xs) (hb0 : 0 ≤ nb) (hb1 : nb ≤ 255) (hm0 : 0 ≤ mb) (hm1 : mb ≤ 255) :
    Calls Try.prog 6 #[.slice A xs.length c, .int .u8 nb, .int .u8 mb] w fun e w' => e = .returned (.bool true) ∧ Below w.heap.size w w' := by
  have HX := Lib.hid hxs
  have HS := Lib.hid (shown_any w)
  clear hxs
  generalize hn : xs.length = n
  have HN := Lib.hid hn
  clear hn
  obtain ⟨p, hp⟩ : ∃ m, nb.tmod 5 = m := ⟨_, rfl⟩
  go_enter Try.func6, Try.ntmps6
  go_wp2_with fail
  with_reducible refine (HS.out).mono ?_
  rintro e w1 ⟨rfl, hb⟩
  have H1 := Lib.hid hb
  have FT := Lib.hid (HN.out ▸ fit_l A c xs _ w1 (HX.out.below hb))
  clear hb
  have HL := Lib.hid (fit_ok (xs.take 8))
  have hll : ((xs.take 8).map fitV).length ≤ 8 := by simp; omega
  generalize (xs.take 8).map fitV = L at FT HL hll
  go_wp2_with fail
  with_reducible refine (FT.out).mono ?_
  rintro e w2 ⟨v, rfl, ho, hb⟩
  have H2 := Lib.hid (bstep H1.out H1.out.size hb)
  have O2 := Lib.hid ho
  clear hb ho
  by_cases hne : L = []
  · subst hne
    obtain ⟨A2, c2, rfl, -, -, hv⟩ := O2.out.vs
    have BY := Lib.hid (show Calls Try.prog 12 #[.int .i64 p, .slice A2 0 c2] w2 (MadeV w2.heap.size w2 []) from by_any p A2 c2 [] _ w2 hv (Nat.le_refl _) (by simp) (fun v h => by cases h))
    clear hv O2
    rw [show ([] : List V).length = 0 from rfl]
    go_wp2_with fail
    with_reducible refine (BY.out).mono ?_
    rintro e w3 ⟨v, rfl, ho, hb⟩
    have H3 := Lib.hid (bstep H2.out H2.out.size hb)
    obtain ⟨A3, c3, rfl, -, -, -⟩ := ho.vs
    rw [show ([] : List V).length = 0 from rfl]
    clear hb ho
    go_wp2
    go_ret
    exact ⟨rfl, H3.out⟩
  · obtain ⟨g, c2, rfl, hg, hcell⟩ := O2.out.at0 hne
    obtain ⟨A2', c2', e2, hcap, hcm, hv⟩ := O2.out.vs
    obtain ⟨rfl, rfl⟩ : some (⟨g, 0, none⟩ : Addr) = A2' ∧ c2 = c2' := by simpa using e2
    have V2 := Lib.hid hv
    clear e2 hcell hv
    have hpos : 0 < L.length := by
      rcases Nat.eq_zero_or_pos L.length with h | h
      · exact absurd (List.eq_nil_of_length_eq_zero h) hne
      · exact h
    obtain ⟨kk, hkk⟩ : ∃ kk : Nat, mb.tmod (L.length : Int) = (kk : Int) := Int.eq_ofNat_of_zero_le (Int.tmod_nonneg _ hm0)
    have hkl : kk < L.length := by
      have := Int.tmod_lt_of_pos mb (b := (L.length : Int)) (by omega)
      omega
    have TF := Lib.hid (turn_from (p := p) hkl)
    have HRL := Lib.hid (rot_length (k := kk) (l := L))
    have HR := Lib.hid (show L.drop kk ++ L.take kk = rot kk L from rfl)
    have HRO := Lib.hid (rot_ok (k := kk) HL.out)
    have HDL := Lib.hid (show (L.drop kk).length = L.length - kk from List.length_drop)
    have HTL := Lib.hid (show (L.take kk).length = kk by rw [List.length_take]; omega)
    have VL := Lib.hid (show Vs w2 w2.heap.size (some ⟨g, kk * 8, none⟩) (L.drop kk) by have h := V2.out.cutLow (k := kk); rwa [Nat.zero_add] at h)
    have VH := Lib.hid (V2.out.take kk)
    clear hne
    generalize hln : L.length = ln at *
    have cl := fun w => cut_low (g := g) (n := ln) (c := c2) (k := kk) (by omega) (by omega) w
    have ch := fun w => cut_high (g := g) (n := ln) (c := c2) (k := kk) (by omega) w
    have bl : ((ln : Int) == 0) = false := by simp; omega
    have HLN := Lib.hid hln
    clear hln
    go_wp2_with fail
    refine wp_region_held_drew (S := fun _ => True) (by kernel_rfl) trivial (fun hS => ?_)
    change wpAnyH _ _ _ _ _ 10 #[false, false, false, false, false, false, false, false, false, false] _ _
    have BX := Lib.hid (show Below w2.heap.size w2 w2.drew from (Below.refl _ _).drew)
    generalize w2.drew = X at BX ⊢
    have hzX := BX.out.size
    refine wpAnyH_take (i := 1) (v := (.slice (some ⟨g, 0, none⟩) ln c2)) rfl (by kernel_rfl) (by kernel_rfl) (by kernel_rfl) (fun _ _ _ h => h) (Or.inl ⟨by rfl, fun w hw => by go_simp⟩) hS ?_
    simp only [Act.put, List.setIfInBounds_toArray, List.set_cons_zero, List.set_cons_succ, List.getElem_toArray, List.getElem_cons_zero, List.getElem_cons_succ]
    refine wpAnyH_take (i := 2) (v := (.int .i64 (kk : Int))) rfl (by kernel_rfl) (by kernel_rfl) (by kernel_rfl) (fun _ _ _ h => h) (Or.inl ⟨by rfl, fun w hw => by go_simp⟩) hS ?_
    simp only [Act.put, List.setIfInBounds_toArray, List.set_cons_zero, List.set_cons_succ, List.getElem_toArray, List.getElem_cons_zero, List.getElem_cons_succ]
    refine wpAnyH_take (i := 3) (v := (.slice (some ⟨g, kk * 8, none⟩) (ln - kk) (c2 - kk))) rfl (by kernel_rfl) (by kernel_rfl) (by kernel_rfl) (fun _ _ _ h => h) (Or.inl ⟨by rfl, fun w hw => by go_simp⟩) hS ?_
    simp only [Act.put, List.setIfInBounds_toArray, List.set_cons_zero, List.set_cons_succ, List.getElem_toArray, List.getElem_cons_zero, List.getElem_cons_succ]
    refine wpAnyH_take (i := 5) (v := (.slice (some ⟨g, 0, none⟩) ln c2)) rfl (by kernel_rfl) (by kernel_rfl) (by kernel_rfl) (fun _ _ _ h => h) (Or.inl ⟨by rfl, fun w hw => by go_simp⟩) hS ?_
    simp only [Act.put, List.setIfInBounds_toArray, List.set_cons_zero, List.set_cons_succ, List.getElem_toArray, List.getElem_cons_zero, List.getElem_cons_succ]
    refine wpAnyH_take (i := 6) (v := (.int .i64 (kk : Int))) rfl (by kernel_rfl) (by kernel_rfl) (by kernel_rfl) (fun _ _ _ h => h) (Or.inl ⟨by rfl, fun w hw => by go_simp⟩) hS ?_
    simp only [Act.put, List.setIfInBounds_toArray, List.set_cons_zero, List.set_cons_succ, List.getElem_toArray, List.getElem_cons_zero, List.getElem_cons_succ]
    refine wpAnyH_take (i := 7) (v := (.slice (some ⟨g, 0, none⟩) kk c2)) rfl (by kernel_rfl) (by kernel_rfl) (by kernel_rfl) (fun _ _ _ h => h) (Or.inl ⟨by rfl, fun w hw => by go_simp⟩) hS ?_
    simp only [Act.put, List.setIfInBounds_toArray, List.set_cons_zero, List.set_cons_succ, List.getElem_toArray, List.getElem_cons_zero, List.getElem_cons_succ]
    refine wpAnyH_ready (rs := [0]) (by kernel_rfl) (by simp) ?_
    refine AllReadyH.cons rfl (fun K hK => ?_) AllReadyH.nil
    go_simp
    refine hK.out _ _ trivial (fun hS => ?_)
    clear hK K
    simp only [List.setIfInBounds_toArray, List.set_cons_zero]
    refine wpAnyH_ready (rs := [4]) (by kernel_rfl) (by simp) ?_
    refine AllReadyH.cons rfl (fun K hK => ?_) AllReadyH.nil
    rw [if_pos (by rfl)]
    refine wp_append_verts (.tmp 38) (.tmp 41) rfl X.heap.size w2.heap.size (ln - kk) (c2 - kk) _ _ [] (L.drop kk) rfl rfl HDL.out (ownV_empty _ _ (Nat.le_refl _)) ((VL.out.below BX.out).below ((Below.refl _ _).alloc hzX _)) (by rw [HDL.out]; simp; omega) (by simp) ?_
    intro vA wA ho hg
    have OA := Lib.hid ho
    have BA := Lib.hid (below_grownV ((Below.refl _ _).alloc (Nat.le_refl _) _) (ownV_empty _ _ (Nat.le_refl _)) (by simp) hg)
    clear ho hg
    refine hK.out _ _ trivial (fun hS => ?_)
    clear hK K
    simp only [Act.put, List.setIfInBounds_toArray, List.set_cons_zero, List.set_cons_succ, List.getElem_toArray, List.getElem_cons_zero, List.getElem_cons_succ]
    refine wpAnyH_ready (rs := [8]) (by kernel_rfl) (by simp) ?_
    refine AllReadyH.cons rfl (fun K hK => ?_) AllReadyH.nil
    rw [if_pos (by rfl)]
    refine wp_append_verts (.tmp 42) (.tmp 45) rfl X.heap.size w2.heap.size kk c2 _ _ ([] ++ L.drop kk) (L.take kk) rfl rfl HTL.out OA.out ((VH.out.below BX.out).below (BA.out.mono hzX)) (by rw [List.nil_append, HDL.out, HTL.out]; omega) BA.out.size ?_
    intro vB wB ho hg
    have OB := Lib.hid (show OwnV wB X.heap.size vB (L.drop kk ++ L.take kk) by simpa using ho)
    have BB := Lib.hid (below_grownV BA.out OA.out BA.out.size hg)
    clear ho hg
    refine hK.out _ _ trivial (fun hS => ?_)
    clear hK K
    simp only [Act.put, List.setIfInBounds_toArray, List.set_cons_zero, List.set_cons_succ, List.getElem_toArray, List.getElem_cons_zero, List.getElem_cons_succ]
    refine wpAnyH_ready (rs := [9]) (by kernel_rfl) (by simp) ?_
    refine AllReadyH.cons rfl (fun K hK => ?_) AllReadyH.nil
    go_simp
    refine hK.out _ _ trivial (fun hS => ?_)
    clear hK K
    simp only [List.setIfInBounds_toArray, List.set_cons_zero, List.set_cons_succ]
    refine wpAnyH_done (by kernel_rfl) ?_ _
    rw [HR.out] at OB
    obtain ⟨AB, cB, rfl, -, -, hvB⟩ := OB.out.vs
    have B2B := Lib.hid (bstep BX.out BX.out.size BB.out)
    have HB := Lib.hid (bstep H2.out H2.out.size B2B.out)
    have VB := Lib.hid hvB
    rw [HRL.out]
    have BY := Lib.hid (HLN.out ▸ by_any p (some ⟨g, 0, none⟩) c2 L _ wB (V2.out.below B2B.out) B2B.out.size (by rw [HLN.out]; omega) (ok_sm HL.out))
    clear hvB OB OA BA BB BX VL VH HDL HTL V2 O2 H2 FT HS HX cl ch hS
    have BYT := Lib.hid (fun w' (h : Below wB.heap.size wB w') => HRL.out ▸ by_any p AB cB (rot kk L) _ w' (VB.out.below h) h.size (by rw [HRL.out]; omega) (ok_sm HRO.out))
    obtain ⟨tf1, tf2⟩ := TF.out
    have HT2 := Lib.hid tf2
    have hal := byV_len2 p L
    rw [HLN.out] at hal
    clear TF tf2
    generalize byV p L = aL at BY HT2 tf1 hal
    generalize byV p (rot kk L) = bL at BYT HT2 tf1
    go_wp2_with fail
    with_reducible refine (BY.out).mono ?_
    rintro e w3 ⟨v, rfl, ho, hb⟩
    have B3 := Lib.hid hb
    have O3 := Lib.hid ho
    clear hb ho
    obtain ⟨A3, c3, rfl, hc3, hcm3, hv3⟩ := O3.out.vs
    have V3 := Lib.hid hv3
    clear hv3
    go_wp2_with fail
    with_reducible refine (BYT.out _ B3.out).mono ?_
    rintro e w4 ⟨v, rfl, ho, hb⟩
    have B4 := Lib.hid hb
    have H4 := Lib.hid (bstep HB.out HB.out.size (bstep B3.out B3.out.size hb))
    obtain ⟨A4, c4, rfl, -, -, hv4⟩ := ho.vs
    have V4 := Lib.hid hv4
    have V34 := Lib.hid (V3.out.grow hb)
    have hz34 := hb.size
    clear hb ho hv4 V3
    rw [tf1]
    generalize hla : aL.length = la at *
    by_cases hl0 : la = 0
    · have bl2 : ((la : Int) == 0) = true := by simp; omega
      subst hl0
      go_wp2
      go_ret
      exact ⟨rfl, H4.out⟩
    · have bl2 : ((la : Int) == 0) = false := by simp; omega
      have HLA := Lib.hid hla
      obtain ⟨F, hF, hFr⟩ := HT2.out (by rintro rfl; simp at hla; omega)
      obtain ⟨g3, rfl⟩ : ∃ g3, A3 = some ⟨g3, 0, none⟩ := by
        obtain ⟨g3, c3', e3, -, -⟩ := O3.out.at0 (by rintro rfl; simp at hla; omega)
        have : A3 = some ⟨g3, 0, none⟩ := by injection e3
        exact ⟨g3, this⟩
      have HF := Lib.hid hFr
      clear hla hFr HT2
      go_wp2
      go_loopw [14] (fun i wr => ∃ j : Nat, j ≤ F ∧ i = .int .i64 j ∧ Below w4.heap.size w4 wr) (fun i _ => la - (intOf i).toNat)
      case atStart => exact ⟨0, by omega, rfl, Below.refl _ _⟩
      case round =>
        obtain ⟨j, hj, rfl, hbel⟩ := hrel
        have HBE := Lib.hid hbel
        have hzr := hbel.size
        clear hbel
        have V3r := V34.out.below (HBE.out.mono hz34)
        have VLj := Lib.hid (show Vs wr wr.heap.size (some ⟨g3, j * 8, none⟩) (aL.drop j) by have h := V3r.sharp.cutLow (k := j); rwa [Nat.zero_add] at h)
        have VHj := Lib.hid (V3r.sharp.take j)
        have HDLj := Lib.hid (show (aL.drop j).length = la - j by rw [List.length_drop, HLA.out])
        have HTLj := Lib.hid (show (aL.take j).length = j by rw [List.length_take, HLA.out]; omega)
        have clj := fun w => cut_low (g := g3) (n := la) (c := c3) (k := j) (by omega) (by omega) w
        have chj := fun w => cut_high (g := g3) (n := la) (c := c3) (k := j) (by omega) w
        clear V3r
        go_wp2_with fail
        refine wp_region_held_drew (S := fun _ => True) (by kernel_rfl) trivial (fun hS => ?_)
        change wpAnyH _ _ _ _ _ 12 #[false, false, false, false, false, false, false, false, false, false, false, false] _ _
        have BX := Lib.hid (show Below wr.heap.size wr wr.drew from (Below.refl _ _).drew)
        generalize wr.drew = X at BX ⊢
        have hzX := BX.out.size
        refine wpAnyH_take (i := 1) (v := (.slice (some ⟨g3, 0, none⟩) la c3)) rfl (by kernel_rfl) (by kernel_rfl) (by kernel_rfl) (fun _ _ _ h => h) (Or.inl ⟨by rfl, fun w hw => by go_simp⟩) hS ?_
        simp only [Act.put, List.setIfInBounds_toArray, List.set_cons_zero, List.set_cons_succ, List.getElem_toArray, List.getElem_cons_zero, List.getElem_cons_succ]
        refine wpAnyH_take (i := 2) (v := (.int .i64 (j : Int))) rfl (by kernel_rfl) (by kernel_rfl) (by kernel_rfl) (fun _ _ _ h => h) (Or.inl ⟨by rfl, fun w hw => by go_simp⟩) hS ?_
        simp only [Act.put, List.setIfInBounds_toArray, List.set_cons_zero, List.set_cons_succ, List.getElem_toArray, List.getElem_cons_zero, List.getElem_cons_succ]
        refine wpAnyH_take (i := 3) (v := (.slice (some ⟨g3, j * 8, none⟩) (la - j) (c3 - j))) rfl (by kernel_rfl) (by kernel_rfl) (by kernel_rfl) (fun _ _ _ h => h) (Or.inl ⟨by rfl, fun w hw => by go_simp⟩) hS ?_
        simp only [Act.put, List.setIfInBounds_toArray, List.set_cons_zero, List.set_cons_succ, List.getElem_toArray, List.getElem_cons_zero, List.getElem_cons_succ]
        refine wpAnyH_take (i := 5) (v := (.slice (some ⟨g3, 0, none⟩) la c3)) rfl (by kernel_rfl) (by kernel_rfl) (by kernel_rfl) (fun _ _ _ h => h) (Or.inl ⟨by rfl, fun w hw => by go_simp⟩) hS ?_
        simp only [Act.put, List.setIfInBounds_toArray, List.set_cons_zero, List.set_cons_succ, List.getElem_toArray, List.getElem_cons_zero, List.getElem_cons_succ]
        refine wpAnyH_take (i := 6) (v := (.int .i64 (j : Int))) rfl (by kernel_rfl) (by kernel_rfl) (by kernel_rfl) (fun _ _ _ h => h) (Or.inl ⟨by rfl, fun w hw => by go_simp⟩) hS ?_
        simp only [Act.put, List.setIfInBounds_toArray, List.set_cons_zero, List.set_cons_succ, List.getElem_toArray, List.getElem_cons_zero, List.getElem_cons_succ]
        refine wpAnyH_take (i := 7) (v := (.slice (some ⟨g3, 0, none⟩) j c3)) rfl (by kernel_rfl) (by kernel_rfl) (by kernel_rfl) (fun _ _ _ h => h) (Or.inl ⟨by rfl, fun w hw => by go_simp⟩) hS ?_
        simp only [Act.put, List.setIfInBounds_toArray, List.set_cons_zero, List.set_cons_succ, List.getElem_toArray, List.getElem_cons_zero, List.getElem_cons_succ]
        refine wpAnyH_take (i := 9) (v := (.slice A4 la c4)) rfl (by kernel_rfl) (by kernel_rfl) (by kernel_rfl) (fun _ _ _ h => h) (Or.inl ⟨by rfl, fun w hw => by go_simp⟩) hS ?_
        simp only [Act.put, List.setIfInBounds_toArray, List.set_cons_zero, List.set_cons_succ, List.getElem_toArray, List.getElem_cons_zero, List.getElem_cons_succ]
        refine wpAnyH_ready (rs := [0]) (by kernel_rfl) (by simp) ?_
        refine AllReadyH.cons rfl (fun K hK => ?_) AllReadyH.nil
        go_simp
        refine hK.out _ _ trivial (fun hS => ?_)
        clear hK K
        simp only [List.setIfInBounds_toArray, List.set_cons_zero]
        refine wpAnyH_ready (rs := [4]) (by kernel_rfl) (by simp) ?_
        refine AllReadyH.cons rfl (fun K hK => ?_) AllReadyH.nil
        rw [if_pos (by rfl)]
        refine wp_append_verts (.tmp 68) (.tmp 71) rfl X.heap.size wr.heap.size (la - j) (c3 - j) _ _ [] (aL.drop j) rfl rfl HDLj.out (ownV_empty _ _ (Nat.le_refl _)) ((VLj.out.below BX.out).below ((Below.refl _ _).alloc hzX _)) (by rw [HDLj.out]; simp; omega) (by simp) ?_
        intro vA wA ho hg
        have OA := Lib.hid ho
        have BA := Lib.hid (below_grownV ((Below.refl _ _).alloc (Nat.le_refl _) _) (ownV_empty _ _ (Nat.le_refl _)) (by simp) hg)
        clear ho hg
        refine hK.out _ _ trivial (fun hS => ?_)
        clear hK K
        simp only [Act.put, List.setIfInBounds_toArray, List.set_cons_zero, List.set_cons_succ, List.getElem_toArray, List.getElem_cons_zero, List.getElem_cons_succ]
        refine wpAnyH_ready (rs := [8]) (by kernel_rfl) (by simp) ?_
        refine AllReadyH.cons rfl (fun K hK => ?_) AllReadyH.nil
        rw [if_pos (by rfl)]
        refine wp_append_verts (.tmp 72) (.tmp 75) rfl X.heap.size wr.heap.size j c3 _ _ ([] ++ aL.drop j) (aL.take j) rfl rfl HTLj.out OA.out ((VHj.out.below BX.out).below (BA.out.mono hzX)) (by rw [List.nil_append, HDLj.out, HTLj.out]; omega) BA.out.size ?_
        intro vB wB ho hg
        have OB := Lib.hid (show OwnV wB X.heap.size vB (aL.drop j ++ aL.take j) by simpa using ho)
        have BB := Lib.hid (below_grownV BA.out OA.out BA.out.size hg)
        clear ho hg
        refine hK.out _ _ trivial (fun hS => ?_)
        clear hK K
        simp only [Act.put, List.setIfInBounds_toArray, List.set_cons_zero, List.set_cons_succ, List.getElem_toArray, List.getElem_cons_zero, List.getElem_cons_succ]
        obtain ⟨AB2, cB2, rfl, -, -, hvB2⟩ := OB.out.vs
        have BXB := Lib.hid (bstep BX.out BX.out.size BB.out)
        have SM := Lib.hid (same_any AB2 A4 cB2 c4 (aL.drop j ++ aL.take j) bL _ _ wB hvB2 (V4.out.below ((bstep HBE.out HBE.out.size BXB.out))) (by rw [List.length_append, HDLj.out, HTLj.out]; omega) _ rfl)
        have hlen : (aL.drop j ++ aL.take j).length = la := by rw [List.length_append, HDLj.out, HTLj.out]; omega
        rw [hlen, tf1] at SM
        rw [hlen]
        clear hvB2 hlen OB OA BA
        generalize hq : decide (aL.drop j ++ aL.take j = bL) = q at SM
        have HQ := Lib.hid hq
        clear hq
        refine wpAnyH_ready (rs := [10]) (by kernel_rfl) (by simp) ?_
        refine AllReadyH.cons rfl (fun K hK => ?_) AllReadyH.nil
        go_simp
        with_reducible refine (SM.out).mono ?_
        rintro e w7 ⟨rfl, hb⟩
        have B7 := Lib.hid (bstep BXB.out BXB.out.size hb)
        clear hb
        refine hK.out _ _ trivial (fun hS => ?_)
        clear hK K
        simp only [List.setIfInBounds_toArray, List.set_cons_zero, List.set_cons_succ]
        refine wpAnyH_ready (rs := [11]) (by kernel_rfl) (by simp) ?_
        refine AllReadyH.cons rfl (fun K hK => ?_) AllReadyH.nil
        go_simp
        refine hK.out _ _ trivial (fun hS => ?_)
        clear hK K
        simp only [List.setIfInBounds_toArray, List.set_cons_zero, List.set_cons_succ]
        refine wpAnyH_done (by kernel_rfl) ?_ _
        cases q
        · go_wp2
          go_roundw
          case rel =>
            refine ⟨j + 1, ?_, by go_num, bstep HBE.out HBE.out.size B7.out⟩
            rcases Nat.lt_or_ge j F with h | h
            · omega
            · obtain rfl : j = F := by omega
              have h2 := HQ.out
              rw [show aL.drop j ++ aL.take j = rot j aL from rfl, HF.out] at h2
              simp at h2
          case measure => simp [intOf]; omega
        · go_wp2
          go_ret
          have h5 := bstep HBE.out HBE.out.size B7.out
          exact ⟨rfl, bstep H4.out H4.out.size h5⟩
end Go.Proofs.Ytfheipejbdfjbaa
