/-
  The walk of glazierlaw11.TextureRight.
-/
import Derived.Test.YtbhailpnfohomaaPutC
import Derived.Test.YtbhailpnfohomaaTwoRows
import Derived.Deep.CutRange
import Derived.Deep.DeepCutAuto
namespace Go.Proofs.Ytbhailpnfohomaa
open Go.RowKit
attribute [local go_sem ↓] Go.wp_at_zero Go.wp_at_succ
attribute [local go_sem high] eqlC neqC
attribute [local go_sem] guardC sameC_self

set_option maxRecDepth 100000 in
set_option maxHeartbeats 4000000 in
theorem right_walk (t : Tx) (A : Option Addr) (c : Nat) (i j n : Int) (hw : I64 t.w) (hh : I64 t.h) (hc : t.px.length ≤ c) (hnil : A = none → t.px.length = 0) (hok : t.ok) (bi : 0 ≤ i ∧ i ≤ 255) (bj : 0 ≤ j ∧ j ≤ 255) (bn : 0 ≤ n ∧ n ≤ 65535) (w : World) (he : Es EC w w.heap.size A t.px) :
    Calls Try.prog 7 #[.agg #[.int .u8 i, .int .u8 j], .int .u16 n, .agg #[.int .i64 t.w, .int .i64 t.h, .slice A t.px.length c]] w fun e w' => e = .returned (.bool true) ∧ Below w.heap.size w w' := by
  obtain ⟨a, ha⟩ : ∃ a, i % 21 = a := ⟨_, rfl⟩
  obtain ⟨b, hb'⟩ : ∃ b, j % 21 = b := ⟨_, rfl⟩
  have a0 : 0 ≤ a ∧ a ≤ 20 := by omega
  have b0 : 0 ≤ b ∧ b ≤ 20 := by omega
  obtain ⟨nk, hnk⟩ : ∃ nk : Nat, n % 401 = (nk : Int) := ⟨(n % 401).toNat, by omega⟩
  have nk0 : nk ≤ 400 := by omega
  have ab0 := Int.mul_nonneg a0.1 b0.1
  have ab1 : a * b ≤ 400 := Int.le_trans (Int.mul_le_mul a0.2 b0.2 b0.1 (by decide)) (by decide)
  obtain ⟨nm, hnm⟩ : ∃ nm : Nat, a * b = (nm : Int) := ⟨(a * b).toNat, by omega⟩
  have nm0 : nm ≤ 400 := by omega
  have ta : i.tmod 21 = a := by rw [Int.tmod_eq_emod_of_nonneg bi.1]; exact ha
  have tb : j.tmod 21 = b := by rw [Int.tmod_eq_emod_of_nonneg bj.1]; exact hb'
  have tk : n.tmod 401 = (nk : Int) := by rw [Int.tmod_eq_emod_of_nonneg bn.1]; exact hnk
  have wm : IntKind.i64.wrap (a * b) = (nm : Int) := by rw [hnm, IntKind.wrap_i64]; omega
  have HNM := Lib.hid hnm
  obtain ⟨fine, hfine⟩ : ∃ f, decide (1 ≤ a ∧ a ≤ 16 ∧ 1 ≤ b ∧ b ≤ 16) = f := ⟨_, rfl⟩
  have HFI := Lib.hid hfine
  have RO := Lib.hid (show ∀ g W, Calls Try.prog 12 #[.agg #[.int .i64 a, .int .i64 b, .slice g nk nk]] W fun e w' => e = .returned (.bool (fine && decide ((nk : Int) = (nm : Int)))) ∧ Below W.heap.size W w' from fun g W => by
    have h := right_any ⟨a, b, List.replicate nk zC⟩ g nk W
    simp only [List.length_replicate] at h
    have e : (Tx.mk a b (List.replicate nk zC)).right = (fine && decide ((nk : Int) = (nm : Int))) := by
      unfold Tx.right
      simp only [List.length_replicate]
      rw [← hfine, hnm, ← Bool.decide_and]
      congr 1
      simp only [and_assoc]
    rw [e] at h
    exact h)
  have RW := Lib.hid (show ∀ g W, Calls Try.prog 12 #[.agg #[.int .i64 a, .int .i64 b, .slice g nm nm]] W fun e w' => e = .returned (.bool fine) ∧ Below W.heap.size W w' from fun g W => by
    have h := right_any ⟨a, b, List.replicate nm zC⟩ g nm W
    simp only [List.length_replicate] at h
    have e : (Tx.mk a b (List.replicate nm zC)).right = fine := by
      unfold Tx.right
      simp only [List.length_replicate]
      rw [← hfine, hnm]
      congr 1
      simp
    rw [e] at h
    exact h)
  have HF := Lib.hid (few_any t A c hc hnil)
  have hT : (fewT t).ok := fewT_ok hok
  have HE := Lib.hid he
  have HT := Lib.hid (fun w he => fit_any (fewT t) A c w hw hh he)
  have HG := Lib.hid (fitT_right (fewT t))
  have hF : (fitT (fewT t)).ok := fitT_ok hT
  have HET := Lib.hid (show ∀ w' : World, Below w.heap.size w w' → Es EC w' w'.heap.size A (fewT t).px from fun _ hb => (HE.out.up hb).take 300)
  generalize fitT (fewT t) = F at *
  generalize fewT t = T at *
  have HFK := Lib.hid hF
  clear hw hh hc hnil hok he HE hT hF hnm hfine ab0 ab1
  go_enter Try.func7, Try.ntmps7
  go_wp2_with fail
  have H0 := Lib.hid (((Below.refl w.heap.size w).alloc (Nat.le_refl _) (.cells #[.int .u8 i, .int .u8 j] 36)).alloc (by simp) (.cells #[.int .i64 t.w, .int .i64 t.h, .slice A t.px.length c] 24))
  have HB := Lib.hid (show ((w.alloc (.cells #[.int .u8 i, .int .u8 j] 36)).alloc (.cells #[.int .i64 t.w, .int .i64 t.h, .slice A t.px.length c] 24)).heap[w.heap.size]? = some (.cells #[.int .u8 i, .int .u8 j] 36) ∧ ((w.alloc (.cells #[.int .u8 i, .int .u8 j] 36)).alloc (.cells #[.int .i64 t.w, .int .i64 t.h, .slice A t.px.length c] 24)).heap[w.heap.size + 1]? = some (.cells #[.int .i64 t.w, .int .i64 t.h, .slice A t.px.length c] 24) from ⟨new_at20 _ _ _, new_at2 _ _ _⟩)
  generalize (w.alloc (.cells #[.int .u8 i, .int .u8 j] 36)).alloc (.cells #[.int .i64 t.w, .int .i64 t.h, .slice A t.px.length c] 24) = w0 at *
  with_reducible refine (shown_any w0).mono ?_
  rintro e w1 ⟨rfl, hb⟩
  have B1 := Lib.hid (bstep H0.out H0.out.size hb)
  have NHB := Lib.hid (show w1.heap[w.heap.size]? = some (.cells #[.int .u8 i, .int .u8 j] 36) ∧ w1.heap[w.heap.size + 1]? = some (.cells #[.int .i64 t.w, .int .i64 t.h, .slice A t.px.length c] 24) from ⟨(hb.block _ (Array.getElem?_eq_some_iff.1 HB.out.1).1).trans HB.out.1, (hb.block _ (Array.getElem?_eq_some_iff.1 HB.out.2).1).trans HB.out.2⟩)
  clear HB
  have HB := NHB
  clear NHB
  clear hb H0
  have sB : w1.heap[w.heap.size]? = some (.cells #[.int .u8 i, .int .u8 j] 36 (0, 0)) := HB.out.1
  have s0 : w1.cell? ⟨w.heap.size, 0, none⟩ = some (.int .u8 i) := Joins.cell_of_block sB 0
  have s1 : w1.cell? ⟨w.heap.size, 1, none⟩ = some (.int .u8 j) := Joins.cell_of_block sB 1
  have T1 := Lib.hid (show w1.heap[w.heap.size + 1]? = some (txB t A c) from HB.out.2)
  obtain ⟨v1, mk1, bm1⟩ := make_zeros w1 nk (by omega) .i64 .i64
  obtain ⟨v2, mk2, bm2⟩ := make_zeros (v1.alloc (.cells #[.int .i64 a, .int .i64 b, .slice (some ⟨w1.heap.size, 0, none⟩) nk nk] 24)) nm (by omega) .i64 .i64
  have q1 := new_below v1 (.cells #[.int .i64 a, .int .i64 b, .slice (some ⟨w1.heap.size, 0, none⟩) nk nk] 24)
  have BM1 := Lib.hid (bstep bm1 bm1.size q1)
  have BM2 := Lib.hid bm2
  clear HB sB bm1 bm2 q1
  go_upto_region 7 with fail
  go_cut [13] from 41 to 55 (fun s wc => s = .bool fine ∧ wc = v2.alloc (.cells #[.int .i64 a, .int .i64 b, .slice (some ⟨v1.heap.size + 1, 0, none⟩) nm nm] 24))
  case first =>
    by_cases c0 : 1 ≤ a
    · skip
      by_cases c1 : a ≤ 16
      · skip
        by_cases c2 : 1 ≤ b
        · skip
          by_cases c3 : b ≤ 16
          · skip
            obtain rfl : fine = true := by rw [← HFI.out]; simp; omega
            go_wp2_with fail
            go_meet
            exact ⟨rfl, rfl⟩
          · skip
            obtain rfl : fine = false := by rw [← HFI.out]; simp; omega
            go_wp2_with fail
            go_meet
            exact ⟨rfl, rfl⟩
        · skip
          obtain rfl : fine = false := by rw [← HFI.out]; simp; omega
          go_wp2_with fail
          go_meet
          exact ⟨rfl, rfl⟩
      · skip
        obtain rfl : fine = false := by rw [← HFI.out]; simp; omega
        go_wp2_with fail
        go_meet
        exact ⟨rfl, rfl⟩
    · skip
      obtain rfl : fine = false := by rw [← HFI.out]; simp; omega
      go_wp2_with fail
      go_meet
      exact ⟨rfl, rfl⟩
  case rest =>
  rename World => U
  obtain ⟨rfl, rfl⟩ := hcut
  have K0 := bstep BM1.out BM1.out.size BM2.out
  have K1 := bstep K0 K0.size (new_below v2 (.cells #[.int .i64 a, .int .i64 b, .slice (some ⟨v1.heap.size + 1, 0, none⟩) nm nm] 24))
  have TU := txB_grow T1.out K1
  have BU := Lib.hid (bstep B1.out B1.out.size K1)
  have OU := Lib.hid (show (v2.alloc (.cells #[.int .i64 a, .int .i64 b, .slice (some ⟨v1.heap.size + 1, 0, none⟩) nm nm] 24)).heap[v1.heap.size]? = some (fB a b (.slice (some ⟨w1.heap.size, 0, none⟩) nk nk)) from new_keep _ ((BM2.out.block _ (by simp)).trans (new_at1 _ _)))
  have WU := Lib.hid (show (v2.alloc (.cells #[.int .i64 a, .int .i64 b, .slice (some ⟨v1.heap.size + 1, 0, none⟩) nm nm] 24)).heap[v2.heap.size]? = some (fB a b (.slice (some ⟨v1.heap.size + 1, 0, none⟩) nm nm)) from new_at1 _ _)
  obtain ⟨e0, e1, e2⟩ := txB_cell TU
  have tl := txB_lt TU
  clear TU K0 K1 BM1 BM2 T1 B1 mk1 mk2 s0 s1
  generalize v2.alloc (.cells #[.int .i64 a, .int .i64 b, .slice (some ⟨v1.heap.size + 1, 0, none⟩) nm nm] 24) = U at *
  generalize v1.heap.size = g1 at *
  generalize v2.heap.size = g2 at *
  generalize some (Addr.mk w1.heap.size 0 none) = A1 at *
  generalize some (Addr.mk (g1 + 1) 0 none) = A2 at *
  go_wp2_with fail
  with_reducible refine (HF.out _).mono ?_
  rintro e w2 ⟨rfl, hb⟩
  have B2 := Lib.hid (bstep BU.out BU.out.size hb)
  have O2 := Lib.hid (blk_keep OU.out hb)
  have W2 := Lib.hid (blk_keep WU.out hb)
  clear hb e0 e1 e2 tl OU WU BU
  go_wp2_with fail
  with_reducible refine (HT.out _ (HET.out _ B2.out)).mono ?_
  rintro e w4 ⟨A', c', rfl, -, -, hown, hb⟩
  have hn4 := new_below w4 (.cells #[.int .i64 F.w, .int .i64 F.h, .slice A' F.px.length c'] 24)
  have hne : F.px ≠ [] := by
    obtain ⟨x0, x1, y0, y1, hl⟩ := Tx.fine HG.out
    have := area_bd x0 x1 y0 y1 rfl
    intro h
    rw [h] at hl
    simp at hl
    omega
  obtain ⟨jr, cr, ev, hjb, hjl⟩ := own_at0 hown hne
  cases ev
  have B5 := Lib.hid (bstep hb hb.size hn4)
  have O5 := Lib.hid (hown.keep hn4)
  have F5 := Lib.hid (show (w4.alloc (.cells #[.int .i64 F.w, .int .i64 F.h, .slice (some ⟨jr, 0, none⟩) F.px.length c'] 24)).heap[w4.heap.size]? = some (txB F (some ⟨jr, 0, none⟩) c') from new_at1 _ _)
  obtain ⟨f0, f1, f2⟩ := txB_cell F5.out
  clear hb hn4 hown hne HET HT HF
  go_wp2_with fail
  generalize w4.heap.size = gf at *
  generalize w4.alloc (.cells #[.int .i64 F.w, .int .i64 F.h, .slice (some ⟨jr, 0, none⟩) F.px.length c'] 24) = X at *
  obtain ⟨m, hm⟩ : ∃ m, F.px.length = m := ⟨_, rfl⟩
  obtain ⟨x0, x1, y0, y1, hl⟩ := Tx.fine HG.out
  have har := area_bd x0 x1 y0 y1 hl.symm
  have HMM := Lib.hid hm
  rw [hm] at har
  clear hm x0 x1 y0 y1 hl f0 f1 f2
  go_loopw [15] (fun i wr => ∃ k : Nat, k ≤ m ∧ i = .int .i64 k ∧ Below w2.heap.size w2 wr ∧ wr.heap[gf]? = some (txB F (some ⟨jr, 0, none⟩) c') ∧ OwnE EC wr w2.heap.size (.slice (some ⟨jr, 0, none⟩) F.px.length c') (preK F.px k))
    (fun i _ => m - (intOf i).toNat)
  case atStart => exact ⟨0, by omega, rfl, B5.out, F5.out, by rw [preK_zero]; exact O5.out⟩
  case round =>
    obtain ⟨k, hk, rfl, hB, hT, hO⟩ := hrel
    have HB := Lib.hid hB
    have HT := Lib.hid hT
    have HO := Lib.hid hO
    obtain ⟨e0, e1, e2⟩ := txB_cell hT
    have hgl := txB_lt hT
    clear hB hT hO B5 F5 O5
    by_cases hlt : k < m
    · obtain ⟨cc, hcc⟩ : ∃ p, F.px[k]? = some p := ⟨_, List.getElem?_eq_getElem (by have := HMM.out; omega)⟩
      have HCC := Lib.hid hcc
      have HKO := Lib.hid (HFK.out cc (List.mem_of_getElem? hcc))
      have hkl : (k : Int) < (F.px.length : Int) := by have := HMM.out; omega
      have hkm : (k : Int) < (m : Int) := by omega
      have wk : IntKind.i64.wrap (k : Int) = (k : Int) := by rw [IntKind.wrap_i64]; omega
      clear hcc
      go_wp2_with fail
      have hj1 : jr ≠ gf := by omega
      have FD := Lib.hid (show wr.drew.heap[gf]? = some (txB F (some ⟨jr, 0, none⟩) c') from HT.out)
      have BD := Lib.hid (HB.out.drew)
      have OD := Lib.hid (HO.out.keep (Below.refl _ _).drew)
      have hjD : jr < wr.drew.heap.size := by have := own_lt HO.out (j := jr) (by simp [Value.ownBlock]); exact this
      clear e0 e1 e2 hgl
      refine wp_region_held_drew (S := fun w' => ∃ x : But w2 wr.drew jr, w' = x.w) (by kernel_rfl) ⟨⟨wr.drew, BD.out, Nat.le_refl _, fun _ _ _ => rfl⟩, rfl⟩ (fun hS => ?_)
      generalize wr.drew = D at *
      have y2 : ∀ x : But w2 D jr, x.w.cell? ⟨gf, 2, none⟩ = some (.slice (some ⟨jr, 0, none⟩) F.px.length c') := fun x => (txB_cell (x.blk FD.out (fun h => hj1 h.symm))).2.2
      refine wpAnyH_take (i := 0) (v := .pointer (some ⟨gf, 2, none⟩)) rfl (by kernel_rfl) (by kernel_rfl) (by kernel_rfl) (fun _ _ _ h => h) (Or.inl ⟨by rfl, fun w hw => by obtain ⟨x, rfl⟩ := hw; go_simp⟩) hS ?_
      try simp only [Act.put, List.setIfInBounds_toArray, List.set_cons_zero, List.set_cons_succ, List.getElem_toArray, List.getElem_cons_zero]
      refine wpAnyH_take (i := 1) (v := .slice (some ⟨jr, 0, none⟩) F.px.length c') rfl (by kernel_rfl) (by kernel_rfl) (by kernel_rfl) (fun _ _ _ h => h) (Or.inl ⟨by rfl, fun w hw => by obtain ⟨x, rfl⟩ := hw; go_simp⟩) hS ?_
      try simp only [Act.put, List.setIfInBounds_toArray, List.set_cons_zero, List.set_cons_succ, List.getElem_toArray, List.getElem_cons_zero, List.getElem_cons_succ]
      refine wpAnyH_take (i := 2) (v := .int .i64 (k : Int)) rfl (by kernel_rfl) (by kernel_rfl) (by kernel_rfl) (fun _ _ _ h => h) (Or.inl ⟨by rfl, fun w hw => by obtain ⟨x, rfl⟩ := hw; go_simp⟩) hS ?_
      try simp only [Act.put, List.setIfInBounds_toArray, List.set_cons_zero, List.set_cons_succ, List.getElem_toArray, List.getElem_cons_zero, List.getElem_cons_succ]
      refine wpAnyH_take (i := 3) (v := .pointer (some ⟨gf, 2, none⟩)) rfl (by kernel_rfl) (by kernel_rfl) (by kernel_rfl) (fun _ _ _ h => h) (Or.inl ⟨by rfl, fun w hw => by obtain ⟨x, rfl⟩ := hw; go_simp⟩) hS ?_
      try simp only [Act.put, List.setIfInBounds_toArray, List.set_cons_zero, List.set_cons_succ, List.getElem_toArray, List.getElem_cons_zero, List.getElem_cons_succ]
      refine wpAnyH_take (i := 4) (v := .slice (some ⟨jr, 0, none⟩) F.px.length c') rfl (by kernel_rfl) (by kernel_rfl) (by kernel_rfl) (fun _ _ _ h => h) (Or.inl ⟨by rfl, fun w hw => by obtain ⟨x, rfl⟩ := hw; go_simp⟩) hS ?_
      try simp only [Act.put, List.setIfInBounds_toArray, List.set_cons_zero, List.set_cons_succ, List.getElem_toArray, List.getElem_cons_zero, List.getElem_cons_succ]
      refine wpAnyH_take (i := 5) (v := .int .i64 (k : Int)) rfl (by kernel_rfl) (by kernel_rfl) (by kernel_rfl) (fun _ _ _ h => h) (Or.inl ⟨by rfl, fun w hw => by obtain ⟨x, rfl⟩ := hw; go_simp⟩) hS ?_
      try simp only [Act.put, List.setIfInBounds_toArray, List.set_cons_zero, List.set_cons_succ, List.getElem_toArray, List.getElem_cons_zero, List.getElem_cons_succ]
      refine wpAnyH_take (i := 6) (v := .pointer (some ⟨jr, k * 4, none⟩)) rfl (by kernel_rfl) (by kernel_rfl) (by kernel_rfl) (fun _ _ _ h => h) (Or.inl ⟨by rfl, fun w hw => by obtain ⟨x, rfl⟩ := hw; go_simp⟩) hS ?_
      try simp only [Act.put, List.setIfInBounds_toArray, List.set_cons_zero, List.set_cons_succ, List.getElem_toArray, List.getElem_cons_zero, List.getElem_cons_succ]
      obtain ⟨c0, c1, c2, c3⟩ := atC (show AtE EC D jr (k * 4) cc from by
        obtain ⟨-, hes⟩ := Es.own OD.out
        obtain ⟨b', off', eA, -, hat⟩ := hes.at (preK_get HCC.out)
        cases eA
        rw [Nat.zero_add] at hat
        exact hat)
      refine wpAnyH_ready (rs := [7]) (by kernel_rfl) (by simp) ?_
      refine AllReadyH.cons rfl (fun K hK => ?_) AllReadyH.nil
      go_simp
      refine hK.out _ _ ⟨⟨D, BD.out, Nat.le_refl _, fun _ _ _ => rfl⟩, rfl⟩ (fun hS => ?_)
      clear hK K
      try simp only [Act.put, List.setIfInBounds_toArray, List.set_cons_zero, List.set_cons_succ, List.getElem_toArray, List.getElem_cons_zero, List.getElem_cons_succ]
      refine wpAnyH_ready (rs := [8]) (by kernel_rfl) (by simp) ?_
      refine AllReadyH.cons rfl (fun K hK => ?_) AllReadyH.nil
      go_simp
      with_reducible refine (rpre_col cc _ HKO.out).mono ?_
      rintro e t1 ⟨rfl, hb⟩
      have O1 := Lib.hid (OD.out.keep hb)
      have F1 := Lib.hid (txB_grow FD.out hb)
      have B1 := Lib.hid (bstep BD.out BD.out.size hb)
      have c0' := (blkcell hb hjD).trans c0
      have c1' := (blkcell hb hjD).trans c1
      have c2' := (blkcell hb hjD).trans c2
      have c3' := (blkcell hb hjD).trans c3
      have fr := ownC_free O1.out
      have fr0 := fr (k * 4)
      have fr1 := fr (k * 4 + 1)
      have fr2 := fr (k * 4 + 2)
      have fr3 := fr (k * 4 + 3)
      refine hK.out _ _ ⟨⟨t1, B1.out, hb.size, fun i hi _ => hb.block i hi⟩, rfl⟩ (fun hS => ?_)
      clear hK K fr c0 c1 c2 c3
      try simp only [Act.put, List.setIfInBounds_toArray, List.set_cons_zero, List.set_cons_succ, List.getElem_toArray, List.getElem_cons_zero, List.getElem_cons_succ]
      refine wpAnyH_take (i := 9) (v := .pointer (some ⟨jr, k * 4, none⟩)) rfl (by kernel_rfl) (by kernel_rfl) (by kernel_rfl) (fun _ _ _ h => h) (Or.inl ⟨by rfl, fun w hw => by obtain ⟨x, rfl⟩ := hw; go_simp⟩) hS ?_
      try simp only [Act.put, List.setIfInBounds_toArray, List.set_cons_zero, List.set_cons_succ, List.getElem_toArray, List.getElem_cons_zero, List.getElem_cons_succ]
      obtain ⟨cp, hcp⟩ : ∃ cp, pre cc = cp := ⟨_, rfl⟩
      rw [hcp]
      have O2' := Lib.hid (ownC_put cp O1.out (preK_get HCC.out))
      have B2' := Lib.hid ((((B1.out.setCell hjb (p := ⟨jr, k * 4, none⟩) (.int .u8 cp.r)).setCell hjb (p := ⟨jr, k * 4 + 1, none⟩) (.int .u8 cp.g)).setCell hjb (p := ⟨jr, k * 4 + 2, none⟩) (.int .u8 cp.b)).setCell hjb (p := ⟨jr, k * 4 + 3, none⟩) (.int .u8 cp.a))
      have oth : ∀ i, i ≠ jr → ((((t1.setCell ⟨jr, k * 4, none⟩ (.int .u8 cp.r)).setCell ⟨jr, k * 4 + 1, none⟩ (.int .u8 cp.g)).setCell ⟨jr, k * 4 + 2, none⟩ (.int .u8 cp.b)).setCell ⟨jr, k * 4 + 3, none⟩ (.int .u8 cp.a)).heap[i]? = t1.heap[i]? := fun i hi => by
        rw [heap_setCell_other _ _ _ _ (fun h => hi h), heap_setCell_other _ _ _ _ (fun h => hi h), heap_setCell_other _ _ _ _ (fun h => hi h), heap_setCell_other _ _ _ _ (fun h => hi h)]
      have hbs := hb.size
      have hbb := hb.block
      clear hb
      refine wpAnyH_ready (rs := [10]) (by kernel_rfl) (by simp) ?_
      refine AllReadyH.cons rfl (fun K hK => ?_) AllReadyH.nil
      go_simp
      refine hK.out _ _ ⟨⟨_, B2'.out, by simpa using hbs, fun i hi hne => (oth i hne).trans (hbb i hi)⟩, rfl⟩ (fun hS => ?_)
      clear hK K hS
      try simp only [Act.put, List.setIfInBounds_toArray, List.set_cons_zero, List.set_cons_succ, List.getElem_toArray, List.getElem_cons_zero, List.getElem_cons_succ]
      refine wpAnyH_done (by kernel_rfl) ?_ _
      have F2 := (oth gf (fun h => hj1 h.symm)).trans F1.out
      clear oth c0' c1' c2' c3' fr0 fr1 fr2 fr3 hbb
      generalize (((t1.setCell ⟨jr, k * 4, none⟩ (.int .u8 cp.r)).setCell ⟨jr, k * 4 + 1, none⟩ (.int .u8 cp.g)).setCell ⟨jr, k * 4 + 2, none⟩ (.int .u8 cp.b)).setCell ⟨jr, k * 4 + 3, none⟩ (.int .u8 cp.a) = Z at *
      go_wp2_with fail
      go_roundw
      case rel => exact ⟨k + 1, by omega, by go_num, B2'.out, F2, by rw [preK_succ HCC.out, hcp]; exact O2'.out⟩
      case measure => simp [intOf]; omega
    · obtain rfl : k = m := by omega
      have HPR := Lib.hid (preK_right HFK.out)
      have hkn : ¬ (k : Int) < (F.px.length : Int) := by have := HMM.out; omega
      rw [HMM.out] at HPR
      have okP : (Tx.mk F.w F.h (preK F.px k)).ok := HPR.out.2
      obtain ⟨-, hes⟩ := Es.own HO.out
      have SM := Lib.hid (show Calls Try.prog 18 #[.agg #[.int .i64 F.w, .int .i64 F.h, .slice (some ⟨jr, 0, none⟩) F.px.length c'], .int .i64 (5 * n), .int .i64 (a - b)] wr fun e w' => e = .returned (.agg #[.int .u8 ((Tx.mk F.w F.h (preK F.px k)).smooth (5 * n) (a - b)).r, .int .u8 ((Tx.mk F.w F.h (preK F.px k)).smooth (5 * n) (a - b)).g, .int .u8 ((Tx.mk F.w F.h (preK F.px k)).smooth (5 * n) (a - b)).b, .int .u8 ((Tx.mk F.w F.h (preK F.px k)).smooth (5 * n) (a - b)).a]) ∧ Below wr.heap.size wr w' from by
        have h := smooth_any (Tx.mk F.w F.h (preK F.px k)) okP (some ⟨jr, 0, none⟩) c' (5 * n) (a - b) (by unfold Far; omega) (by unfold Far; omega) wr hes
        simp only [preK_len] at h
        exact h)
      have hr16 := rightB_of (smooth_right (t := Tx.mk F.w F.h (preK F.px k)) HPR.out.1 (5 * n) (a - b))
      generalize (Tx.mk F.w F.h (preK F.px k)).smooth (5 * n) (a - b) = sm at *
      have RR := Lib.hid (fun W => rright_any sm W)
      rw [hr16] at RR
      have w5 : IntKind.i64.wrap (5 * n) = 5 * n := by rw [IntKind.wrap_i64]; omega
      have wab : IntKind.i64.wrap (a - b) = a - b := by rw [IntKind.wrap_i64]; omega
      have OW := Lib.hid (blk_keep O2.out HB.out)
      have WW := Lib.hid (blk_keep W2.out HB.out)
      have BW := Lib.hid (bstep B2.out B2.out.size HB.out)
      clear okP hes hr16
      go_wp2_with fail
      with_reducible refine (SM.out).mono ?_
      rintro e v5 ⟨rfl, hb⟩
      have OV := Lib.hid (blk_keep OW.out hb)
      have WV := Lib.hid (blk_keep WW.out hb)
      have BV := Lib.hid (bstep BW.out BW.out.size hb)
      clear hb e0 e1 e2 hgl OW WW BW SM
      go_wp2_with fail
      with_reducible refine (RR.out _).mono ?_
      rintro e v6 ⟨rfl, hb⟩
      have o6 := blk_keep OV.out hb
      have w6 := blk_keep WV.out hb
      have BV6 := Lib.hid (bstep BV.out BV.out.size hb)
      obtain ⟨p0, p1, p2⟩ := fB_cell o6
      obtain ⟨q0, q1, q2⟩ := fB_cell w6
      have WV6 := Lib.hid w6
      clear hb o6 w6 OV WV BV RR
      go_wp2_with fail
      with_reducible refine (RO.out _ _).mono ?_
      rintro e v7 ⟨rfl, hb⟩
      obtain ⟨r0, r1, r2⟩ := fB_cell (blk_keep WV6.out hb)
      have B7 := Lib.hid (bstep BV6.out BV6.out.size hb)
      clear hb p0 p1 p2 q0 q1 q2 WV6 BV6 RO
      cases fine
      · simp only [Bool.false_and]
        go_wp2_with (go_at_call 12; with_reducible refine (RW.out _ _).mono ?_; rintro e v8 ⟨rfl, hb⟩; have B8 := Lib.hid (bstep B7.out B7.out.size hb); clear hb)
        go_ret
        exact ⟨rfl, B8.out⟩
      · simp only [Bool.true_and]
        by_cases hq : (nk : Int) = (nm : Int)
        · have d1 : decide ((nk : Int) = (nm : Int)) = true := by simpa using hq
          have d2 : ((nk : Int) == (nm : Int)) = true := by simpa using hq
          rw [d1]
          go_wp2_with (go_at_call 12; with_reducible refine (RW.out _ _).mono ?_; rintro e v8 ⟨rfl, hb⟩; have B8 := Lib.hid (bstep B7.out B7.out.size hb); clear hb)
          go_ret
          exact ⟨rfl, B8.out⟩
        · have d1 : decide ((nk : Int) = (nm : Int)) = false := by simpa using hq
          have d2 : ((nk : Int) == (nm : Int)) = false := by simpa using hq
          rw [d1]
          go_wp2_with (go_at_call 12; with_reducible refine (RW.out _ _).mono ?_; rintro e v8 ⟨rfl, hb⟩; have B8 := Lib.hid (bstep B7.out B7.out.size hb); clear hb)
          go_ret
          exact ⟨rfl, B8.out⟩
end Go.Proofs.Ytbhailpnfohomaa
