/-
  The walk of glazierlaw11.TextureShifts.
-/
import Derived.Test.YtbhailpnfohomaaTwoRows
namespace Go.Proofs.Ytbhailpnfohomaa
open Go.RowKit
attribute [local go_sem ↓] Go.wp_at_zero Go.wp_at_succ
attribute [local go_sem high] eqlC neqC
attribute [local go_sem] guardC sameC_self

set_option maxRecDepth 100000 in
set_option maxHeartbeats 4000000 in
theorem shifts_walk (t : Tx) (A : Option Addr) (c : Nat) (xx yy nn : Int) (hw : I64 t.w) (hh : I64 t.h) (hc : t.px.length ≤ c) (hnil : A = none → t.px.length = 0) (hok : t.ok) (hx : I64 xx) (hy : I64 yy) (hn : 0 ≤ nn ∧ nn ≤ 255) (w : World) (he : Es EC w w.heap.size A t.px) :
    Calls Try.prog 6 #[.agg #[.int .i64 t.w, .int .i64 t.h, .slice A t.px.length c], .agg #[.int .i64 xx, .int .i64 yy], .int .u8 nn] w fun e w' => e = .returned (.bool true) ∧ Below w.heap.size w w' := by
  obtain ⟨x, ex⟩ : ∃ a, xx.tmod 1073741824 = a := ⟨_, rfl⟩
  obtain ⟨y, ey⟩ : ∃ b, yy.tmod 1073741824 = b := ⟨_, rfl⟩
  have bx : -1073741824 < x ∧ x < 1073741824 := by have := tmod_bd xx 1073741824 (by decide); rw [ex] at this; omega
  have b_y : -1073741824 < y ∧ y < 1073741824 := by have := tmod_bd yy 1073741824 (by decide); rw [ey] at this; omega
  have hx' := hx
  have hy' := hy
  unfold I64 at hx hy
  have HF := Lib.hid (few_any t A c hc hnil)
  have hT : (fewT t).ok := fewT_ok hok
  have HE := Lib.hid he
  have HT := Lib.hid (fun w he => fit_any (fewT t) A c w hw hh he)
  have HG := Lib.hid (fitT_right (fewT t))
  have hF : (fitT (fewT t)).ok := fitT_ok hT
  have HET := Lib.hid (show ∀ w' : World, Below w.heap.size w w' → Es EC w' w'.heap.size A (fewT t).px from fun _ hb => (HE.out.up hb).take 300)
  generalize fitT (fewT t) = F at *
  generalize fewT t = T at *
  have HFK := Lib.hid hF
  clear hw hh hc hnil hok he HE hT hF hx' hy'
  go_enter Try.func6, Try.ntmps6
  go_wp2_with fail
  have H0 := Lib.hid (((Below.refl w.heap.size w).alloc (Nat.le_refl _) (.cells #[.int .i64 t.w, .int .i64 t.h, .slice A t.px.length c] 24)).alloc (by simp) (.cells #[.int .i64 xx, .int .i64 yy] 33))
  have HB := Lib.hid (show ((w.alloc (.cells #[.int .i64 t.w, .int .i64 t.h, .slice A t.px.length c] 24)).alloc (.cells #[.int .i64 xx, .int .i64 yy] 33)).heap[w.heap.size]? = some (.cells #[.int .i64 t.w, .int .i64 t.h, .slice A t.px.length c] 24) ∧ ((w.alloc (.cells #[.int .i64 t.w, .int .i64 t.h, .slice A t.px.length c] 24)).alloc (.cells #[.int .i64 xx, .int .i64 yy] 33)).heap[w.heap.size + 1]? = some (.cells #[.int .i64 xx, .int .i64 yy] 33) from ⟨new_at20 _ _ _, new_at2 _ _ _⟩)
  generalize (w.alloc (.cells #[.int .i64 t.w, .int .i64 t.h, .slice A t.px.length c] 24)).alloc (.cells #[.int .i64 xx, .int .i64 yy] 33) = w0 at *
  with_reducible refine (shown_any w0).mono ?_
  rintro e w1 ⟨rfl, hb⟩
  have B1 := Lib.hid (bstep H0.out H0.out.size hb)
  have NHB := Lib.hid (show w1.heap[w.heap.size]? = some (.cells #[.int .i64 t.w, .int .i64 t.h, .slice A t.px.length c] 24) ∧ w1.heap[w.heap.size + 1]? = some (.cells #[.int .i64 xx, .int .i64 yy] 33) from ⟨(hb.block _ (Array.getElem?_eq_some_iff.1 HB.out.1).1).trans HB.out.1, (hb.block _ (Array.getElem?_eq_some_iff.1 HB.out.2).1).trans HB.out.2⟩)
  clear HB
  have HB := NHB
  clear NHB
  clear hb H0
  obtain ⟨e0, e1, e2⟩ := txB_cell (show w1.heap[w.heap.size]? = some (txB t A c) from HB.out.1)
  go_wp2_with fail
  with_reducible refine (HF.out _).mono ?_
  rintro e w2 ⟨rfl, hb⟩
  have B2 := Lib.hid (bstep B1.out B1.out.size hb)
  have I2 := Lib.hid (show w2.heap[w.heap.size + 1]? = some (iB xx yy) from blk_keep HB.out.2 hb)
  clear hb B1 e0 e1 e2 HB
  go_wp2_with fail
  with_reducible refine (HT.out _ (HET.out _ B2.out)).mono ?_
  rintro e w4 ⟨A', c', rfl, -, hes, -, hb⟩
  have B4 := bstep B2.out B2.out.size hb
  have hn4 := new_below w4 (.cells #[.int .i64 F.w, .int .i64 F.h, .slice A' F.px.length c'] 24)
  have EF := Lib.hid (hes.up hn4)
  have F5 := Lib.hid (show (w4.alloc (.cells #[.int .i64 F.w, .int .i64 F.h, .slice A' F.px.length c'] 24)).heap[w4.heap.size]? = some (txB F A' c') from new_at1 _ _)
  have B5 := Lib.hid (bstep B4 B4.size hn4)
  have i5 := blk_keep (blk_keep I2.out hb) hn4
  obtain ⟨s0, s1⟩ := iB_cell i5
  clear hb hes hn4 B2 B4 HET HT HF I2 i5
  obtain ⟨w0', w1', h0, h1, hl⟩ := Tx.fine HG.out
  have hF0 : ¬ F.w = 0 := by omega
  have hF1 : ¬ F.w = -1 := by omega
  obtain ⟨by_, hby⟩ : ∃ by_, nn % F.w = by_ := ⟨_, rfl⟩
  have hb0 := Int.emod_nonneg nn (show F.w ≠ 0 by omega)
  have hb1 := Int.emod_lt_of_pos nn (show (0 : Int) < F.w by omega)
  rw [hby] at hb0 hb1
  have tby : nn.tmod F.w = by_ := by rw [Int.tmod_eq_emod_of_nonneg (by omega)]; exact hby
  obtain ⟨m, hm⟩ : ∃ m, F.w * F.h = m := ⟨_, rfl⟩
  have hm2 := area_bd w0' w1' h0 h1 hm
  have HM := Lib.hid hm
  have wm : IntKind.i64.wrap (F.w * F.h) = m := by rw [hm, IntKind.wrap_i64]; omega
  rw [hm] at hl
  clear hm
  obtain ⟨i0, hi, hz0, hz1, hz2⟩ := info_parts Try.info30
  have HI := Lib.hid hi
  have HZ := Lib.hid (And.intro hz0 (And.intro hz1 hz2))
  have gl := txB_lt F5.out
  obtain ⟨d0, d1, d2⟩ := txB_cell F5.out
  clear hi hz0 hz1 hz2
  go_wp2_with fail
  have hgs : (w4.alloc (.cells #[.int .i64 F.w, .int .i64 F.h, .slice A' F.px.length c'] 24)).heap.size = w4.heap.size + 1 := by simp
  generalize w4.heap.size = g at *
  generalize w4.alloc (.cells #[.int .i64 F.w, .int .i64 F.h, .slice A' F.px.length c'] 24) = X at *
  clear s0 s1 tby
  have hTwo : Two X F.w F.h ((X.alloc (.cells #[.int .i64 F.w, .int .i64 F.h, .slice none 0 0] 24)).alloc (.cells #[.int .i64 F.w, .int .i64 F.h, .slice none 0 0] 24)) (.slice none 0 0) (.slice none 0 0) [] [] :=
    ⟨((Below.refl _ _).alloc (Nat.le_refl _) _).alloc (by simp) _, by simp, new_at20 _ _ _, new_at2 _ _ _, OwnE.nil _ _, OwnE.nil _ _, fun j e => by simp [Value.ownBlock] at e⟩
  have HT0 := Lib.hid hTwo
  clear hTwo
  go_loopw [14] (fun i wr => ∃ (k : Nat) (v1 v2 : Value), (k : Int) ≤ m ∧ i = .int .i64 k ∧ Two X F.w F.h wr v1 v2 ((List.range k).map (movC F by_)) ((List.range k).map (turC F)))
    (fun i _ => m.toNat - (intOf i).toNat)
  case atStart => exact ⟨0, _, _, by omega, rfl, HT0.out⟩
  case round =>
    obtain ⟨k, v1, v2, hk, rfl, hT⟩ := hrel
    have HT := Lib.hid hT
    clear HT0
    obtain ⟨A1, c1, rfl⟩ := hT.ou.form
    obtain ⟨A2, c2, rfl⟩ := hT.ov.form
    obtain ⟨e0, e1, e2⟩ := txB_cell (txB_grow F5.out hT.bel)
    have hcl1 : ((List.range k).map (movC F by_)).length = k := by simp
    have hcl2 : ((List.range k).map (turC F)).length = k := by simp
    clear hT d0 d1 d2
    by_cases hlt : (k : Int) < m
    · have HS1 := Lib.hid (range_snoc (movC F by_) k)
      have HS2 := Lib.hid (range_snoc (turC F) k)
      obtain ⟨r, hr⟩ : ∃ r, (k : Int) % F.w = r := ⟨_, rfl⟩
      obtain ⟨s, hs⟩ : ∃ s, (k : Int) / F.w = s := ⟨_, rfl⟩
      obtain ⟨r0, r1, q0, q1, -⟩ := split_place w0' w1' HM.out (show 0 ≤ (k : Int) by omega) hlt hr hs
      have tr : (k : Int).tmod F.w = r := by rw [Int.tmod_eq_emod_of_nonneg (by omega)]; exact hr
      have ts : (k : Int).tdiv F.w = s := by rw [Int.tdiv_eq_ediv_of_nonneg (by omega)]; exact hs
      obtain ⟨r2, hr2⟩ : ∃ r2, (r + by_) % F.w = r2 := ⟨_, rfl⟩
      have r20 := Int.emod_nonneg (r + by_) (show F.w ≠ 0 by omega)
      have r21 := Int.emod_lt_of_pos (r + by_) (show (0 : Int) < F.w by omega)
      rw [hr2] at r20 r21
      have tr2 : (r + by_).tmod F.w = r2 := by rw [Int.tmod_eq_emod_of_nonneg (by omega)]; exact hr2
      obtain ⟨p1, hp1⟩ : ∃ p1, s * F.w = p1 := ⟨_, rfl⟩
      obtain ⟨z, hz⟩ : ∃ z, F.h - 1 - s = z := ⟨_, rfl⟩
      obtain ⟨p2, hp2⟩ : ∃ p2, z * F.w = p2 := ⟨_, rfl⟩
      obtain ⟨ia, hia⟩ : ∃ i, p1 + r2 = i := ⟨_, rfl⟩
      obtain ⟨ib, hib⟩ : ∃ i, p2 + r = i := ⟨_, rfl⟩
      obtain ⟨ia0, ia1⟩ := place_bd w0' w1' h0 h1 HM.out r20 r21 q0 q1 (show s * F.w + r2 = ia by rw [hp1]; exact hia)
      obtain ⟨ib0, ib1⟩ := place_bd w0' w1' h0 h1 HM.out r0 r1 (show 0 ≤ z by omega) (show z < F.h by omega) (show z * F.w + r = ib by rw [hp2]; exact hib)
      have p10 : 0 ≤ p1 := by rw [← hp1]; exact Int.mul_nonneg q0 (by omega)
      have p20 : 0 ≤ p2 := by rw [← hp2]; exact Int.mul_nonneg (by omega) (by omega)
      have wp1 : IntKind.i64.wrap (s * F.w) = p1 := by rw [hp1, IntKind.wrap_i64]; omega
      have wp2 : IntKind.i64.wrap (z * F.w) = p2 := by rw [hp2, IntKind.wrap_i64]; omega
      obtain ⟨na, hna⟩ : ∃ n : Nat, (n : Int) = ia := ⟨ia.toNat, by omega⟩
      obtain ⟨nb, hnb⟩ : ∃ n : Nat, (n : Int) = ib := ⟨ib.toNat, by omega⟩
      obtain ⟨u1, hu1⟩ : ∃ p, F.px[na]? = some p := ⟨_, List.getElem?_eq_getElem (by omega)⟩
      obtain ⟨u2, hu2⟩ : ∃ p, F.px[nb]? = some p := ⟨_, List.getElem?_eq_getElem (by omega)⟩
      have hm1 : movC F by_ k = u1 := by unfold movC; rw [hs, hr, hr2, hp1, hia, ← hna, Int.toNat_natCast, List.getD_eq_getElem?_getD, hu1]; rfl
      have hm3 : turC F k = u2 := by unfold turC; rw [hs, hr, hz, hp2, hib, ← hnb, Int.toNat_natCast, List.getD_eq_getElem?_getD, hu2]; rfl
      rw [hm1] at HS1
      rw [hm3] at HS2
      have ea : p1 + r2 = (na : Int) := by omega
      have eb : p2 + r = (nb : Int) := by omega
      have la : (na : Int) < (F.px.length : Int) := by omega
      have lb : (nb : Int) < (F.px.length : Int) := by omega
      have EX := Lib.hid (EF.out.up HT.out.bel)
      obtain ⟨b, off, rfl, -, hc1⟩ := EF.out.at hu1
      obtain ⟨b', off', eA, -, hc2⟩ := EF.out.at hu2
      cases eA
      have CA := Lib.hid (show AtE EC X b (off + na * 4) u1 from hc1)
      have CB := Lib.hid (show AtE EC X b (off + nb * 4) u2 from hc2)
      generalize (List.range k).map (movC F by_) = cs1 at *
      generalize (List.range k).map (turC F) = cs2 at *
      have HC := Lib.hid (And.intro hcl1 hcl2)
      have hc256 : cs1.length ≤ 256 := by omega
      have hd256 : cs2.length ≤ 256 := by omega
      have ws : IntKind.i64.wrap s = s := by rw [IntKind.wrap_i64]; omega
      have wrb : IntKind.i64.wrap (r + by_) = r + by_ := by rw [IntKind.wrap_i64]; omega
      have wna : IntKind.i64.wrap (na : Int) = (na : Int) := by rw [IntKind.wrap_i64]; omega
      have wnb : IntKind.i64.wrap (nb : Int) = (nb : Int) := by rw [IntKind.wrap_i64]; omega
      have wh1 : IntKind.i64.wrap (F.h - 1) = F.h - 1 := by rw [IntKind.wrap_i64]; omega
      have wz : IntKind.i64.wrap z = z := by rw [IntKind.wrap_i64]; omega
      have lam : (na : Int) < m := by omega
      have lbm : (nb : Int) < m := by omega
      clear hna hnb hcl1 hcl2 hr hs hr2 hp1 hp2 hia hib hu1 hu2 hm1 hm3 hc1 hc2 EX ia0 ia1 ib0 ib1
      go_wp2_with fail
      clear e0 e1 e2
      go_cut [14] from 49 to 75 (fun s Wc => s = .int .i64 (k : Int) ∧ ∃ v', Two X F.w F.h Wc v' (.slice A2 cs2.length c2) (cs1 ++ [u1]) cs2)
      case first =>
        have d0 := txB_cell F5.out
        have ca := atC CA.out
        have y0 : ∀ x : Grow X, x.w.cell? ⟨g, 0, none⟩ = some (.int .i64 F.w) := fun x => x.cell d0.1
        have y1 : ∀ x : Grow X, x.w.cell? ⟨g, 1, none⟩ = some (.int .i64 F.h) := fun x => x.cell d0.2.1
        have y2 : ∀ x : Grow X, x.w.cell? ⟨g, 2, none⟩ = some (.slice (some ⟨b, off, none⟩) F.px.length c') := fun x => x.cell d0.2.2
        have z0 : ∀ x : Grow X, x.w.cell? ⟨b, off + na * 4, none⟩ = some (.int .u8 u1.r) := fun x => x.cell ca.1
        have z1 : ∀ x : Grow X, x.w.cell? ⟨b, off + na * 4 + 1, none⟩ = some (.int .u8 u1.g) := fun x => x.cell ca.2.1
        have z2 : ∀ x : Grow X, x.w.cell? ⟨b, off + na * 4 + 2, none⟩ = some (.int .u8 u1.b) := fun x => x.cell ca.2.2.1
        have z3 : ∀ x : Grow X, x.w.cell? ⟨b, off + na * 4 + 3, none⟩ = some (.int .u8 u1.a) := fun x => x.cell ca.2.2.2
        refine wp_region_held_drew (S := fun w' => ∃ x : Grow X, w' = x.w) (by kernel_rfl) ⟨⟨_, (HT.out.bel).drew⟩, rfl⟩ (fun hS => ?_)
        have HD := Lib.hid HT.out.drew
        generalize wr.drew = D at *
        have md := fB_cell HD.out.a
        rw [hgs] at md
        obtain ⟨md0, md1, md2⟩ := md
        have hgD : g + 1 < D.heap.size := by have := HD.out.size; omega
        clear d0 ca
        refine wpAnyH_take (i := 0) (v := .pointer (some ⟨g + 1, 2, none⟩)) rfl (by kernel_rfl) (by kernel_rfl) (by kernel_rfl) (fun _ _ _ h => h) (Or.inl ⟨by rfl, fun w hw => by obtain ⟨x, rfl⟩ := hw; go_simp⟩) hS ?_
        try simp only [Act.put, List.setIfInBounds_toArray, List.set_cons_zero, List.set_cons_succ, List.getElem_toArray, List.getElem_cons_zero]
        refine wpAnyH_take (i := 2) (v := .pointer (some ⟨g, 2, none⟩)) rfl (by kernel_rfl) (by kernel_rfl) (by kernel_rfl) (fun _ _ _ h => h) (Or.inl ⟨by rfl, fun w hw => by obtain ⟨x, rfl⟩ := hw; go_simp⟩) hS ?_
        try simp only [Act.put, List.setIfInBounds_toArray, List.set_cons_zero, List.set_cons_succ, List.getElem_toArray, List.getElem_cons_zero, List.getElem_cons_succ]
        refine wpAnyH_take (i := 3) (v := .slice (some ⟨b, off, none⟩) F.px.length c') rfl (by kernel_rfl) (by kernel_rfl) (by kernel_rfl) (fun _ _ _ h => h) (Or.inl ⟨by rfl, fun w hw => by obtain ⟨x, rfl⟩ := hw; go_simp⟩) hS ?_
        try simp only [Act.put, List.setIfInBounds_toArray, List.set_cons_zero, List.set_cons_succ, List.getElem_toArray, List.getElem_cons_zero, List.getElem_cons_succ]
        refine wpAnyH_take (i := 4) (v := .int .i64 (k : Int)) rfl (by kernel_rfl) (by kernel_rfl) (by kernel_rfl) (fun _ _ _ h => h) (Or.inl ⟨by rfl, fun w hw => by obtain ⟨x, rfl⟩ := hw; go_simp⟩) hS ?_
        try simp only [Act.put, List.setIfInBounds_toArray, List.set_cons_zero, List.set_cons_succ, List.getElem_toArray, List.getElem_cons_zero, List.getElem_cons_succ]
        refine wpAnyH_take (i := 5) (v := .pointer (some ⟨g, 0, none⟩)) rfl (by kernel_rfl) (by kernel_rfl) (by kernel_rfl) (fun _ _ _ h => h) (Or.inl ⟨by rfl, fun w hw => by obtain ⟨x, rfl⟩ := hw; go_simp⟩) hS ?_
        try simp only [Act.put, List.setIfInBounds_toArray, List.set_cons_zero, List.set_cons_succ, List.getElem_toArray, List.getElem_cons_zero, List.getElem_cons_succ]
        refine wpAnyH_take (i := 6) (v := .int .i64 F.w) rfl (by kernel_rfl) (by kernel_rfl) (by kernel_rfl) (fun _ _ _ h => h) (Or.inl ⟨by rfl, fun w hw => by obtain ⟨x, rfl⟩ := hw; go_simp⟩) hS ?_
        try simp only [Act.put, List.setIfInBounds_toArray, List.set_cons_zero, List.set_cons_succ, List.getElem_toArray, List.getElem_cons_zero, List.getElem_cons_succ]
        refine wpAnyH_take (i := 7) (v := .int .i64 s) rfl (by kernel_rfl) (by kernel_rfl) (by kernel_rfl) (fun _ _ _ h => h) (Or.inl ⟨by rfl, fun w hw => by obtain ⟨x, rfl⟩ := hw; go_simp⟩) hS ?_
        try simp only [Act.put, List.setIfInBounds_toArray, List.set_cons_zero, List.set_cons_succ, List.getElem_toArray, List.getElem_cons_zero, List.getElem_cons_succ]
        refine wpAnyH_take (i := 8) (v := .pointer (some ⟨g, 0, none⟩)) rfl (by kernel_rfl) (by kernel_rfl) (by kernel_rfl) (fun _ _ _ h => h) (Or.inl ⟨by rfl, fun w hw => by obtain ⟨x, rfl⟩ := hw; go_simp⟩) hS ?_
        try simp only [Act.put, List.setIfInBounds_toArray, List.set_cons_zero, List.set_cons_succ, List.getElem_toArray, List.getElem_cons_zero, List.getElem_cons_succ]
        refine wpAnyH_take (i := 9) (v := .int .i64 F.w) rfl (by kernel_rfl) (by kernel_rfl) (by kernel_rfl) (fun _ _ _ h => h) (Or.inl ⟨by rfl, fun w hw => by obtain ⟨x, rfl⟩ := hw; go_simp⟩) hS ?_
        try simp only [Act.put, List.setIfInBounds_toArray, List.set_cons_zero, List.set_cons_succ, List.getElem_toArray, List.getElem_cons_zero, List.getElem_cons_succ]
        refine wpAnyH_take (i := 10) (v := .int .i64 p1) rfl (by kernel_rfl) (by kernel_rfl) (by kernel_rfl) (fun _ _ _ h => h) (Or.inl ⟨by rfl, fun w hw => by obtain ⟨x, rfl⟩ := hw; go_simp⟩) hS ?_
        try simp only [Act.put, List.setIfInBounds_toArray, List.set_cons_zero, List.set_cons_succ, List.getElem_toArray, List.getElem_cons_zero, List.getElem_cons_succ]
        refine wpAnyH_take (i := 11) (v := .int .i64 (k : Int)) rfl (by kernel_rfl) (by kernel_rfl) (by kernel_rfl) (fun _ _ _ h => h) (Or.inl ⟨by rfl, fun w hw => by obtain ⟨x, rfl⟩ := hw; go_simp⟩) hS ?_
        try simp only [Act.put, List.setIfInBounds_toArray, List.set_cons_zero, List.set_cons_succ, List.getElem_toArray, List.getElem_cons_zero, List.getElem_cons_succ]
        refine wpAnyH_take (i := 12) (v := .pointer (some ⟨g, 0, none⟩)) rfl (by kernel_rfl) (by kernel_rfl) (by kernel_rfl) (fun _ _ _ h => h) (Or.inl ⟨by rfl, fun w hw => by obtain ⟨x, rfl⟩ := hw; go_simp⟩) hS ?_
        try simp only [Act.put, List.setIfInBounds_toArray, List.set_cons_zero, List.set_cons_succ, List.getElem_toArray, List.getElem_cons_zero, List.getElem_cons_succ]
        refine wpAnyH_take (i := 13) (v := .int .i64 F.w) rfl (by kernel_rfl) (by kernel_rfl) (by kernel_rfl) (fun _ _ _ h => h) (Or.inl ⟨by rfl, fun w hw => by obtain ⟨x, rfl⟩ := hw; go_simp⟩) hS ?_
        try simp only [Act.put, List.setIfInBounds_toArray, List.set_cons_zero, List.set_cons_succ, List.getElem_toArray, List.getElem_cons_zero, List.getElem_cons_succ]
        refine wpAnyH_take (i := 14) (v := .int .i64 r) rfl (by kernel_rfl) (by kernel_rfl) (by kernel_rfl) (fun _ _ _ h => h) (Or.inl ⟨by rfl, fun w hw => by obtain ⟨x, rfl⟩ := hw; go_simp⟩) hS ?_
        try simp only [Act.put, List.setIfInBounds_toArray, List.set_cons_zero, List.set_cons_succ, List.getElem_toArray, List.getElem_cons_zero, List.getElem_cons_succ]
        refine wpAnyH_take (i := 15) (v := .int .i64 by_) rfl (by kernel_rfl) (by kernel_rfl) (by kernel_rfl) (fun _ _ _ h => h) (Or.inl ⟨by rfl, fun w hw => by obtain ⟨x, rfl⟩ := hw; go_simp⟩) hS ?_
        try simp only [Act.put, List.setIfInBounds_toArray, List.set_cons_zero, List.set_cons_succ, List.getElem_toArray, List.getElem_cons_zero, List.getElem_cons_succ]
        refine wpAnyH_take (i := 16) (v := .int .i64 (r + by_)) rfl (by kernel_rfl) (by kernel_rfl) (by kernel_rfl) (fun _ _ _ h => h) (Or.inl ⟨by rfl, fun w hw => by obtain ⟨x, rfl⟩ := hw; go_simp⟩) hS ?_
        try simp only [Act.put, List.setIfInBounds_toArray, List.set_cons_zero, List.set_cons_succ, List.getElem_toArray, List.getElem_cons_zero, List.getElem_cons_succ]
        refine wpAnyH_take (i := 17) (v := .pointer (some ⟨g, 0, none⟩)) rfl (by kernel_rfl) (by kernel_rfl) (by kernel_rfl) (fun _ _ _ h => h) (Or.inl ⟨by rfl, fun w hw => by obtain ⟨x, rfl⟩ := hw; go_simp⟩) hS ?_
        try simp only [Act.put, List.setIfInBounds_toArray, List.set_cons_zero, List.set_cons_succ, List.getElem_toArray, List.getElem_cons_zero, List.getElem_cons_succ]
        refine wpAnyH_take (i := 18) (v := .int .i64 F.w) rfl (by kernel_rfl) (by kernel_rfl) (by kernel_rfl) (fun _ _ _ h => h) (Or.inl ⟨by rfl, fun w hw => by obtain ⟨x, rfl⟩ := hw; go_simp⟩) hS ?_
        try simp only [Act.put, List.setIfInBounds_toArray, List.set_cons_zero, List.set_cons_succ, List.getElem_toArray, List.getElem_cons_zero, List.getElem_cons_succ]
        refine wpAnyH_take (i := 19) (v := .int .i64 r2) rfl (by kernel_rfl) (by kernel_rfl) (by kernel_rfl) (fun _ _ _ h => h) (Or.inl ⟨by rfl, fun w hw => by obtain ⟨x, rfl⟩ := hw; go_simp⟩) hS ?_
        try simp only [Act.put, List.setIfInBounds_toArray, List.set_cons_zero, List.set_cons_succ, List.getElem_toArray, List.getElem_cons_zero, List.getElem_cons_succ]
        refine wpAnyH_take (i := 20) (v := .int .i64 (na : Int)) rfl (by kernel_rfl) (by kernel_rfl) (by kernel_rfl) (fun _ _ _ h => h) (Or.inl ⟨by rfl, fun w hw => by obtain ⟨x, rfl⟩ := hw; go_simp⟩) hS ?_
        try simp only [Act.put, List.setIfInBounds_toArray, List.set_cons_zero, List.set_cons_succ, List.getElem_toArray, List.getElem_cons_zero, List.getElem_cons_succ]
        refine wpAnyH_take (i := 21) (v := .pointer (some ⟨b, off + na * 4, none⟩)) rfl (by kernel_rfl) (by kernel_rfl) (by kernel_rfl) (fun _ _ _ h => h) (Or.inl ⟨by rfl, fun w hw => by obtain ⟨x, rfl⟩ := hw; go_simp⟩) hS ?_
        try simp only [Act.put, List.setIfInBounds_toArray, List.set_cons_zero, List.set_cons_succ, List.getElem_toArray, List.getElem_cons_zero, List.getElem_cons_succ]
        refine wpAnyH_take (i := 22) (v := .agg #[.int .u8 u1.r, .int .u8 u1.g, .int .u8 u1.b, .int .u8 u1.a]) rfl (by kernel_rfl) (by kernel_rfl) (by kernel_rfl) (fun _ _ _ h => h) (Or.inl ⟨by rfl, fun w hw => by obtain ⟨x, rfl⟩ := hw; go_simp⟩) hS ?_
        try simp only [Act.put, List.setIfInBounds_toArray, List.set_cons_zero, List.set_cons_succ, List.getElem_toArray, List.getElem_cons_zero, List.getElem_cons_succ]
        refine wpAnyH_ready (rs := [1, 23]) (by kernel_rfl) (by simp) ?_
        refine AllReadyH.cons rfl (fun K hK => ?_) ?_
        · skip
          go_simp
          refine hK.out _ _ ⟨⟨_, HD.out.bel⟩, rfl⟩ (fun hS => ?_)
          clear hK K
          try simp only [Act.put, List.setIfInBounds_toArray, List.set_cons_zero, List.set_cons_succ, List.getElem_toArray, List.getElem_cons_zero, List.getElem_cons_succ]
          refine wpAnyH_ready (rs := [23]) (by kernel_rfl) (by simp) ?_
          refine AllReadyH.cons rfl (fun K hK => ?_) AllReadyH.nil
          go_simp
          refine hK.out _ _ ⟨⟨_, HD.out.bel.alloc HD.out.bel.size _⟩, rfl⟩ (fun hS => ?_)
          clear hK K
          try simp only [Act.put, List.setIfInBounds_toArray, List.set_cons_zero, List.set_cons_succ, List.getElem_toArray, List.getElem_cons_zero, List.getElem_cons_succ]
          refine wpAnyH_ready (rs := [24]) (by kernel_rfl) (by simp) ?_
          refine AllReadyH.cons rfl (fun K hK => ?_) AllReadyH.nil
          rw [if_pos (by rfl)]
          refine opw_append (.tmp 50) (.tmp 72) (X.heap.size + 2) (.slice A1 cs1.length c1) cs1 u1 D.heap.size rfl rfl rfl (HD.out.ou.alloc _) (new_at1 _ _) (by omega) (by have := HD.out.size; simp; omega) ?_
          intro v' w6 hown hgrow hblk
          have hm := append_ofE HD.out.ou HD.out.size hown hgrow
          have h2 := HD.out.first hown hgrow hblk
          obtain ⟨A3, c3, rfl⟩ := hm.1.form
          have md := fB_cell ((hm.2.block _ (by omega)).trans HD.out.a)
          have mf := fB_free ((hm.2.block _ (by omega)).trans HD.out.a)
          rw [hgs] at md mf h2
          simp only [List.length_append, List.length_singleton] at h2
          obtain ⟨md0, md1, md2⟩ := md
          obtain ⟨mf0, mf1, mf2⟩ := mf
          refine hK.out _ _ ⟨⟨_, HD.out.bel.trans (hm.2.mono (by omega))⟩, rfl⟩ (fun hS => ?_)
          clear hK K
          try simp only [Act.put, List.setIfInBounds_toArray, List.set_cons_zero, List.set_cons_succ, List.getElem_toArray, List.getElem_cons_zero, List.getElem_cons_succ]
          refine wpAnyH_take (i := 25) (v := .pointer (some ⟨g + 1, 2, none⟩)) rfl (by kernel_rfl) (by kernel_rfl) (by kernel_rfl) (fun _ _ _ h => h) (Or.inl ⟨by rfl, fun w hw => by obtain ⟨x, rfl⟩ := hw; go_simp⟩) hS ?_
          try simp only [Act.put, List.setIfInBounds_toArray, List.set_cons_zero, List.set_cons_succ, List.getElem_toArray, List.getElem_cons_zero, List.getElem_cons_succ]
          refine wpAnyH_ready (rs := [26]) (by kernel_rfl) (by simp) ?_
          refine AllReadyH.cons rfl (fun K hK => ?_) AllReadyH.nil
          go_simp
          refine hK.out _ _ ⟨⟨_, h2.bel⟩, rfl⟩ (fun hS => ?_)
          clear hK K hS
          try simp only [Act.put, List.setIfInBounds_toArray, List.set_cons_zero, List.set_cons_succ, List.getElem_toArray, List.getElem_cons_zero, List.getElem_cons_succ]
          refine wpAnyH_done (by kernel_rfl) ?_ _
          go_wp2_with fail
          go_meet
          exact ⟨rfl, _, h2⟩
        refine AllReadyH.cons rfl (fun K hK => ?_) AllReadyH.nil
        · skip
          go_simp
          refine hK.out _ _ ⟨⟨_, HD.out.bel.alloc HD.out.bel.size _⟩, rfl⟩ (fun hS => ?_)
          clear hK K
          try simp only [Act.put, List.setIfInBounds_toArray, List.set_cons_zero, List.set_cons_succ, List.getElem_toArray, List.getElem_cons_zero, List.getElem_cons_succ]
          refine wpAnyH_ready (rs := [1]) (by kernel_rfl) (by simp) ?_
          refine AllReadyH.cons rfl (fun K hK => ?_) AllReadyH.nil
          go_simp
          refine hK.out _ _ ⟨⟨_, HD.out.bel.alloc HD.out.bel.size _⟩, rfl⟩ (fun hS => ?_)
          clear hK K
          try simp only [Act.put, List.setIfInBounds_toArray, List.set_cons_zero, List.set_cons_succ, List.getElem_toArray, List.getElem_cons_zero, List.getElem_cons_succ]
          refine wpAnyH_ready (rs := [24]) (by kernel_rfl) (by simp) ?_
          refine AllReadyH.cons rfl (fun K hK => ?_) AllReadyH.nil
          rw [if_pos (by rfl)]
          refine opw_append (.tmp 50) (.tmp 72) (X.heap.size + 2) (.slice A1 cs1.length c1) cs1 u1 D.heap.size rfl rfl rfl (HD.out.ou.alloc _) (new_at1 _ _) (by omega) (by have := HD.out.size; simp; omega) ?_
          intro v' w6 hown hgrow hblk
          have hm := append_ofE HD.out.ou HD.out.size hown hgrow
          have h2 := HD.out.first hown hgrow hblk
          obtain ⟨A3, c3, rfl⟩ := hm.1.form
          have md := fB_cell ((hm.2.block _ (by omega)).trans HD.out.a)
          have mf := fB_free ((hm.2.block _ (by omega)).trans HD.out.a)
          rw [hgs] at md mf h2
          simp only [List.length_append, List.length_singleton] at h2
          obtain ⟨md0, md1, md2⟩ := md
          obtain ⟨mf0, mf1, mf2⟩ := mf
          refine hK.out _ _ ⟨⟨_, HD.out.bel.trans (hm.2.mono (by omega))⟩, rfl⟩ (fun hS => ?_)
          clear hK K
          try simp only [Act.put, List.setIfInBounds_toArray, List.set_cons_zero, List.set_cons_succ, List.getElem_toArray, List.getElem_cons_zero, List.getElem_cons_succ]
          refine wpAnyH_take (i := 25) (v := .pointer (some ⟨g + 1, 2, none⟩)) rfl (by kernel_rfl) (by kernel_rfl) (by kernel_rfl) (fun _ _ _ h => h) (Or.inl ⟨by rfl, fun w hw => by obtain ⟨x, rfl⟩ := hw; go_simp⟩) hS ?_
          try simp only [Act.put, List.setIfInBounds_toArray, List.set_cons_zero, List.set_cons_succ, List.getElem_toArray, List.getElem_cons_zero, List.getElem_cons_succ]
          refine wpAnyH_ready (rs := [26]) (by kernel_rfl) (by simp) ?_
          refine AllReadyH.cons rfl (fun K hK => ?_) AllReadyH.nil
          go_simp
          refine hK.out _ _ ⟨⟨_, h2.bel⟩, rfl⟩ (fun hS => ?_)
          clear hK K hS
          try simp only [Act.put, List.setIfInBounds_toArray, List.set_cons_zero, List.set_cons_succ, List.getElem_toArray, List.getElem_cons_zero, List.getElem_cons_succ]
          refine wpAnyH_done (by kernel_rfl) ?_ _
          go_wp2_with fail
          go_meet
          exact ⟨rfl, _, h2⟩
      case rest =>
      rename World => Y
      obtain ⟨rfl, v', hY⟩ := hcut
      have HY := Lib.hid hY
      obtain ⟨A1', c1', rfl⟩ := hY.ou.form
      clear hY HT
      go_wp2_with fail
      have d0 := txB_cell F5.out
      have ca := atC CB.out
      have y0 : ∀ x : Grow X, x.w.cell? ⟨g, 0, none⟩ = some (.int .i64 F.w) := fun x => x.cell d0.1
      have y1 : ∀ x : Grow X, x.w.cell? ⟨g, 1, none⟩ = some (.int .i64 F.h) := fun x => x.cell d0.2.1
      have y2 : ∀ x : Grow X, x.w.cell? ⟨g, 2, none⟩ = some (.slice (some ⟨b, off, none⟩) F.px.length c') := fun x => x.cell d0.2.2
      have z0 : ∀ x : Grow X, x.w.cell? ⟨b, off + nb * 4, none⟩ = some (.int .u8 u2.r) := fun x => x.cell ca.1
      have z1 : ∀ x : Grow X, x.w.cell? ⟨b, off + nb * 4 + 1, none⟩ = some (.int .u8 u2.g) := fun x => x.cell ca.2.1
      have z2 : ∀ x : Grow X, x.w.cell? ⟨b, off + nb * 4 + 2, none⟩ = some (.int .u8 u2.b) := fun x => x.cell ca.2.2.1
      have z3 : ∀ x : Grow X, x.w.cell? ⟨b, off + nb * 4 + 3, none⟩ = some (.int .u8 u2.a) := fun x => x.cell ca.2.2.2
      refine wp_region_held_drew (S := fun w' => ∃ x : Grow X, w' = x.w) (by kernel_rfl) ⟨⟨_, (HY.out.bel).drew⟩, rfl⟩ (fun hS => ?_)
      have HD := Lib.hid HY.out.drew
      generalize Y.drew = D at *
      have md := fB_cell HD.out.b
      rw [hgs] at md
      obtain ⟨md0, md1, md2⟩ := md
      have hgD : g + 1 + 1 < D.heap.size := by have := HD.out.size; omega
      clear d0 ca
      refine wpAnyH_take (i := 0) (v := .pointer (some ⟨g + 1 + 1, 2, none⟩)) rfl (by kernel_rfl) (by kernel_rfl) (by kernel_rfl) (fun _ _ _ h => h) (Or.inl ⟨by rfl, fun w hw => by obtain ⟨x, rfl⟩ := hw; go_simp⟩) hS ?_
      try simp only [Act.put, List.setIfInBounds_toArray, List.set_cons_zero, List.set_cons_succ, List.getElem_toArray, List.getElem_cons_zero]
      refine wpAnyH_take (i := 2) (v := .pointer (some ⟨g, 2, none⟩)) rfl (by kernel_rfl) (by kernel_rfl) (by kernel_rfl) (fun _ _ _ h => h) (Or.inl ⟨by rfl, fun w hw => by obtain ⟨x, rfl⟩ := hw; go_simp⟩) hS ?_
      try simp only [Act.put, List.setIfInBounds_toArray, List.set_cons_zero, List.set_cons_succ, List.getElem_toArray, List.getElem_cons_zero, List.getElem_cons_succ]
      refine wpAnyH_take (i := 3) (v := .slice (some ⟨b, off, none⟩) F.px.length c') rfl (by kernel_rfl) (by kernel_rfl) (by kernel_rfl) (fun _ _ _ h => h) (Or.inl ⟨by rfl, fun w hw => by obtain ⟨x, rfl⟩ := hw; go_simp⟩) hS ?_
      try simp only [Act.put, List.setIfInBounds_toArray, List.set_cons_zero, List.set_cons_succ, List.getElem_toArray, List.getElem_cons_zero, List.getElem_cons_succ]
      refine wpAnyH_take (i := 4) (v := .pointer (some ⟨g, 1, none⟩)) rfl (by kernel_rfl) (by kernel_rfl) (by kernel_rfl) (fun _ _ _ h => h) (Or.inl ⟨by rfl, fun w hw => by obtain ⟨x, rfl⟩ := hw; go_simp⟩) hS ?_
      try simp only [Act.put, List.setIfInBounds_toArray, List.set_cons_zero, List.set_cons_succ, List.getElem_toArray, List.getElem_cons_zero, List.getElem_cons_succ]
      refine wpAnyH_take (i := 5) (v := .int .i64 F.h) rfl (by kernel_rfl) (by kernel_rfl) (by kernel_rfl) (fun _ _ _ h => h) (Or.inl ⟨by rfl, fun w hw => by obtain ⟨x, rfl⟩ := hw; go_simp⟩) hS ?_
      try simp only [Act.put, List.setIfInBounds_toArray, List.set_cons_zero, List.set_cons_succ, List.getElem_toArray, List.getElem_cons_zero, List.getElem_cons_succ]
      refine wpAnyH_take (i := 6) (v := .int .i64 (F.h - 1)) rfl (by kernel_rfl) (by kernel_rfl) (by kernel_rfl) (fun _ _ _ h => h) (Or.inl ⟨by rfl, fun w hw => by obtain ⟨x, rfl⟩ := hw; go_simp⟩) hS ?_
      try simp only [Act.put, List.setIfInBounds_toArray, List.set_cons_zero, List.set_cons_succ, List.getElem_toArray, List.getElem_cons_zero, List.getElem_cons_succ]
      refine wpAnyH_take (i := 7) (v := .int .i64 (k : Int)) rfl (by kernel_rfl) (by kernel_rfl) (by kernel_rfl) (fun _ _ _ h => h) (Or.inl ⟨by rfl, fun w hw => by obtain ⟨x, rfl⟩ := hw; go_simp⟩) hS ?_
      try simp only [Act.put, List.setIfInBounds_toArray, List.set_cons_zero, List.set_cons_succ, List.getElem_toArray, List.getElem_cons_zero, List.getElem_cons_succ]
      refine wpAnyH_take (i := 8) (v := .pointer (some ⟨g, 0, none⟩)) rfl (by kernel_rfl) (by kernel_rfl) (by kernel_rfl) (fun _ _ _ h => h) (Or.inl ⟨by rfl, fun w hw => by obtain ⟨x, rfl⟩ := hw; go_simp⟩) hS ?_
      try simp only [Act.put, List.setIfInBounds_toArray, List.set_cons_zero, List.set_cons_succ, List.getElem_toArray, List.getElem_cons_zero, List.getElem_cons_succ]
      refine wpAnyH_take (i := 9) (v := .int .i64 F.w) rfl (by kernel_rfl) (by kernel_rfl) (by kernel_rfl) (fun _ _ _ h => h) (Or.inl ⟨by rfl, fun w hw => by obtain ⟨x, rfl⟩ := hw; go_simp⟩) hS ?_
      try simp only [Act.put, List.setIfInBounds_toArray, List.set_cons_zero, List.set_cons_succ, List.getElem_toArray, List.getElem_cons_zero, List.getElem_cons_succ]
      refine wpAnyH_take (i := 10) (v := .int .i64 s) rfl (by kernel_rfl) (by kernel_rfl) (by kernel_rfl) (fun _ _ _ h => h) (Or.inl ⟨by rfl, fun w hw => by obtain ⟨x, rfl⟩ := hw; go_simp⟩) hS ?_
      try simp only [Act.put, List.setIfInBounds_toArray, List.set_cons_zero, List.set_cons_succ, List.getElem_toArray, List.getElem_cons_zero, List.getElem_cons_succ]
      refine wpAnyH_take (i := 11) (v := .int .i64 z) rfl (by kernel_rfl) (by kernel_rfl) (by kernel_rfl) (fun _ _ _ h => h) (Or.inl ⟨by rfl, fun w hw => by obtain ⟨x, rfl⟩ := hw; go_simp⟩) hS ?_
      try simp only [Act.put, List.setIfInBounds_toArray, List.set_cons_zero, List.set_cons_succ, List.getElem_toArray, List.getElem_cons_zero, List.getElem_cons_succ]
      refine wpAnyH_take (i := 12) (v := .pointer (some ⟨g, 0, none⟩)) rfl (by kernel_rfl) (by kernel_rfl) (by kernel_rfl) (fun _ _ _ h => h) (Or.inl ⟨by rfl, fun w hw => by obtain ⟨x, rfl⟩ := hw; go_simp⟩) hS ?_
      try simp only [Act.put, List.setIfInBounds_toArray, List.set_cons_zero, List.set_cons_succ, List.getElem_toArray, List.getElem_cons_zero, List.getElem_cons_succ]
      refine wpAnyH_take (i := 13) (v := .int .i64 F.w) rfl (by kernel_rfl) (by kernel_rfl) (by kernel_rfl) (fun _ _ _ h => h) (Or.inl ⟨by rfl, fun w hw => by obtain ⟨x, rfl⟩ := hw; go_simp⟩) hS ?_
      try simp only [Act.put, List.setIfInBounds_toArray, List.set_cons_zero, List.set_cons_succ, List.getElem_toArray, List.getElem_cons_zero, List.getElem_cons_succ]
      refine wpAnyH_take (i := 14) (v := .int .i64 p2) rfl (by kernel_rfl) (by kernel_rfl) (by kernel_rfl) (fun _ _ _ h => h) (Or.inl ⟨by rfl, fun w hw => by obtain ⟨x, rfl⟩ := hw; go_simp⟩) hS ?_
      try simp only [Act.put, List.setIfInBounds_toArray, List.set_cons_zero, List.set_cons_succ, List.getElem_toArray, List.getElem_cons_zero, List.getElem_cons_succ]
      refine wpAnyH_take (i := 15) (v := .int .i64 (k : Int)) rfl (by kernel_rfl) (by kernel_rfl) (by kernel_rfl) (fun _ _ _ h => h) (Or.inl ⟨by rfl, fun w hw => by obtain ⟨x, rfl⟩ := hw; go_simp⟩) hS ?_
      try simp only [Act.put, List.setIfInBounds_toArray, List.set_cons_zero, List.set_cons_succ, List.getElem_toArray, List.getElem_cons_zero, List.getElem_cons_succ]
      refine wpAnyH_take (i := 16) (v := .pointer (some ⟨g, 0, none⟩)) rfl (by kernel_rfl) (by kernel_rfl) (by kernel_rfl) (fun _ _ _ h => h) (Or.inl ⟨by rfl, fun w hw => by obtain ⟨x, rfl⟩ := hw; go_simp⟩) hS ?_
      try simp only [Act.put, List.setIfInBounds_toArray, List.set_cons_zero, List.set_cons_succ, List.getElem_toArray, List.getElem_cons_zero, List.getElem_cons_succ]
      refine wpAnyH_take (i := 17) (v := .int .i64 F.w) rfl (by kernel_rfl) (by kernel_rfl) (by kernel_rfl) (fun _ _ _ h => h) (Or.inl ⟨by rfl, fun w hw => by obtain ⟨x, rfl⟩ := hw; go_simp⟩) hS ?_
      try simp only [Act.put, List.setIfInBounds_toArray, List.set_cons_zero, List.set_cons_succ, List.getElem_toArray, List.getElem_cons_zero, List.getElem_cons_succ]
      refine wpAnyH_take (i := 18) (v := .int .i64 r) rfl (by kernel_rfl) (by kernel_rfl) (by kernel_rfl) (fun _ _ _ h => h) (Or.inl ⟨by rfl, fun w hw => by obtain ⟨x, rfl⟩ := hw; go_simp⟩) hS ?_
      try simp only [Act.put, List.setIfInBounds_toArray, List.set_cons_zero, List.set_cons_succ, List.getElem_toArray, List.getElem_cons_zero, List.getElem_cons_succ]
      refine wpAnyH_take (i := 19) (v := .int .i64 (nb : Int)) rfl (by kernel_rfl) (by kernel_rfl) (by kernel_rfl) (fun _ _ _ h => h) (Or.inl ⟨by rfl, fun w hw => by obtain ⟨x, rfl⟩ := hw; go_simp⟩) hS ?_
      try simp only [Act.put, List.setIfInBounds_toArray, List.set_cons_zero, List.set_cons_succ, List.getElem_toArray, List.getElem_cons_zero, List.getElem_cons_succ]
      refine wpAnyH_take (i := 20) (v := .pointer (some ⟨b, off + nb * 4, none⟩)) rfl (by kernel_rfl) (by kernel_rfl) (by kernel_rfl) (fun _ _ _ h => h) (Or.inl ⟨by rfl, fun w hw => by obtain ⟨x, rfl⟩ := hw; go_simp⟩) hS ?_
      try simp only [Act.put, List.setIfInBounds_toArray, List.set_cons_zero, List.set_cons_succ, List.getElem_toArray, List.getElem_cons_zero, List.getElem_cons_succ]
      refine wpAnyH_take (i := 21) (v := .agg #[.int .u8 u2.r, .int .u8 u2.g, .int .u8 u2.b, .int .u8 u2.a]) rfl (by kernel_rfl) (by kernel_rfl) (by kernel_rfl) (fun _ _ _ h => h) (Or.inl ⟨by rfl, fun w hw => by obtain ⟨x, rfl⟩ := hw; go_simp⟩) hS ?_
      try simp only [Act.put, List.setIfInBounds_toArray, List.set_cons_zero, List.set_cons_succ, List.getElem_toArray, List.getElem_cons_zero, List.getElem_cons_succ]
      refine wpAnyH_ready (rs := [1, 22]) (by kernel_rfl) (by simp) ?_
      refine AllReadyH.cons rfl (fun K hK => ?_) ?_
      · skip
        go_simp
        refine hK.out _ _ ⟨⟨_, HD.out.bel⟩, rfl⟩ (fun hS => ?_)
        clear hK K
        try simp only [Act.put, List.setIfInBounds_toArray, List.set_cons_zero, List.set_cons_succ, List.getElem_toArray, List.getElem_cons_zero, List.getElem_cons_succ]
        refine wpAnyH_ready (rs := [22]) (by kernel_rfl) (by simp) ?_
        refine AllReadyH.cons rfl (fun K hK => ?_) AllReadyH.nil
        go_simp
        refine hK.out _ _ ⟨⟨_, HD.out.bel.alloc HD.out.bel.size _⟩, rfl⟩ (fun hS => ?_)
        clear hK K
        try simp only [Act.put, List.setIfInBounds_toArray, List.set_cons_zero, List.set_cons_succ, List.getElem_toArray, List.getElem_cons_zero, List.getElem_cons_succ]
        refine wpAnyH_ready (rs := [23]) (by kernel_rfl) (by simp) ?_
        refine AllReadyH.cons rfl (fun K hK => ?_) AllReadyH.nil
        rw [if_pos (by rfl)]
        refine opw_append (.tmp 76) (.tmp 97) (X.heap.size + 2) (.slice A2 cs2.length c2) cs2 u2 D.heap.size rfl rfl rfl (HD.out.ov.alloc _) (new_at1 _ _) (by omega) (by have := HD.out.size; simp; omega) ?_
        intro v' w6 hown hgrow hblk
        have hm := append_ofE HD.out.ov HD.out.size hown hgrow
        have h2 := HD.out.second hown hgrow hblk
        obtain ⟨A3, c3, rfl⟩ := hm.1.form
        have md := fB_cell ((hm.2.block _ (by omega)).trans HD.out.b)
        have mf := fB_free ((hm.2.block _ (by omega)).trans HD.out.b)
        rw [hgs] at md mf h2
        simp only [List.length_append, List.length_singleton] at h2
        obtain ⟨md0, md1, md2⟩ := md
        obtain ⟨mf0, mf1, mf2⟩ := mf
        refine hK.out _ _ ⟨⟨_, HD.out.bel.trans (hm.2.mono (by omega))⟩, rfl⟩ (fun hS => ?_)
        clear hK K
        try simp only [Act.put, List.setIfInBounds_toArray, List.set_cons_zero, List.set_cons_succ, List.getElem_toArray, List.getElem_cons_zero, List.getElem_cons_succ]
        refine wpAnyH_take (i := 24) (v := .pointer (some ⟨g + 1 + 1, 2, none⟩)) rfl (by kernel_rfl) (by kernel_rfl) (by kernel_rfl) (fun _ _ _ h => h) (Or.inl ⟨by rfl, fun w hw => by obtain ⟨x, rfl⟩ := hw; go_simp⟩) hS ?_
        try simp only [Act.put, List.setIfInBounds_toArray, List.set_cons_zero, List.set_cons_succ, List.getElem_toArray, List.getElem_cons_zero, List.getElem_cons_succ]
        refine wpAnyH_ready (rs := [25]) (by kernel_rfl) (by simp) ?_
        refine AllReadyH.cons rfl (fun K hK => ?_) AllReadyH.nil
        go_simp
        refine hK.out _ _ ⟨⟨_, h2.bel⟩, rfl⟩ (fun hS => ?_)
        clear hK K hS
        try simp only [Act.put, List.setIfInBounds_toArray, List.set_cons_zero, List.set_cons_succ, List.getElem_toArray, List.getElem_cons_zero, List.getElem_cons_succ]
        refine wpAnyH_done (by kernel_rfl) ?_ _
        go_wp2_with fail
        go_roundw
        case rel => exact ⟨k + 1, _, _, by omega, by go_num, by rw [HS1.out, HS2.out]; exact h2⟩
        case measure => simp [intOf]; omega
      refine AllReadyH.cons rfl (fun K hK => ?_) AllReadyH.nil
      · skip
        go_simp
        refine hK.out _ _ ⟨⟨_, HD.out.bel.alloc HD.out.bel.size _⟩, rfl⟩ (fun hS => ?_)
        clear hK K
        try simp only [Act.put, List.setIfInBounds_toArray, List.set_cons_zero, List.set_cons_succ, List.getElem_toArray, List.getElem_cons_zero, List.getElem_cons_succ]
        refine wpAnyH_ready (rs := [1]) (by kernel_rfl) (by simp) ?_
        refine AllReadyH.cons rfl (fun K hK => ?_) AllReadyH.nil
        go_simp
        refine hK.out _ _ ⟨⟨_, HD.out.bel.alloc HD.out.bel.size _⟩, rfl⟩ (fun hS => ?_)
        clear hK K
        try simp only [Act.put, List.setIfInBounds_toArray, List.set_cons_zero, List.set_cons_succ, List.getElem_toArray, List.getElem_cons_zero, List.getElem_cons_succ]
        refine wpAnyH_ready (rs := [23]) (by kernel_rfl) (by simp) ?_
        refine AllReadyH.cons rfl (fun K hK => ?_) AllReadyH.nil
        rw [if_pos (by rfl)]
        refine opw_append (.tmp 76) (.tmp 97) (X.heap.size + 2) (.slice A2 cs2.length c2) cs2 u2 D.heap.size rfl rfl rfl (HD.out.ov.alloc _) (new_at1 _ _) (by omega) (by have := HD.out.size; simp; omega) ?_
        intro v' w6 hown hgrow hblk
        have hm := append_ofE HD.out.ov HD.out.size hown hgrow
        have h2 := HD.out.second hown hgrow hblk
        obtain ⟨A3, c3, rfl⟩ := hm.1.form
        have md := fB_cell ((hm.2.block _ (by omega)).trans HD.out.b)
        have mf := fB_free ((hm.2.block _ (by omega)).trans HD.out.b)
        rw [hgs] at md mf h2
        simp only [List.length_append, List.length_singleton] at h2
        obtain ⟨md0, md1, md2⟩ := md
        obtain ⟨mf0, mf1, mf2⟩ := mf
        refine hK.out _ _ ⟨⟨_, HD.out.bel.trans (hm.2.mono (by omega))⟩, rfl⟩ (fun hS => ?_)
        clear hK K
        try simp only [Act.put, List.setIfInBounds_toArray, List.set_cons_zero, List.set_cons_succ, List.getElem_toArray, List.getElem_cons_zero, List.getElem_cons_succ]
        refine wpAnyH_take (i := 24) (v := .pointer (some ⟨g + 1 + 1, 2, none⟩)) rfl (by kernel_rfl) (by kernel_rfl) (by kernel_rfl) (fun _ _ _ h => h) (Or.inl ⟨by rfl, fun w hw => by obtain ⟨x, rfl⟩ := hw; go_simp⟩) hS ?_
        try simp only [Act.put, List.setIfInBounds_toArray, List.set_cons_zero, List.set_cons_succ, List.getElem_toArray, List.getElem_cons_zero, List.getElem_cons_succ]
        refine wpAnyH_ready (rs := [25]) (by kernel_rfl) (by simp) ?_
        refine AllReadyH.cons rfl (fun K hK => ?_) AllReadyH.nil
        go_simp
        refine hK.out _ _ ⟨⟨_, h2.bel⟩, rfl⟩ (fun hS => ?_)
        clear hK K hS
        try simp only [Act.put, List.setIfInBounds_toArray, List.set_cons_zero, List.set_cons_succ, List.getElem_toArray, List.getElem_cons_zero, List.getElem_cons_succ]
        refine wpAnyH_done (by kernel_rfl) ?_ _
        go_wp2_with fail
        go_roundw
        case rel => exact ⟨k + 1, _, _, by omega, by go_num, by rw [HS1.out, HS2.out]; exact h2⟩
        case measure => simp [intOf]; omega
    · obtain rfl : m = (k : Int) := by omega
      have eP1 : ofT F.w F.h (movC F by_) = ⟨F.w, F.h, (List.range k).map (movC F by_)⟩ := by unfold ofT; rw [HM.out, Int.toNat_natCast]
      have eP2 : ofT F.w F.h (turC F) = ⟨F.w, F.h, (List.range k).map (turC F)⟩ := by unfold ofT; rw [HM.out, Int.toNat_natCast]
      have okc : ∀ l : List Col, (∀ c ∈ l, c.ok) → ∀ n, (l.getD n zC).ok := fun l h n => getD_ok h n
      have okM : (ofT F.w F.h (movC F by_)).ok := ofT_ok (fun _ => okc _ HFK.out _)
      have at1 := mov_at HG.out by_ x y
      have at2 := tur_at HG.out x y
      have sm1 := mov_smooth HG.out by_ x y
      have ne1 := mov_near HG.out by_ x y
      rw [eP1] at okM at1 sm1 ne1
      rw [eP2] at at2
      generalize (List.range k).map (movC F by_) = cs1 at *
      generalize (List.range k).map (turC F) = cs2 at *
      have PM := Lib.hid (Es.own HT.out.ou).2
      have PT := Lib.hid (Es.own HT.out.ov).2
      have EW := Lib.hid (EF.out.up HT.out.bel)
      have BX := Lib.hid (bstep B5.out B5.out.size HT.out.bel)
      have ma := fB_cell HT.out.a
      have mb := fB_cell HT.out.b
      rw [hgs] at ma mb
      have wk : IntKind.i64.wrap (x + by_) = x + by_ := by rw [IntKind.wrap_i64]; omega
      have wk2 : IntKind.i64.wrap (16 * by_) = 16 * by_ := by rw [IntKind.wrap_i64]; omega
      have wk3 : IntKind.i64.wrap (x + 16 * by_) = x + 16 * by_ := by rw [IntKind.wrap_i64]; omega
      have wk4 : IntKind.i64.wrap (-1 - y) = -1 - y := by rw [IntKind.wrap_i64]; omega
      have FX : Far x := by unfold Far; omega
      have FY : Far y := by unfold Far; omega
      have FXK : Far (x + by_) := by unfold Far; omega
      have FX2 : Far (x + 16 * by_) := by unfold Far; omega
      have FY2 : Far (-1 - y) := by unfold Far; omega
      have C1 := Lib.hid (show ∀ x' : Grow wr, Calls Try.prog 14 #[.agg #[.int .i64 F.w, .int .i64 F.h, .slice A1 cs1.length c1], .int .i64 x, .int .i64 y] x'.w fun e w' => e = .returned (.agg #[.int .u8 (F.at (x + by_) y).r, .int .u8 (F.at (x + by_) y).g, .int .u8 (F.at (x + by_) y).b, .int .u8 (F.at (x + by_) y).a]) ∧ Below x'.w.heap.size x'.w w' from fun x' => by
        have h := texel_any ⟨F.w, F.h, cs1⟩ A1 c1 x y FX.i64 FY.i64 x'.w (PM.out.up x'.below)
        rw [at1] at h
        exact h)
      have C2 := Lib.hid (show ∀ x' : Grow wr, Calls Try.prog 14 #[.agg #[.int .i64 F.w, .int .i64 F.h, .slice A' F.px.length c'], .int .i64 (x + by_), .int .i64 y] x'.w fun e w' => e = .returned (.agg #[.int .u8 (F.at (x + by_) y).r, .int .u8 (F.at (x + by_) y).g, .int .u8 (F.at (x + by_) y).b, .int .u8 (F.at (x + by_) y).a]) ∧ Below x'.w.heap.size x'.w w' from fun x' => by
        have h := texel_any F A' c' (x + by_) y FXK.i64 FY.i64 x'.w (EW.out.up x'.below)
        exact h)
      have C3 := Lib.hid (show ∀ x' : Grow wr, Calls Try.prog 14 #[.agg #[.int .i64 F.w, .int .i64 F.h, .slice A2 cs2.length c2], .int .i64 x, .int .i64 y] x'.w fun e w' => e = .returned (.agg #[.int .u8 (F.at x (-1 - y)).r, .int .u8 (F.at x (-1 - y)).g, .int .u8 (F.at x (-1 - y)).b, .int .u8 (F.at x (-1 - y)).a]) ∧ Below x'.w.heap.size x'.w w' from fun x' => by
        have h := texel_any ⟨F.w, F.h, cs2⟩ A2 c2 x y FX.i64 FY.i64 x'.w (PT.out.up x'.below)
        rw [at2] at h
        exact h)
      have C4 := Lib.hid (show ∀ x' : Grow wr, Calls Try.prog 14 #[.agg #[.int .i64 F.w, .int .i64 F.h, .slice A' F.px.length c'], .int .i64 x, .int .i64 (-1 - y)] x'.w fun e w' => e = .returned (.agg #[.int .u8 (F.at x (-1 - y)).r, .int .u8 (F.at x (-1 - y)).g, .int .u8 (F.at x (-1 - y)).b, .int .u8 (F.at x (-1 - y)).a]) ∧ Below x'.w.heap.size x'.w w' from fun x' => by
        have h := texel_any F A' c' x (-1 - y) FX.i64 FY2.i64 x'.w (EW.out.up x'.below)
        exact h)
      have S1 := Lib.hid (show ∀ x' : Grow wr, Calls Try.prog 18 #[.agg #[.int .i64 F.w, .int .i64 F.h, .slice A1 cs1.length c1], .int .i64 x, .int .i64 y] x'.w fun e w' => e = .returned (.agg #[.int .u8 (F.smooth (x + 16 * by_) y).r, .int .u8 (F.smooth (x + 16 * by_) y).g, .int .u8 (F.smooth (x + 16 * by_) y).b, .int .u8 (F.smooth (x + 16 * by_) y).a]) ∧ Below x'.w.heap.size x'.w w' from fun x' => by
        have h := smooth_any ⟨F.w, F.h, cs1⟩ okM A1 c1 x y FX FY x'.w (PM.out.up x'.below)
        rw [sm1] at h
        exact h)
      have S2 := Lib.hid (show ∀ x' : Grow wr, Calls Try.prog 18 #[.agg #[.int .i64 F.w, .int .i64 F.h, .slice A' F.px.length c'], .int .i64 (x + 16 * by_), .int .i64 y] x'.w fun e w' => e = .returned (.agg #[.int .u8 (F.smooth (x + 16 * by_) y).r, .int .u8 (F.smooth (x + 16 * by_) y).g, .int .u8 (F.smooth (x + 16 * by_) y).b, .int .u8 (F.smooth (x + 16 * by_) y).a]) ∧ Below x'.w.heap.size x'.w w' from fun x' => by
        have h := smooth_any F HFK.out A' c' (x + 16 * by_) y FX2 FY x'.w (EW.out.up x'.below)
        exact h)
      have N1 := Lib.hid (show ∀ x' : Grow wr, Calls Try.prog 16 #[.agg #[.int .i64 F.w, .int .i64 F.h, .slice A1 cs1.length c1], .int .i64 x, .int .i64 y] x'.w fun e w' => e = .returned (.agg #[.int .u8 (F.near (x + 16 * by_) y).r, .int .u8 (F.near (x + 16 * by_) y).g, .int .u8 (F.near (x + 16 * by_) y).b, .int .u8 (F.near (x + 16 * by_) y).a]) ∧ Below x'.w.heap.size x'.w w' from fun x' => by
        have h := near_any ⟨F.w, F.h, cs1⟩ A1 c1 x y FX.i64 FY.i64 x'.w (PM.out.up x'.below)
        rw [ne1] at h
        exact h)
      have N2 := Lib.hid (show ∀ x' : Grow wr, Calls Try.prog 16 #[.agg #[.int .i64 F.w, .int .i64 F.h, .slice A' F.px.length c'], .int .i64 (x + 16 * by_), .int .i64 y] x'.w fun e w' => e = .returned (.agg #[.int .u8 (F.near (x + 16 * by_) y).r, .int .u8 (F.near (x + 16 * by_) y).g, .int .u8 (F.near (x + 16 * by_) y).b, .int .u8 (F.near (x + 16 * by_) y).a]) ∧ Below x'.w.heap.size x'.w w' from fun x' => by
        have h := near_any F A' c' (x + 16 * by_) y FX2.i64 FY.i64 x'.w (EW.out.up x'.below)
        exact h)
      generalize F.at (x + by_) y = q1 at *
      generalize F.at x (-1 - y) = q2 at *
      generalize F.smooth (x + 16 * by_) y = q3 at *
      generalize F.near (x + 16 * by_) y = q4 at *
      clear FX FY FXK FX2 FY2 at1 at2 sm1 ne1 okM eP1 eP2 okc hcl1 hcl2
      go_wp2_with fail
      have y0 : ∀ x : Grow wr, x.w.cell? ⟨g, 0, none⟩ = some (.int .i64 F.w) := fun x => x.cell e0
      have y1 : ∀ x : Grow wr, x.w.cell? ⟨g, 1, none⟩ = some (.int .i64 F.h) := fun x => x.cell e1
      have y2 : ∀ x : Grow wr, x.w.cell? ⟨g, 2, none⟩ = some (.slice A' F.px.length c') := fun x => x.cell e2
      have u0 : ∀ x : Grow wr, x.w.cell? ⟨g + 1, 0, none⟩ = some (.int .i64 F.w) := fun x => x.cell ma.1
      have u1 : ∀ x : Grow wr, x.w.cell? ⟨g + 1, 1, none⟩ = some (.int .i64 F.h) := fun x => x.cell ma.2.1
      have u2 : ∀ x : Grow wr, x.w.cell? ⟨g + 1, 2, none⟩ = some (.slice A1 cs1.length c1) := fun x => x.cell ma.2.2
      have v0 : ∀ x : Grow wr, x.w.cell? ⟨g + 1 + 1, 0, none⟩ = some (.int .i64 F.w) := fun x => x.cell mb.1
      have v1 : ∀ x : Grow wr, x.w.cell? ⟨g + 1 + 1, 1, none⟩ = some (.int .i64 F.h) := fun x => x.cell mb.2.1
      have v2 : ∀ x : Grow wr, x.w.cell? ⟨g + 1 + 1, 2, none⟩ = some (.slice A2 cs2.length c2) := fun x => x.cell mb.2.2
      have ne := Grow.ne wr
      clear e0 e1 e2 ma mb
      refine wp_region_grow (by kernel_rfl) (by kernel_rfl) ?_
      repeat (first | go_big_quiet_skip | go_big_quiet_step (first | (go_at_call 14; first | (with_reducible exact Grow.calls (C1.out _)) | (with_reducible exact Grow.calls (C2.out _)) | (with_reducible exact Grow.calls (C3.out _)) | (with_reducible exact Grow.calls (C4.out _))) | (go_at_call 16; first | (with_reducible exact Grow.calls (N1.out _)) | (with_reducible exact Grow.calls (N2.out _))) | (go_at_call 18; first | (with_reducible exact Grow.calls (S1.out _)) | (with_reducible exact Grow.calls (S2.out _)))))
      refine wpQuiet_nil ?_
      rintro _ ⟨x', rfl⟩
      have B9 := Lib.hid (bstep BX.out BX.out.size x'.below)
      clear y0 y1 y2 u0 u1 u2 v0 v1 v2 ne C1 C2 C3 C4 S1 S2 N1 N2
      generalize x'.w = Y2 at *
      clear x'
      go_wp2_with fail
      go_ret
      exact ⟨rfl, B9.out⟩
end Go.Proofs.Ytbhailpnfohomaa
