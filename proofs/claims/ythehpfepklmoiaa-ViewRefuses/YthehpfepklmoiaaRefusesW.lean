/-
  ViewRefuses' walk.
-/
import Derived.Test.YthehpfepklmoiaaPoints
import Derived.Test.YthehpfepklmoiaaPt
import Derived.Test.YthehpfepklmoiaaSetV
namespace Go.Proofs.Ythehpfepklmoiaa
open Go.RowKit
attribute [local go_sem ↓] Go.wp_at_zero Go.wp_at_succ

theorem ownV_empty (w : World) (base : Nat) (h : base ≤ w.heap.size) : OwnV (w.alloc (.cells #[] 27)) base (.slice (some ⟨w.heap.size, 0, none⟩) 0 0) [] :=
  ⟨rfl, .inr ⟨_, 0, #[], rfl, h, heap_alloc_new _ _, Nat.le_refl _, by unfold maxLen; omega, rfl, rfl⟩⟩

def FewAt (f : V → V) (xs : List V) (w : World) (b i : Value) (wr : World) : Prop :=
  ∃ k : Nat, k ≤ xs.length ∧ k ≤ 20 ∧ i = .int .i64 k ∧ OwnV wr w.heap.size b ((xs.take k).map f) ∧ Below w.heap.size w wr

theorem fits_ok (xs : List V) : ∀ v ∈ (xs.take 20).map fitV, v.ok := by
  intro v hv
  obtain ⟨u, -, rfl⟩ := List.mem_map.1 hv
  exact fitV_ok u
theorem okAll_ok {m k : Int} {L : List V} (h : ∀ v ∈ L, v.ok) (hm0 : 1 ≤ m) (hm1 : m ≤ 64) (hk0 : 1 ≤ k) (hk1 : k ≤ 64) : okAll m k L = true := by
  unfold okAll
  rw [List.all_eq_true]
  exact fun v hv => (okP_fit m k v (h v hv) hm0 hm1 hk0 hk1).1
theorem okAll_scr {m k : Int} {L : List V} (hs : scr m k = false) (hne : L ≠ []) : okAll m k L = false := by
  cases L with
  | nil => exact absurd rfl hne
  | cons x L => simp [okAll, okP, hs]
theorem okAll_zero {m k : Int} {L : List V} {j : Nat} {u : V} (hj : L[j]? = some u) (h0 : u.w = 0) : okAll m k L = false := by
  unfold okAll
  rw [List.all_eq_false]
  exact ⟨u, List.mem_of_getElem? hj, by simp [okP, h0]⟩

set_option maxRecDepth 100000 in
set_option maxHeartbeats 4000000 in
theorem refuses_walk (A : Option Addr) (c : Nat) (xs : List V) (nb mb : Int) (w : World) (hxs : Vs w w.heap.size A xs) (hb0 : 0 ≤ nb) (hb1 : nb ≤ 255) (hm0 : 0 ≤ mb) :
    Calls Try.prog 8 #[.slice A xs.length c, .int .u8 nb, .int .u8 mb] w fun e w' => e = .returned (.bool true) ∧ Below w.heap.size w w' := by
  obtain ⟨i0, hi, hz0, hz1, hz2⟩ := info_parts Try.info27
  have HI := Lib.hid hi
  have HZ := Lib.hid (And.intro hz0 (And.intro hz1 hz2))
  clear hi hz0 hz1 hz2
  have HX := Lib.hid hxs
  have HSH := Lib.hid (shown_any w)
  clear hxs
  generalize hn : xs.length = n
  have HN := Lib.hid hn
  clear hn
  go_enter Try.func8, Try.ntmps8
  go_wp2_with fail
  with_reducible refine (HSH.out).mono ?_
  rintro e w1 ⟨rfl, hb⟩
  have H1 := Lib.hid hb
  have hz1 := hb.size
  clear hb HSH
  go_wp2
  go_loopw [8, 9] (fun b i wr => FewAt fitV xs w1 b i wr) (fun _ i _ => 20 - (intOf i).toNat)
  case atStart => exact ⟨0, by omega, by omega, rfl, ownV_empty _ _ (Nat.le_refl _), (Below.refl _ _).alloc (Nat.le_refl _) _⟩
  case round =>
    obtain ⟨k, hk, hk20, rfl, ho, hbel⟩ := hrel
    rw [HN.out] at hk
    have HO := Lib.hid ho
    have HBE := Lib.hid hbel
    have hzr := hbel.size
    have hcl : ((xs.take k).map fitV).length ≤ 20 := by simp; omega
    clear ho hbel
    by_cases hlt : k < n
    · by_cases hlt20 : k < 20
      · obtain ⟨b', off, rfl, hbB, hcell⟩ := HX.out.open (k := k) (by rw [HN.out]; exact hlt)
        obtain ⟨u, hu, u8⟩ := hcell k (by rw [HN.out]; exact hlt)
        have HST := Lib.hid (show (xs.take (k + 1)).map fitV = (xs.take k).map fitV ++ [fitV u] by rw [List.take_add_one, hu]; simp)
        obtain ⟨e0, e1, e2, e3, e4, e5, e6, e7⟩ := (u8.below H1.out hbB).below HBE.out (by omega)
        have FT := Lib.hid (fit_any u)
        clear hcell hu u8
        generalize (xs.take k).map fitV = cs at HO HST hcl
        generalize fitV u = R at FT HST
        go_wp2_with fail
        with_reducible refine (FT.out _).mono ?_
        rintro e w2 ⟨rfl, hb2⟩
        have O2 := Lib.hid (HO.out.keep hb2)
        have B2 := Lib.hid (bstep HBE.out HBE.out.size hb2)
        have hz2 := B2.out.size
        clear hb2 e0 e1 e2 e3 e4 e5 e6 e7
        go_wp2_with (at_builtin; refine wpList_append_own _ rfl _ _ 23 rfl w1.heap.size 27 i0 _ 8 64 Try.underlying23 HI.out HZ.out.1 HZ.out.2.1 HZ.out.2.2 rfl (by decide) _ _ _ rfl (O2.out.alloc _).row _ 1 1 (cellsV R) rfl rfl new_cells (cellsV_one R) (by unfold maxLen; omega) (by omega) (by simp; omega) ?_; intro v' w5 hown' hgrow _; obtain ⟨ho3, hb3⟩ := append_ofV O2.out (by omega) hown' hgrow; have O3 := Lib.hid ho3; have B3 := Lib.hid (B2.out.trans hb3); clear ho3 hb3 hown' hgrow)
        go_roundw
        case rel => exact ⟨k + 1, by rw [HN.out]; omega, by omega, by go_num, by rw [HST.out]; exact O3.out, B3.out⟩
        case measure => simp [intOf]; omega
      · have hk' : k = 20 := by omega
        have HL := Lib.hid (fits_ok xs)
        have e : xs.take k = xs.take 20 := by rw [hk']
        have h := HO.out
        rw [e] at h
        have OL := Lib.hid h
        clear h e
        have hll : ((xs.take 20).map fitV).length ≤ 20 := by simp; omega
        clear hcl HO
        generalize (xs.take 20).map fitV = L at HL OL hll
        obtain ⟨A2, c2, rfl, hcap, hcm, hv⟩ := OL.out.vs
        have PT := points_any 64 1 A2 c2 L _ wr hv (Nat.le_refl _) (by omega) (fun v hv => (HL.out v hv).sm)
        have hyes : okAll 64 1 L = true := okAll_ok HL.out (by omega) (by omega) (by omega) (by omega)
        rw [hyes] at PT
        have hpl : (pts 64 1 L).length = L.length := by unfold pts; rw [if_pos hyes]; simp
        generalize pts 64 1 L = PL at PT hpl
        have PH := Lib.hid PT
        clear PT hyes hv
        generalize hln : L.length = ln at *
        have HLN := Lib.hid hln
        have HPL := Lib.hid hpl
        clear hln hpl
        go_wp2_with fail
        with_reducible refine (PH.out).mono ?_
        rintro e w2 ⟨v2, rfl, ho, hb⟩
        obtain ⟨A3, c3, rfl, -, -, -⟩ := ho.ps
        have H2 := Lib.hid (bstep (H1.out.trans (HBE.out.mono hz1)) (by omega) hb)
        have O2 := Lib.hid (show OwnV w2 w.heap.size (.slice A2 ln c2) L from (OL.out.keep hb).less hz1)
        have hv2 : Vs w2 w2.heap.size A2 L := by
          obtain ⟨A5, c5, e5, -, -, hv5⟩ := O2.out.vs
          rw [HLN.out] at e5
          obtain ⟨rfl, rfl⟩ : A2 = A5 ∧ c2 = c5 := by simpa using e5
          exact hv5
        have HV2 := Lib.hid hv2
        clear ho hb OL PH hv2
        rw [HPL.out]
        rcases (show mb % 4 = 0 ∨ mb % 4 = 1 ∨ mb % 4 = 2 ∨ mb % 4 = 3 by omega) with h4 | h4 | h4 | h4
        · have t4 : mb % 4 = 0 := h4
          have t4' : mb.tmod 4 = 0 := by rw [Int.tmod_eq_emod_of_nonneg hm0]; exact h4
          have PQ := points_any 65 1 A2 c2 L _ w2 HV2.out (Nat.le_refl _) (by rw [HLN.out]; omega) (fun v hv => (HL.out v hv).sm)
          by_cases hne : L = []
          · subst hne
            rw [show okAll 65 1 [] = true by rfl, show pts 65 1 [] = [] by rfl] at PQ
            have PR := Lib.hid PQ
            obtain rfl : ln = 0 := by rw [← HLN.out]; rfl
            rw [show ([] : List V).length = 0 from rfl] at PR
            clear PQ
            go_wp2_with fail
            with_reducible refine (PR.out).mono ?_
            rintro e w3 ⟨v3, rfl, ho, hb⟩
            obtain ⟨A4, c4, rfl, -, -, -⟩ := ho.ps
            have H3 := Lib.hid (bstep H2.out H2.out.size hb)
            clear ho hb
            rw [show ([] : List P).length = 0 from rfl]
            go_wp2
            go_ret
            exact ⟨rfl, H3.out⟩
          · have hpos : 0 < ln := by
              rw [← HLN.out]
              exact List.length_pos_iff.2 hne
            have hno : okAll 65 1 L = false := okAll_scr (by decide) hne
            rw [show pts 65 1 L = [] by unfold pts; rw [if_neg (by rw [hno]; decide)], hno, HLN.out] at PQ
            have PR := Lib.hid PQ
            clear PQ hno hne
            have hbz : ((ln : Int) == 0) = false := by
              rw [beq_eq_false_iff_ne]
              omega
            go_wp2_with fail
            with_reducible refine (PR.out).mono ?_
            rintro e w3 ⟨v3, rfl, ho, hb⟩
            obtain ⟨A4, c4, rfl, -, -, -⟩ := ho.ps
            have H3 := Lib.hid (bstep H2.out H2.out.size hb)
            clear ho hb
            rw [show ([] : List P).length = 0 from rfl]
            go_wp2
            go_ret
            exact ⟨rfl, H3.out⟩
        · have t4 : mb % 4 = 1 := h4
          have t4' : mb.tmod 4 = 1 := by rw [Int.tmod_eq_emod_of_nonneg hm0]; exact h4
          have PQ := points_any 64 0 A2 c2 L _ w2 HV2.out (Nat.le_refl _) (by rw [HLN.out]; omega) (fun v hv => (HL.out v hv).sm)
          by_cases hne : L = []
          · subst hne
            rw [show okAll 64 0 [] = true by rfl, show pts 64 0 [] = [] by rfl] at PQ
            have PR := Lib.hid PQ
            obtain rfl : ln = 0 := by rw [← HLN.out]; rfl
            rw [show ([] : List V).length = 0 from rfl] at PR
            clear PQ
            go_wp2_with fail
            with_reducible refine (PR.out).mono ?_
            rintro e w3 ⟨v3, rfl, ho, hb⟩
            obtain ⟨A4, c4, rfl, -, -, -⟩ := ho.ps
            have H3 := Lib.hid (bstep H2.out H2.out.size hb)
            clear ho hb
            rw [show ([] : List P).length = 0 from rfl]
            go_wp2
            go_ret
            exact ⟨rfl, H3.out⟩
          · have hpos : 0 < ln := by
              rw [← HLN.out]
              exact List.length_pos_iff.2 hne
            have hno : okAll 64 0 L = false := okAll_scr (by decide) hne
            rw [show pts 64 0 L = [] by unfold pts; rw [if_neg (by rw [hno]; decide)], hno, HLN.out] at PQ
            have PR := Lib.hid PQ
            clear PQ hno hne
            have hbz : ((ln : Int) == 0) = false := by
              rw [beq_eq_false_iff_ne]
              omega
            go_wp2_with fail
            with_reducible refine (PR.out).mono ?_
            rintro e w3 ⟨v3, rfl, ho, hb⟩
            obtain ⟨A4, c4, rfl, -, -, -⟩ := ho.ps
            have H3 := Lib.hid (bstep H2.out H2.out.size hb)
            clear ho hb
            rw [show ([] : List P).length = 0 from rfl]
            go_wp2
            go_ret
            exact ⟨rfl, H3.out⟩
        · have t4 : mb % 4 = 2 := h4
          have t4' : mb.tmod 4 = 2 := by rw [Int.tmod_eq_emod_of_nonneg hm0]; exact h4
          have PQ := points_any (-3) 1 A2 c2 L _ w2 HV2.out (Nat.le_refl _) (by rw [HLN.out]; omega) (fun v hv => (HL.out v hv).sm)
          by_cases hne : L = []
          · subst hne
            rw [show okAll (-3) 1 [] = true by rfl, show pts (-3) 1 [] = [] by rfl] at PQ
            have PR := Lib.hid PQ
            obtain rfl : ln = 0 := by rw [← HLN.out]; rfl
            rw [show ([] : List V).length = 0 from rfl] at PR
            clear PQ
            go_wp2_with fail
            with_reducible refine (PR.out).mono ?_
            rintro e w3 ⟨v3, rfl, ho, hb⟩
            obtain ⟨A4, c4, rfl, -, -, -⟩ := ho.ps
            have H3 := Lib.hid (bstep H2.out H2.out.size hb)
            clear ho hb
            rw [show ([] : List P).length = 0 from rfl]
            go_wp2
            go_ret
            exact ⟨rfl, H3.out⟩
          · have hpos : 0 < ln := by
              rw [← HLN.out]
              exact List.length_pos_iff.2 hne
            have hno : okAll (-3) 1 L = false := okAll_scr (by decide) hne
            rw [show pts (-3) 1 L = [] by unfold pts; rw [if_neg (by rw [hno]; decide)], hno, HLN.out] at PQ
            have PR := Lib.hid PQ
            clear PQ hno hne
            have hbz : ((ln : Int) == 0) = false := by
              rw [beq_eq_false_iff_ne]
              omega
            go_wp2_with fail
            with_reducible refine (PR.out).mono ?_
            rintro e w3 ⟨v3, rfl, ho, hb⟩
            obtain ⟨A4, c4, rfl, -, -, -⟩ := ho.ps
            have H3 := Lib.hid (bstep H2.out H2.out.size hb)
            clear ho hb
            rw [show ([] : List P).length = 0 from rfl]
            go_wp2
            go_ret
            exact ⟨rfl, H3.out⟩
        · have t4 : mb % 4 = 3 := h4
          have t4' : mb.tmod 4 = 3 := by rw [Int.tmod_eq_emod_of_nonneg hm0]; exact h4
          by_cases hne : L = []
          · subst hne
            obtain rfl : ln = 0 := by rw [← HLN.out]; rfl
            go_wp2
            go_ret
            exact ⟨rfl, H2.out⟩
          · have hpos : 0 < ln := by
              rw [← HLN.out]
              exact List.length_pos_iff.2 hne
            obtain ⟨g, c5, e5, hg, hcell⟩ := O2.out.at0 hne
            rw [HLN.out] at e5
            obtain ⟨rfl, rfl⟩ : A2 = some ⟨g, 0, none⟩ ∧ c2 = c5 := by simpa using e5
            obtain ⟨j, hj⟩ : ∃ j : Nat, nb % (ln : Int) = (j : Int) := Int.eq_ofNat_of_zero_le (Int.emod_nonneg _ (by omega))
            have hj1 : nb % (ln : Int) < ln := Int.emod_lt_of_pos _ (by omega)
            have hj' : nb.tmod (ln : Int) = (j : Int) := by rw [Int.tmod_eq_emod_of_nonneg hb0]; exact hj
            have hjn : j < ln := by omega
            have hjx : j < L.length := by rw [HLN.out]; exact hjn
            obtain ⟨u, hu⟩ : ∃ u, L[j]? = some u := ⟨_, List.getElem?_eq_getElem hjx⟩
            obtain ⟨-, -, -, q3, -, -, -, -⟩ := hcell j u hu
            have f3 := O2.out.free (j * 8 + 3)
            have O3 := Lib.hid (O2.out.set (r := 3) (u' := { u with w := 0 }) (x := .int .i64 0) hu (by omega) rfl)
            have hl3 : (L.set j { u with w := 0 }).length = ln := by rw [List.length_set]; exact HLN.out
            have V3 := O3.out.vs
            rw [hl3] at V3
            obtain ⟨A5, c5, e5, -, -, hv3⟩ := V3
            obtain ⟨rfl, rfl⟩ : some (⟨g, 0, none⟩ : Addr) = A5 ∧ c2 = c5 := by simpa using e5
            have hz : okAll 64 1 (L.set j { u with w := 0 }) = false := okAll_zero (j := j) (u := { u with w := 0 }) (by simp [hjx]) rfl
            have PQ := points_any 64 1 (some ⟨g, 0, none⟩) c2 (L.set j { u with w := 0 }) _ (w2.setCell ⟨g, j * 8 + 3, none⟩ (.int .i64 0)) hv3 (Nat.le_refl _) (by rw [hl3]; omega) (by
              intro v hv
              rcases List.mem_or_eq_of_mem_set hv with h | rfl
              · exact (HL.out v h).sm
              · have hs := (HL.out u (List.mem_of_getElem? hu)).sm
                exact ⟨hs.x, hs.y, hs.z, by simp only; omega, hs.a, hs.b, hs.c, hs.d⟩)
            rw [show pts 64 1 (L.set j { u with w := 0 }) = [] by unfold pts; rw [if_neg (by rw [hz]; decide)], hz, hl3] at PQ
            have PR := Lib.hid PQ
            have H3 := Lib.hid (H2.out.setCell (p := ⟨g, j * 8 + 3, none⟩) hg (.int .i64 0))
            have hg2 : g < w2.heap.size := World.block_lt_of_cell? _ _ q3
            clear PQ hz hne e5 hv3 hl3 O3 hu hjx hj1 hcell
            go_wp2_with fail
            with_reducible refine (PR.out).mono ?_
            rintro e w3 ⟨v3, rfl, ho, hb⟩
            obtain ⟨A4, c4, rfl, -, -, -⟩ := ho.ps
            have H4 := Lib.hid (bstep H3.out H3.out.size hb)
            clear ho hb
            rw [show ([] : List P).length = 0 from rfl]
            go_wp2
            go_ret
            exact ⟨rfl, H4.out⟩
    · have HL := Lib.hid (fits_ok xs)
      have e : xs.take k = xs.take 20 := by rw [List.take_of_length_le (by rw [HN.out]; omega), List.take_of_length_le (by rw [HN.out]; omega)]
      have h := HO.out
      rw [e] at h
      have OL := Lib.hid h
      clear h e
      have hll : ((xs.take 20).map fitV).length ≤ 20 := by simp; omega
      clear hcl HO
      generalize (xs.take 20).map fitV = L at HL OL hll
      obtain ⟨A2, c2, rfl, hcap, hcm, hv⟩ := OL.out.vs
      have PT := points_any 64 1 A2 c2 L _ wr hv (Nat.le_refl _) (by omega) (fun v hv => (HL.out v hv).sm)
      have hyes : okAll 64 1 L = true := okAll_ok HL.out (by omega) (by omega) (by omega) (by omega)
      rw [hyes] at PT
      have hpl : (pts 64 1 L).length = L.length := by unfold pts; rw [if_pos hyes]; simp
      generalize pts 64 1 L = PL at PT hpl
      have PH := Lib.hid PT
      clear PT hyes hv
      generalize hln : L.length = ln at *
      have HLN := Lib.hid hln
      have HPL := Lib.hid hpl
      clear hln hpl
      go_wp2_with fail
      with_reducible refine (PH.out).mono ?_
      rintro e w2 ⟨v2, rfl, ho, hb⟩
      obtain ⟨A3, c3, rfl, -, -, -⟩ := ho.ps
      have H2 := Lib.hid (bstep (H1.out.trans (HBE.out.mono hz1)) (by omega) hb)
      have O2 := Lib.hid (show OwnV w2 w.heap.size (.slice A2 ln c2) L from (OL.out.keep hb).less hz1)
      have hv2 : Vs w2 w2.heap.size A2 L := by
        obtain ⟨A5, c5, e5, -, -, hv5⟩ := O2.out.vs
        rw [HLN.out] at e5
        obtain ⟨rfl, rfl⟩ : A2 = A5 ∧ c2 = c5 := by simpa using e5
        exact hv5
      have HV2 := Lib.hid hv2
      clear ho hb OL PH hv2
      rw [HPL.out]
      rcases (show mb % 4 = 0 ∨ mb % 4 = 1 ∨ mb % 4 = 2 ∨ mb % 4 = 3 by omega) with h4 | h4 | h4 | h4
      · have t4 : mb % 4 = 0 := h4
        have t4' : mb.tmod 4 = 0 := by rw [Int.tmod_eq_emod_of_nonneg hm0]; exact h4
        have PQ := points_any 65 1 A2 c2 L _ w2 HV2.out (Nat.le_refl _) (by rw [HLN.out]; omega) (fun v hv => (HL.out v hv).sm)
        by_cases hne : L = []
        · subst hne
          rw [show okAll 65 1 [] = true by rfl, show pts 65 1 [] = [] by rfl] at PQ
          have PR := Lib.hid PQ
          obtain rfl : ln = 0 := by rw [← HLN.out]; rfl
          rw [show ([] : List V).length = 0 from rfl] at PR
          clear PQ
          go_wp2_with fail
          with_reducible refine (PR.out).mono ?_
          rintro e w3 ⟨v3, rfl, ho, hb⟩
          obtain ⟨A4, c4, rfl, -, -, -⟩ := ho.ps
          have H3 := Lib.hid (bstep H2.out H2.out.size hb)
          clear ho hb
          rw [show ([] : List P).length = 0 from rfl]
          go_wp2
          go_ret
          exact ⟨rfl, H3.out⟩
        · have hpos : 0 < ln := by
            rw [← HLN.out]
            exact List.length_pos_iff.2 hne
          have hno : okAll 65 1 L = false := okAll_scr (by decide) hne
          rw [show pts 65 1 L = [] by unfold pts; rw [if_neg (by rw [hno]; decide)], hno, HLN.out] at PQ
          have PR := Lib.hid PQ
          clear PQ hno hne
          have hbz : ((ln : Int) == 0) = false := by
            rw [beq_eq_false_iff_ne]
            omega
          go_wp2_with fail
          with_reducible refine (PR.out).mono ?_
          rintro e w3 ⟨v3, rfl, ho, hb⟩
          obtain ⟨A4, c4, rfl, -, -, -⟩ := ho.ps
          have H3 := Lib.hid (bstep H2.out H2.out.size hb)
          clear ho hb
          rw [show ([] : List P).length = 0 from rfl]
          go_wp2
          go_ret
          exact ⟨rfl, H3.out⟩
      · have t4 : mb % 4 = 1 := h4
        have t4' : mb.tmod 4 = 1 := by rw [Int.tmod_eq_emod_of_nonneg hm0]; exact h4
        have PQ := points_any 64 0 A2 c2 L _ w2 HV2.out (Nat.le_refl _) (by rw [HLN.out]; omega) (fun v hv => (HL.out v hv).sm)
        by_cases hne : L = []
        · subst hne
          rw [show okAll 64 0 [] = true by rfl, show pts 64 0 [] = [] by rfl] at PQ
          have PR := Lib.hid PQ
          obtain rfl : ln = 0 := by rw [← HLN.out]; rfl
          rw [show ([] : List V).length = 0 from rfl] at PR
          clear PQ
          go_wp2_with fail
          with_reducible refine (PR.out).mono ?_
          rintro e w3 ⟨v3, rfl, ho, hb⟩
          obtain ⟨A4, c4, rfl, -, -, -⟩ := ho.ps
          have H3 := Lib.hid (bstep H2.out H2.out.size hb)
          clear ho hb
          rw [show ([] : List P).length = 0 from rfl]
          go_wp2
          go_ret
          exact ⟨rfl, H3.out⟩
        · have hpos : 0 < ln := by
            rw [← HLN.out]
            exact List.length_pos_iff.2 hne
          have hno : okAll 64 0 L = false := okAll_scr (by decide) hne
          rw [show pts 64 0 L = [] by unfold pts; rw [if_neg (by rw [hno]; decide)], hno, HLN.out] at PQ
          have PR := Lib.hid PQ
          clear PQ hno hne
          have hbz : ((ln : Int) == 0) = false := by
            rw [beq_eq_false_iff_ne]
            omega
          go_wp2_with fail
          with_reducible refine (PR.out).mono ?_
          rintro e w3 ⟨v3, rfl, ho, hb⟩
          obtain ⟨A4, c4, rfl, -, -, -⟩ := ho.ps
          have H3 := Lib.hid (bstep H2.out H2.out.size hb)
          clear ho hb
          rw [show ([] : List P).length = 0 from rfl]
          go_wp2
          go_ret
          exact ⟨rfl, H3.out⟩
      · have t4 : mb % 4 = 2 := h4
        have t4' : mb.tmod 4 = 2 := by rw [Int.tmod_eq_emod_of_nonneg hm0]; exact h4
        have PQ := points_any (-3) 1 A2 c2 L _ w2 HV2.out (Nat.le_refl _) (by rw [HLN.out]; omega) (fun v hv => (HL.out v hv).sm)
        by_cases hne : L = []
        · subst hne
          rw [show okAll (-3) 1 [] = true by rfl, show pts (-3) 1 [] = [] by rfl] at PQ
          have PR := Lib.hid PQ
          obtain rfl : ln = 0 := by rw [← HLN.out]; rfl
          rw [show ([] : List V).length = 0 from rfl] at PR
          clear PQ
          go_wp2_with fail
          with_reducible refine (PR.out).mono ?_
          rintro e w3 ⟨v3, rfl, ho, hb⟩
          obtain ⟨A4, c4, rfl, -, -, -⟩ := ho.ps
          have H3 := Lib.hid (bstep H2.out H2.out.size hb)
          clear ho hb
          rw [show ([] : List P).length = 0 from rfl]
          go_wp2
          go_ret
          exact ⟨rfl, H3.out⟩
        · have hpos : 0 < ln := by
            rw [← HLN.out]
            exact List.length_pos_iff.2 hne
          have hno : okAll (-3) 1 L = false := okAll_scr (by decide) hne
          rw [show pts (-3) 1 L = [] by unfold pts; rw [if_neg (by rw [hno]; decide)], hno, HLN.out] at PQ
          have PR := Lib.hid PQ
          clear PQ hno hne
          have hbz : ((ln : Int) == 0) = false := by
            rw [beq_eq_false_iff_ne]
            omega
          go_wp2_with fail
          with_reducible refine (PR.out).mono ?_
          rintro e w3 ⟨v3, rfl, ho, hb⟩
          obtain ⟨A4, c4, rfl, -, -, -⟩ := ho.ps
          have H3 := Lib.hid (bstep H2.out H2.out.size hb)
          clear ho hb
          rw [show ([] : List P).length = 0 from rfl]
          go_wp2
          go_ret
          exact ⟨rfl, H3.out⟩
      · have t4 : mb % 4 = 3 := h4
        have t4' : mb.tmod 4 = 3 := by rw [Int.tmod_eq_emod_of_nonneg hm0]; exact h4
        by_cases hne : L = []
        · subst hne
          obtain rfl : ln = 0 := by rw [← HLN.out]; rfl
          go_wp2
          go_ret
          exact ⟨rfl, H2.out⟩
        · have hpos : 0 < ln := by
            rw [← HLN.out]
            exact List.length_pos_iff.2 hne
          obtain ⟨g, c5, e5, hg, hcell⟩ := O2.out.at0 hne
          rw [HLN.out] at e5
          obtain ⟨rfl, rfl⟩ : A2 = some ⟨g, 0, none⟩ ∧ c2 = c5 := by simpa using e5
          obtain ⟨j, hj⟩ : ∃ j : Nat, nb % (ln : Int) = (j : Int) := Int.eq_ofNat_of_zero_le (Int.emod_nonneg _ (by omega))
          have hj1 : nb % (ln : Int) < ln := Int.emod_lt_of_pos _ (by omega)
          have hj' : nb.tmod (ln : Int) = (j : Int) := by rw [Int.tmod_eq_emod_of_nonneg hb0]; exact hj
          have hjn : j < ln := by omega
          have hjx : j < L.length := by rw [HLN.out]; exact hjn
          obtain ⟨u, hu⟩ : ∃ u, L[j]? = some u := ⟨_, List.getElem?_eq_getElem hjx⟩
          obtain ⟨-, -, -, q3, -, -, -, -⟩ := hcell j u hu
          have f3 := O2.out.free (j * 8 + 3)
          have O3 := Lib.hid (O2.out.set (r := 3) (u' := { u with w := 0 }) (x := .int .i64 0) hu (by omega) rfl)
          have hl3 : (L.set j { u with w := 0 }).length = ln := by rw [List.length_set]; exact HLN.out
          have V3 := O3.out.vs
          rw [hl3] at V3
          obtain ⟨A5, c5, e5, -, -, hv3⟩ := V3
          obtain ⟨rfl, rfl⟩ : some (⟨g, 0, none⟩ : Addr) = A5 ∧ c2 = c5 := by simpa using e5
          have hz : okAll 64 1 (L.set j { u with w := 0 }) = false := okAll_zero (j := j) (u := { u with w := 0 }) (by simp [hjx]) rfl
          have PQ := points_any 64 1 (some ⟨g, 0, none⟩) c2 (L.set j { u with w := 0 }) _ (w2.setCell ⟨g, j * 8 + 3, none⟩ (.int .i64 0)) hv3 (Nat.le_refl _) (by rw [hl3]; omega) (by
            intro v hv
            rcases List.mem_or_eq_of_mem_set hv with h | rfl
            · exact (HL.out v h).sm
            · have hs := (HL.out u (List.mem_of_getElem? hu)).sm
              exact ⟨hs.x, hs.y, hs.z, by simp only; omega, hs.a, hs.b, hs.c, hs.d⟩)
          rw [show pts 64 1 (L.set j { u with w := 0 }) = [] by unfold pts; rw [if_neg (by rw [hz]; decide)], hz, hl3] at PQ
          have PR := Lib.hid PQ
          have H3 := Lib.hid (H2.out.setCell (p := ⟨g, j * 8 + 3, none⟩) hg (.int .i64 0))
          have hg2 : g < w2.heap.size := World.block_lt_of_cell? _ _ q3
          clear PQ hz hne e5 hv3 hl3 O3 hu hjx hj1 hcell
          go_wp2_with fail
          with_reducible refine (PR.out).mono ?_
          rintro e w3 ⟨v3, rfl, ho, hb⟩
          obtain ⟨A4, c4, rfl, -, -, -⟩ := ho.ps
          have H4 := Lib.hid (bstep H3.out H3.out.size hb)
          clear ho hb
          rw [show ([] : List P).length = 0 from rfl]
          go_wp2
          go_ret
          exact ⟨rfl, H4.out⟩
end Go.Proofs.Ythehpfepklmoiaa
