/-
  ClipStays' walk.
-/
import Derived.Test.YtfheipejbdfjbaaSet
import Derived.Test.YtfheipejbdfjbaaSame
import Derived.Test.YtfheipejbdfjbaaFewW
namespace Go.Proofs.Ytfheipejbdfjbaa
open Go.RowKit
attribute [local go_sem ↓] Go.wp_at_zero Go.wp_at_succ

def StayAt (p : Int) (L : List V) (w : World) (v i : Value) (wr : World) : Prop :=
  ∃ k : Nat, k ≤ L.length ∧ i = .int .i64 k ∧ OwnV wr w.heap.size v (part (stay p) L k) ∧ Below w.heap.size w wr

set_option maxRecDepth 100000 in
set_option maxHeartbeats 4000000 in
theorem stays_walk (A : Option Addr) (c : Nat) (xs : List V) (nb : Int) (w : World) (hxs : Vs w w.heap.size A xs) (hb0 : 0 ≤ nb) (hb1 : nb ≤ 255) :
    Calls Try.prog 4 #[.slice A xs.length c, .int .u8 nb] w fun e w' => e = .returned (.bool true) ∧ Below w.heap.size w w' := by
  have HX := Lib.hid hxs
  have HS := Lib.hid (shown_any w)
  clear hxs
  generalize hn : xs.length = n
  have HN := Lib.hid hn
  clear hn
  obtain ⟨p, hp⟩ : ∃ m, nb.tmod 6 = m := ⟨_, rfl⟩
  have hp0 : 0 ≤ p ∧ p < 6 := by rw [← hp]; exact ⟨Int.tmod_nonneg _ hb0, Int.tmod_lt_of_pos _ (by decide)⟩
  go_enter Try.func4, Try.ntmps4
  go_wp2_with fail
  with_reducible refine (HS.out).mono ?_
  rintro e w1 ⟨rfl, hb⟩
  have H1 := Lib.hid hb
  have FT := Lib.hid (HN.out ▸ fit_l A c xs _ w1 (HX.out.below hb))
  clear hb
  have HL := Lib.hid (fit_ok (xs.take 8))
  have hll : ((xs.take 8).map fitV).length ≤ 8 := by simp; omega
  generalize (xs.take 8).map fitV = L at FT HL hll
  go_wp2_with fail
  with_reducible refine (FT.out).mono ?_
  rintro e w2 ⟨v, rfl, ho, hb⟩
  have H2 := Lib.hid hb
  have O2 := Lib.hid ho
  have hz1 := H1.out.size
  obtain ⟨A2, c2, rfl, -, -, -⟩ := ho.vs
  generalize hln : L.length = ln at hll O2 ⊢
  have HLN := Lib.hid hln
  clear hb ho hln hp
  go_wp2
  go_loopw [8] (fun i wr => StayAt p L w1 (.slice A2 ln c2) i wr) (fun i _ => ln - (intOf i).toNat)
  case atStart => exact ⟨0, by omega, rfl, O2.out, H2.out⟩
  case round =>
    obtain ⟨k, hk, rfl, ho, hbel⟩ := hrel
    rw [HLN.out] at hk
    have HO := Lib.hid ho
    have HBE := Lib.hid hbel
    have hzr := hbel.size
    clear ho hbel
    by_cases hlt : k < ln
    · obtain ⟨u, hu⟩ : ∃ u, L[k]? = some u := ⟨_, List.getElem?_eq_getElem (by rw [HLN.out]; exact hlt)⟩
      have HPG := Lib.hid (part_get (f := stay p) hu)
      have HPS := Lib.hid (part_set (f := stay p) hu)
      have hok := HL.out u (List.mem_of_getElem? hu)
      obtain ⟨g, c3, hsl, hgb, hcell⟩ := HO.out.at0 (by intro e; have := part_length (stay p) L k; rw [e, HLN.out] at this; simp at this; omega)
      obtain ⟨rfl, -, rfl⟩ : A2 = some ⟨g, 0, none⟩ ∧ ln = (part (stay p) L k).length ∧ c2 = c3 := by simpa using hsl
      clear hsl
      obtain ⟨e0, e1, e2, e3, -, -, -, -⟩ := hcell k u HPG.out
      have hfr := HO.out.free
      have f0 := hfr (k * 8)
      have f1 := hfr (k * 8 + 1)
      have f2 := hfr (k * 8 + 2)
      have hw := hok.w
      generalize hx1 : u.x.tmod (4 * u.w + 1) = x1
      generalize hy1 : u.y.tmod (4 * u.w + 1) = y1
      generalize hz3 : u.z.tmod (u.w + 1) = z1
      clear hfr hcell hu
      go_upto_region 11 with fail
      generalize hW5 : ((wr.setCell ⟨g, k * 8, none⟩ (.int .i64 x1)).setCell ⟨g, k * 8 + 1, none⟩ (.int .i64 y1)).setCell ⟨g, k * 8 + 2, none⟩ (.int .i64 z1) = w5
      have hO5 : OwnV w5 w1.heap.size (.slice (some ⟨g, 0, none⟩) ln c2) ((part (stay p) L k).set k (stay0 u)) := by
        have h0 := HO.out.set (k := k) (r := 0) (u' := { u with x := x1 }) (x := .int .i64 x1) HPG.out (by omega) (by rfl)
        have hk' : k < (part (stay p) L k).length := by rw [part_length, HLN.out]; exact hlt
        have h1 := h0.set (k := k) (r := 1) (u' := { u with x := x1, y := y1 }) (x := .int .i64 y1) (by rw [List.getElem?_set_self hk']) (by omega) (by rfl)
        have h2 := h1.set (k := k) (r := 2) (u' := stay0 u) (x := .int .i64 z1) (by rw [List.set_set, List.getElem?_set_self hk']) (by omega) (by simp [cellsV, stay0, hx1, hy1, hz3])
        rw [List.set_set, List.set_set] at h2
        rw [← hW5]
        exact h2
      have G5 := Lib.hid (show ((part (stay p) L k).set k (stay0 u))[k]? = some (stay0 u) by rw [List.getElem?_set_self (by rw [part_length, HLN.out]; exact hlt)])
      have B5 := Lib.hid (show Below w1.heap.size w1 w5 by rw [← hW5]; exact ((HBE.out.setCell hgb _).setCell hgb _).setCell hgb _)
      have O5 := Lib.hid hO5
      have c8 : At8 w5 g (k * 8) (stay0 u) := by
        obtain ⟨g', c', e, -, h⟩ := hO5.at0 (by intro e; have := congrArg List.length e; rw [List.length_set, part_length, HLN.out] at this; simp at this; omega)
        cases e
        exact h k _ G5.out
      have hfr := hO5.free
      clear e0 e1 e2 e3 f0 f1 f2 hW5 hO5 hx1 hy1 hz3
      obtain ⟨e0, e1, e2, e3, -, -, -, -⟩ := c8
      have f0 := hfr (k * 8)
      have f1 := hfr (k * 8 + 1)
      have f2 := hfr (k * 8 + 2)
      clear hfr
      have hc6 : p = 0 ∨ p = 1 ∨ p = 2 ∨ p = 3 ∨ p = 4 ∨ p = 5 := by omega
      rcases hc6 with rfl | rfl | rfl | rfl | rfl | rfl
      · have HSE := Lib.hid (show OwnV (w5.setCell ⟨g, k * 8 + 2, none⟩ (.int .i64 (-u.w - 1))) w1.heap.size (.slice (some ⟨g, 0, none⟩) ln c2) (((part (stay 0) L k).set k (stay0 u)).set k (stay 0 u)) from O5.out.set G5.out (by omega) (by rfl))
        rw [List.set_set, HPS.out] at HSE
        go_wp2
        go_roundw
        case rel => exact ⟨k + 1, by rw [HLN.out]; omega, by go_num, HSE.out, B5.out.setCell hgb _⟩
        case measure => simp [intOf]; omega
      · have HSE := Lib.hid (show OwnV (w5.setCell ⟨g, k * 8 + 0, none⟩ (.int .i64 (-4 * u.w - 1))) w1.heap.size (.slice (some ⟨g, 0, none⟩) ln c2) (((part (stay 1) L k).set k (stay0 u)).set k (stay 1 u)) from O5.out.set G5.out (by omega) (by rfl))
        rw [List.set_set, HPS.out] at HSE
        go_wp2
        go_roundw
        case rel => exact ⟨k + 1, by rw [HLN.out]; omega, by go_num, HSE.out, B5.out.setCell hgb _⟩
        case measure => simp [intOf]; omega
      · have HSE := Lib.hid (show OwnV (w5.setCell ⟨g, k * 8 + 0, none⟩ (.int .i64 (4 * u.w + 1))) w1.heap.size (.slice (some ⟨g, 0, none⟩) ln c2) (((part (stay 2) L k).set k (stay0 u)).set k (stay 2 u)) from O5.out.set G5.out (by omega) (by rfl))
        rw [List.set_set, HPS.out] at HSE
        go_wp2
        go_roundw
        case rel => exact ⟨k + 1, by rw [HLN.out]; omega, by go_num, HSE.out, B5.out.setCell hgb _⟩
        case measure => simp [intOf]; omega
      · have HSE := Lib.hid (show OwnV (w5.setCell ⟨g, k * 8 + 1, none⟩ (.int .i64 (-4 * u.w - 1))) w1.heap.size (.slice (some ⟨g, 0, none⟩) ln c2) (((part (stay 3) L k).set k (stay0 u)).set k (stay 3 u)) from O5.out.set G5.out (by omega) (by rfl))
        rw [List.set_set, HPS.out] at HSE
        go_wp2
        go_roundw
        case rel => exact ⟨k + 1, by rw [HLN.out]; omega, by go_num, HSE.out, B5.out.setCell hgb _⟩
        case measure => simp [intOf]; omega
      · have HSE := Lib.hid (show OwnV (w5.setCell ⟨g, k * 8 + 1, none⟩ (.int .i64 (4 * u.w + 1))) w1.heap.size (.slice (some ⟨g, 0, none⟩) ln c2) (((part (stay 4) L k).set k (stay0 u)).set k (stay 4 u)) from O5.out.set G5.out (by omega) (by rfl))
        rw [List.set_set, HPS.out] at HSE
        go_wp2
        go_roundw
        case rel => exact ⟨k + 1, by rw [HLN.out]; omega, by go_num, HSE.out, B5.out.setCell hgb _⟩
        case measure => simp [intOf]; omega
      · have HSE := Lib.hid (show OwnV w5 w1.heap.size (.slice (some ⟨g, 0, none⟩) ln c2) ((part (stay 5) L k).set k (stay 5 u)) from O5.out)
        rw [HPS.out] at HSE
        go_wp2
        go_roundw
        case rel => exact ⟨k + 1, by rw [HLN.out]; omega, by go_num, HSE.out, B5.out⟩
        case measure => simp [intOf]; omega
    · have HP := Lib.hid (show part (stay p) L k = L.map (stay p) by rw [show k = L.length by rw [HLN.out]; omega, part_all])
      rw [HP.out] at HO
      have HF := Lib.hid (show ∀ v ∈ L.map (stay p), v.sm ∧ (∀ q : Int, q ≠ p → 0 ≤ dist q v) ∧ (0 ≤ p ∧ p < 5 → dist p v < 0) from fun v hv => by
        obtain ⟨u, hu, rfl⟩ := List.mem_map.1 hv
        exact stay_facts (HL.out u hu))
      have HSL := Lib.hid (show (L.map (stay p)).length = ln by rw [List.length_map, HLN.out])
      generalize L.map (stay p) = S at HO HF HSL
      obtain ⟨A4, c4, hsl, -, -, hv⟩ := HO.out.vs
      obtain ⟨rfl, -, rfl⟩ : A2 = A4 ∧ ln = S.length ∧ c2 = c4 := by simpa using hsl
      have V4 := Lib.hid hv
      have PO := Lib.hid (HSL.out ▸ poly_any A2 c2 S _ wr hv (by rw [HSL.out]; omega) (fun v h => (HF.out v h).1))
      clear hsl hv
      have H4 := Lib.hid (H1.out.trans (HBE.out.mono hz1))
      by_cases hp5 : p < 5
      · obtain ⟨q, rfl⟩ : ∃ q : Nat, p = (q : Int) := ⟨p.toNat, by omega⟩
        have hout : ∀ v ∈ S, dist (q : Int) v < 0 := fun v h => (HF.out v h).2.2 ⟨by omega, hp5⟩
        rw [poly_gone (p := q) (by omega) (fun j hj v h => (HF.out v h).2.1 _ (by omega)) hout] at PO
        have HBY := Lib.hid (byV_out hout)
        go_wp2_with fail
        with_reducible refine (PO.out).mono ?_
        rintro e w5 ⟨v, rfl, ho, hb⟩
        have H5 := Lib.hid (bstep H4.out H4.out.size hb)
        obtain ⟨A5, c5, rfl, -, -, -⟩ := ho.vs
        have BY := Lib.hid (HSL.out ▸ by_any (q : Int) A2 c2 S _ w5 (V4.out.below hb) hb.size (by rw [HSL.out]; omega) (fun v h => (HF.out v h).1))
        rw [HBY.out] at BY
        rw [show ([] : List V).length = 0 from rfl]
        clear hb ho hout
        go_wp2_with fail
        with_reducible refine (BY.out).mono ?_
        rintro e w6 ⟨v, rfl, ho, hb⟩
        have H6 := Lib.hid (bstep H5.out H5.out.size hb)
        obtain ⟨A6, c6, rfl, -, -, -⟩ := ho.vs
        rw [show ([] : List V).length = 0 from rfl]
        clear hb ho
        go_wp2
        go_ret
        exact ⟨rfl, H6.out⟩
      · have HPV := Lib.hid (show polyV S = if S.length < 3 then [] else S by unfold polyV; rw [poly_keep 5 fun j hj v h => (HF.out v h).2.1 _ (by omega)])
        by_cases h3 : ln < 3
        · have hpv : polyV S = [] := by rw [HPV.out, if_pos (by rw [HSL.out]; exact h3)]
          rw [hpv] at PO
          clear hpv HPV HF
          go_wp2_with fail
          with_reducible refine (PO.out).mono ?_
          rintro e w5 ⟨v, rfl, ho, hb⟩
          have H5 := Lib.hid (bstep H4.out H4.out.size hb)
          obtain ⟨A5, c5, rfl, -, -, hv⟩ := ho.vs
          rw [show ([] : List V).length = 0 from rfl]
          clear hb ho hv
          go_wp2
          go_ret
          exact ⟨rfl, H5.out⟩
        · have hpv : polyV S = S := by rw [HPV.out, if_neg (by rw [HSL.out]; exact h3)]
          rw [hpv] at PO
          clear hpv HPV HF
          go_wp2_with fail
          with_reducible refine (PO.out).mono ?_
          rintro e w5 ⟨v, rfl, ho, hb⟩
          have H5 := Lib.hid (bstep H4.out H4.out.size hb)
          obtain ⟨A5, c5, rfl, -, -, hv⟩ := ho.vs
          have SM := Lib.hid (HSL.out ▸ same_any A5 A2 c5 c2 S S _ _ w5 hv (V4.out.below hb) (by rw [HSL.out]; omega) true (by simp))
          rw [HSL.out]
          clear hb ho hv
          go_wp2_with fail
          with_reducible refine (SM.out).mono ?_
          rintro e w6 ⟨rfl, hb⟩
          have H6 := Lib.hid (bstep H5.out H5.out.size hb)
          clear hb
          go_wp2
          go_ret
          exact ⟨rfl, H6.out⟩
end Go.Proofs.Ytfheipejbdfjbaa
