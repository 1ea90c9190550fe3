/-
  ClipPlanes' walk.
-/
import Derived.Test.YtfheipejbdfjbaaFewW
import Derived.Test.YtfheipejbdfjbaaSame
namespace Go.Proofs.Ytfheipejbdfjbaa
open Go.RowKit
attribute [local go_sem ↓] Go.wp_at_zero Go.wp_at_succ

def NowAt (L : List V) (w : World) (l i : Value) (wr : World) : Prop :=
  ∃ (k : Nat) (A : Option Addr) (c : Nat), k ≤ 5 ∧ i = .int .i64 k ∧ l = .slice A (polyK L k).length c ∧ Vs wr wr.heap.size A (polyK L k) ∧ Below w.heap.size w wr
def allIn (p : Int) (l : List V) : Bool := l.all fun v => decide (0 ≤ dist p v)
theorem allIn_iff {p : Int} {l : List V} : allIn p l = true ↔ ∀ v ∈ l, 0 ≤ dist p v := by
  unfold allIn
  rw [List.all_eq_true]
  simp only [decide_eq_true_eq]
theorem in_next {p : Int} {xs : List V} {j : Nat} {u : V} (hu : xs[j]? = some u) : allIn p (xs.take (j + 1)) = (allIn p (xs.take j) && decide (0 ≤ dist p u)) := by
  rw [List.take_add_one, hu]
  simp [allIn]
def InAt (p : Int) (xs : List V) (w : World) (b i : Value) (wr : World) : Prop :=
  ∃ j : Nat, j ≤ xs.length ∧ i = .int .i64 j ∧ b = .bool (allIn p (xs.take j)) ∧ Below w.heap.size w wr

set_option maxHeartbeats 4000000 in
theorem planes_walk (A : Option Addr) (c : Nat) (xs : List V) (w : World) (hxs : Vs w w.heap.size A xs) :
    Calls Try.prog 8 #[.slice A xs.length c] w fun e w' => e = .returned (.bool true) ∧ Below w.heap.size w w' := by
  have HX := Lib.hid hxs
  have HS := Lib.hid (shown_any w)
  clear hxs
  generalize hn : xs.length = n
  have HN := Lib.hid hn
  clear hn
  go_enter Try.func8, Try.ntmps8
  go_wp2_with fail
  with_reducible refine (HS.out).mono ?_
  rintro e w1 ⟨rfl, hb⟩
  have H1 := Lib.hid hb
  have FT := Lib.hid (fun w' (h : Below w.heap.size w w') => HN.out ▸ fit_l A c xs _ w' (HX.out.below h))
  clear hb
  have HL := Lib.hid (fit_ok (xs.take 8))
  have hll : ((xs.take 8).map fitV).length ≤ 8 := by simp; omega
  generalize (xs.take 8).map fitV = L at FT HL hll
  go_wp2_with fail
  with_reducible refine (FT.out _ H1.out).mono ?_
  rintro e w2 ⟨v, rfl, ho, hb⟩
  have H2 := Lib.hid (bstep H1.out H1.out.size hb)
  obtain ⟨A2, c2, rfl, -, -, hv⟩ := ho.vs
  have V2 := Lib.hid hv
  clear hb ho hv
  go_wp2_with fail
  with_reducible refine (FT.out _ H2.out).mono ?_
  rintro e w3 ⟨v, rfl, ho, hb⟩
  have H3 := Lib.hid (bstep H2.out H2.out.size hb)
  have V2' := Lib.hid (V2.out.grow hb)
  have hz2 := hb.size
  obtain ⟨A3, c3, rfl, -, -, hv⟩ := ho.vs
  have V3 := Lib.hid hv
  clear hb ho hv V2
  go_wp2
  go_loopw [5, 6] (fun l i wr => NowAt L w3 l i wr) (fun _ i _ => 5 - (intOf i).toNat)
  case atStart => exact ⟨0, A3, c3, by omega, rfl, rfl, V3.out, Below.refl _ _⟩
  case round =>
    obtain ⟨k, A4, c4, hk, rfl, rfl, hv, hbel⟩ := hrel
    have V4 := Lib.hid hv
    have HBE := Lib.hid hbel
    clear hv hbel
    by_cases hk5 : k < 5
    · have HP := Lib.hid (show polyK L (k + 1) = byV (k : Int) (polyK L k) from rfl)
      have HPL := Lib.hid (polyK_small (Nat.le_trans hll (by omega)) hk5)
      have HPS := Lib.hid (polyK_sm (ok_sm HL.out) k)
      generalize hnxt : polyK L (k + 1) = nxt at *
      have HNXT := Lib.hid hnxt
      clear hnxt
      generalize polyK L k = now at *
      have hnl := HPL.out
      generalize hm : now.length = m at hnl ⊢
      have HM := Lib.hid hm
      clear hm
      have hki : decide ((k : Int) < 5) = true := by simp; omega
      go_wp2
      rename World => w4
      go_loopw [7, 8] (fun b i wr => InAt (k : Int) now w4 b i wr) (fun _ i _ => m - (intOf i).toNat)
      case atStart => exact ⟨0, by omega, rfl, rfl, Below.refl _ _⟩
      case round =>
        obtain ⟨j, hj, rfl, rfl, hbel⟩ := hrel
        rw [HM.out] at hj
        have HBI := Lib.hid hbel
        clear hbel
        by_cases hjm : j < m
        · obtain ⟨b, off, rfl, hbB, hcell⟩ := V4.out.open (k := j) (by rw [HM.out]; exact hjm)
          obtain ⟨u, hu, u8⟩ := hcell j (by rw [HM.out]; exact hjm)
          have HNX := Lib.hid (in_next (p := (k : Int)) hu)
          obtain ⟨e0, e1, e2, e3, e4, e5, e6, e7⟩ := u8.below HBI.out hbB
          have DD := Lib.hid (rdist_any (k : Int) u (HPS.out u (List.mem_of_getElem? hu)) _ rfl)
          generalize dist (k : Int) u = d at DD HNX
          generalize allIn (k : Int) (now.take j) = g at HNX ⊢
          clear hcell hu u8
          cases g
          · clear e0 e1 e2 e3 e4 e5 e6 e7
            go_wp2
            go_roundw
            case rel => exact ⟨j + 1, by rw [HM.out]; omega, by go_num, by rw [HNX.out]; simp, HBI.out⟩
            case measure => simp [intOf]; omega
          · go_wp2_with fail
            with_reducible refine (DD.out _).mono ?_
            rintro e w5 ⟨rfl, hb⟩
            have H5 := Lib.hid (bstep HBI.out HBI.out.size hb)
            clear hb e0 e1 e2 e3 e4 e5 e6 e7
            go_wp2
            go_roundw
            case rel => exact ⟨j + 1, by rw [HM.out]; omega, by go_num, by rw [HNX.out]; simp, H5.out⟩
            case measure => simp [intOf]; omega
        · have HAL := Lib.hid (show allIn (k : Int) (now.take j) = allIn (k : Int) now by rw [List.take_of_length_le (by rw [HM.out]; omega)])
          rw [HAL.out]
          have BY := Lib.hid (HM.out ▸ by_any (k : Int) A4 c4 now _ wr (V4.out.below HBI.out) HBI.out.size HPL.out HPS.out)
          rw [← HP.out] at BY
          generalize hg : allIn (k : Int) now = g
          have HG := Lib.hid hg
          clear hg HAL
          go_wp2_with fail
          with_reducible refine (BY.out).mono ?_
          rintro e w5 ⟨v, rfl, ho, hb⟩
          have B5 := Lib.hid (bstep HBI.out HBI.out.size hb)
          have H5 := Lib.hid (bstep HBE.out HBE.out.size B5.out)
          obtain ⟨A5, c5, rfl, -, -, hv⟩ := ho.vs
          have V5 := Lib.hid hv
          clear hb ho hv
          have hnx : nxt.length ≤ 2 * now.length := by rw [HP.out]; exact byV_len2 _ _
          have SM := Lib.hid (HM.out ▸ same_any A5 A4 c5 c4 nxt now _ _ w5 V5.out (V4.out.below B5.out) (by have := HM.out; omega) _ rfl)
          have HSA := Lib.hid (show g = true → decide (nxt = now) = true from fun e => by rw [HP.out, byV_in (allIn_iff.1 (HG.out.trans e))]; simp)
          clear hnx
          generalize decide (nxt = now) = q at SM HSA
          generalize hnn : nxt.length = nn at SM ⊢
          have HNN := Lib.hid hnn
          clear hnn
          go_wp2_with fail
          with_reducible refine (SM.out).mono ?_
          rintro e w6 ⟨rfl, hb⟩
          have H6 := Lib.hid (bstep H5.out H5.out.size hb)
          have V6 := Lib.hid (V5.out.grow hb)
          have hz6 := hb.size
          clear hb
          cases g
          · cases q
            all_goals
              go_wp2
              go_roundw
              case rel => exact ⟨k + 1, A5, c5, by omega, by go_num, by rw [HNXT.out, HNN.out], by rw [HNXT.out]; exact V6.out.more hz6, H6.out⟩
              case measure => simp [intOf]; omega
          · obtain rfl : q = true := HSA.out rfl
            go_wp2
            go_roundw
            case rel => exact ⟨k + 1, A5, c5, by omega, by go_num, by rw [HNXT.out, HNN.out], by rw [HNXT.out]; exact V6.out.more hz6, H6.out⟩
            case measure => simp [intOf]; omega
    · obtain rfl : k = 5 := by omega
      have PO := Lib.hid (poly_any A2 c2 L _ wr (V2'.out.below (HBE.out.mono hz2)) (by omega) (ok_sm HL.out))
      have HP := Lib.hid (show polyV L = if (polyK L 5).length < 3 then [] else polyK L 5 from rfl)
      have HPL := Lib.hid (polyK_len L 5)
      generalize polyV L = pv at *
      generalize polyK L 5 = pk at *
      go_wp2_with fail
      with_reducible refine (PO.out).mono ?_
      rintro e w5 ⟨v, rfl, ho, hb⟩
      have H5 := Lib.hid (bstep (bstep H3.out H3.out.size HBE.out) (bstep H3.out H3.out.size HBE.out).size hb)
      obtain ⟨A5, c5, rfl, -, -, hv⟩ := ho.vs
      have V5 := Lib.hid hv
      have V4' := Lib.hid (V4.out.below hb)
      clear hb ho hv
      by_cases h3 : pk.length < 3
      · have e := HP.out
        rw [if_pos h3] at e
        subst e
        go_wp2
        go_ret
        exact ⟨rfl, H5.out⟩
      · have e := HP.out
        rw [if_neg h3] at e
        subst e
        have SM := Lib.hid (same_any A5 A4 c5 c4 pv pv _ _ w5 V5.out V4'.out (by have := HPL.out; have : 2 ^ 5 * L.length ≤ 2 ^ 5 * 8 := Nat.mul_le_mul_left _ hll; omega) true (by simp))
        generalize pv.length = q at SM h3 ⊢
        go_wp2_with fail
        with_reducible refine (SM.out).mono ?_
        rintro e w6 ⟨rfl, hb⟩
        have H6 := Lib.hid (bstep H5.out H5.out.size hb)
        clear hb
        go_wp2
        go_ret
        exact ⟨rfl, H6.out⟩
end Go.Proofs.Ytfheipejbdfjbaa
