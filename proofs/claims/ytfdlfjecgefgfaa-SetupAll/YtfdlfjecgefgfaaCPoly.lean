/-
  The contracts of clip.By and clip.Poly, of glazierref04.Same, and of few and fit.
-/
import Derived.Test.YtfdlfjecgefgfaaCBy3
import Derived.Test.YtfdlfjecgefgfaaCRefB
namespace Go.Proofs.Ytfdlfjecgefgfaa.C
open Go.RowKit
attribute [local go_sem ↓] Go.wp_at_zero Go.wp_at_succ

theorem by_any (p : Int) (A : Option Addr) (c : Nat) (xs : List V) (B : Nat) (w : World) (hs : Vs w B A xs) (hB : B ≤ w.heap.size) (hl : xs.length ≤ 1000) (hm : ∀ v ∈ xs, v.sm) :
    Calls Try.prog 38 #[.int .i64 p, .slice A xs.length c] w (MadeV w.heap.size w (byV p xs)) := by
  by_cases hin : ∀ v ∈ xs, 0 ≤ dist p v
  · rw [byV_in hin]
    have HA := Lib.hid (all_any p A c xs B w hs hB hl hm true (by simpa using hin))
    have HO := Lib.hid (fun w' (h : Below w.heap.size w w') => own_any A c xs B w' (hs.below (h.mono hB)) (Nat.le_trans hB h.size) hl)
    clear hs hm hin
    generalize xs.length = n at HA HO ⊢
    go_enter Try.func38, Try.ntmps38
    go_wp2_with fail
    with_reducible refine (HA.out).mono ?_
    rintro e w1 ⟨rfl, hb1⟩
    have H1 := Lib.hid hb1
    clear hb1
    go_wp2_with fail
    with_reducible refine (HO.out _ H1.out).mono ?_
    rintro e w2 ⟨v, rfl, ho, hb2⟩
    have H2 := Lib.hid hb2
    have O2 := Lib.hid ho
    clear hb2 ho
    go_wp2
    go_ret
    exact ⟨v, rfl, O2.out.less H1.out.size, bstep H1.out H1.out.size H2.out⟩
  · exact by_cut p A c xs B w hs hB hl hm hin

def PolyAt (xs : List V) (w : World) (l i : Value) (wr : World) : Prop :=
  ∃ (k : Nat) (A : Option Addr) (c : Nat), k ≤ 5 ∧ i = .int .i64 k ∧ l = .slice A (polyK xs k).length c ∧ Vs wr wr.heap.size A (polyK xs k) ∧ (0 < k → OwnV wr w.heap.size l (polyK xs k)) ∧ Below w.heap.size w wr

theorem polyK_small {xs : List V} (hl : xs.length ≤ 30) {k : Nat} (hk : k < 5) : (polyK xs k).length ≤ 1000 := by
  have h := polyK_len xs k
  have h2 : 2 ^ k ≤ 2 ^ 4 := Nat.pow_le_pow_right (by omega) (by omega)
  have h3 : 2 ^ k * xs.length ≤ 2 ^ 4 * 30 := Nat.mul_le_mul h2 hl
  omega

set_option maxHeartbeats 1000000 in
theorem poly_any (A : Option Addr) (c : Nat) (xs : List V) (B : Nat) (w : World) (hs : Vs w B A xs) (hl : xs.length ≤ 30) (hm : ∀ v ∈ xs, v.sm) :
    Calls Try.prog 25 #[.slice A xs.length c] w (MadeV w.heap.size w (polyV xs)) := by
  have HM := Lib.hid hm
  have HS := Lib.hid hs
  have HL := Lib.hid hl
  clear hm hs hl
  go_enter Try.func25, Try.ntmps25
  go_wp2
  go_loopw [0, 4] (fun l i wr => PolyAt xs w l i wr) (fun _ i _ => 5 - (intOf i).toNat)
  case atStart => exact ⟨0, A, c, by omega, rfl, rfl, HS.out.sharp, fun h => absurd h (by omega), Below.refl _ _⟩
  case round =>
    obtain ⟨k, A', c', hk, rfl, rfl, hv, ho, hb⟩ := hrel
    have HO := Lib.hid ho
    have HB := Lib.hid hb
    by_cases hlt : k < 5
    · have BY := Lib.hid (by_any (k : Int) A' c' (polyK xs k) wr.heap.size wr hv (Nat.le_refl _) (polyK_small HL.out hlt) (polyK_sm HM.out k))
      rw [show byV (k : Int) (polyK xs k) = polyK xs (k + 1) from rfl] at BY
      clear hv ho hb
      generalize (polyK xs k).length = n at *
      go_wp2_with fail
      with_reducible refine (BY.out).mono ?_
      rintro e w2 ⟨v, rfl, ho, hb2⟩
      have H2 := Lib.hid (bstep HB.out HB.out.size hb2)
      have O2 := Lib.hid (ho.less HB.out.size)
      clear hb2 ho
      go_wp2
      go_roundw
      case rel =>
        obtain ⟨A2, c2, e, _, _, hv2⟩ := O2.out.vs
        exact ⟨k + 1, A2, c2, by omega, by go_num, e, hv2, fun _ => O2.out, H2.out⟩
      case measure => simp [intOf]; omega
    · obtain rfl : k = 5 := by omega
      clear hv ho hb
      have HP := Lib.hid (show polyV xs = if (polyK xs 5).length < 3 then [] else polyK xs 5 from rfl)
      generalize polyV xs = pv at *
      generalize polyK xs 5 = pk at *
      by_cases h3 : pk.length < 3
      · go_wp2
        go_ret
        have e := HP.out
        rw [if_pos h3] at e
        exact ⟨_, rfl, by rw [e]; exact OwnV.nil _ _, HB.out⟩
      · go_wp2
        go_ret
        have e := HP.out
        rw [if_neg h3] at e
        exact ⟨_, rfl, by rw [e]; exact HO.out (by omega), HB.out⟩
end Go.Proofs.Ytfdlfjecgefgfaa.C
