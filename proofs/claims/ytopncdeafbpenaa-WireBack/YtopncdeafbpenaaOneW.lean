/-
  The walk of glazierlaw03.WireOne, at this seat's translation.
-/
import Derived.Test.YtopncdeafbpenaaSignsW
namespace Go.Proofs.Ytopncdeafbpenaa
open Go.RowKit

theorem slice_to (A : Option Addr) (n c k : Nat) (i : Int) (hk : k ≤ c) (hi : i = (k : Int)) :
    ∀ W, (Instr.slice 23 (.slice A n c) none (some (.int .i64 i)) none).run Try.prog W = .ok (.slice A k c) W := by
  subst hi
  intro W
  go_simp

set_option maxRecDepth 100000 in
set_option maxHeartbeats 2000000 in
theorem one_no (A : Option Addr) (c : Nat) (xs : List Int) (n : Int) (w : World) (hs : Sl .u8 w w.heap.size A xs) (hb : Byt xs) (hc : xs.length ≤ c) (hm : c ≤ 9223372036854775807) (hf : (first (xs.take 200)).2 = 0) :
    Calls Try.prog 6 #[.slice A xs.length c, .int .i64 n] w (Yes w) := by
  have HS := Lib.hid (hs.take 200)
  have HY := Lib.hid (hb.take 200)
  have hl : (xs.take 200).length ≤ 200 := List.length_take_le _ _
  have hl2 : (xs.take 200).length ≤ c := Nat.le_trans (List.length_take_le' _ _) hc
  have HF := Lib.hid hf
  clear hs hb hf
  have HSH := Lib.hid (fun W => short_any A c xs W hc hm)
  generalize xs.take 200 = L at *
  go_enter Try.func6, Try.ntmps6
  go_wp2_with (first
    | (go_at_call 9; (with_reducible refine (shown_any _).mono ?_); rintro e w1 ⟨rfl, hb1⟩)
    | (go_at_call 11; (with_reducible refine (HSH.out _).mono ?_); rintro e w2 ⟨rfl, rfl⟩)
    | (go_at_call 12; (with_reducible refine (take_no _ c L w.heap.size _ (HS.out.below hb1) HY.out hl2 (by omega) HF.out).mono ?_); rintro e w2 ⟨rfl, rfl⟩))
  go_ret
  exact ⟨rfl, hb1⟩

theorem take_of_app {L E D : List Int} {s : Nat} (h : L = E ++ D) (hs : s = E.length) : E = L.take s := by subst h hs; simp

theorem fold_half {n h : Int} (e : h = n.tdiv 2) : fold h ≤ fold n := by
  subst e
  unfold fold
  by_cases h : n < 0
  · obtain ⟨k, rfl⟩ : ∃ k, n = -k := ⟨-n, by omega⟩
    rw [Int.neg_tdiv, Int.tdiv_eq_ediv_of_nonneg (by omega), if_pos h]
    split <;> omega
  · rw [Int.tdiv_eq_ediv_of_nonneg (by omega), if_neg (by omega), if_neg (by omega)]
    omega

theorem half_in {n : Int} (n0 : -9223372036854775808 ≤ n) (n1 : n ≤ 9223372036854775807) : -9223372036854775808 ≤ n.tdiv 2 ∧ n.tdiv 2 ≤ 9223372036854775807 := by
  by_cases h : n < 0
  · obtain ⟨k, rfl⟩ : ∃ k, n = -k := ⟨-n, by omega⟩
    rw [Int.neg_tdiv, Int.tdiv_eq_ediv_of_nonneg (by omega)]
    omega
  · rw [Int.tdiv_eq_ediv_of_nonneg (by omega)]
    omega

set_option maxRecDepth 100000 in
set_option maxHeartbeats 2000000 in
theorem one_yes (A : Option Addr) (c : Nat) (xs : List Int) (n : Int) (w : World) (hs : Sl .u8 w w.heap.size A xs) (hb : Byt xs) (hc : xs.length ≤ c) (hm : c ≤ 9223372036854775807) (n0 : -9223372036854775808 ≤ n) (n1 : n ≤ 9223372036854775807)
    (x : Int) (s : Nat) (hf : first (xs.take 200) = (x, s)) (h0 : s ≠ 0) :
    Calls Try.prog 6 #[.slice A xs.length c, .int .i64 n] w (Yes w) := by
  have HS := Lib.hid (hs.take 200)
  have HY := Lib.hid (hb.take 200)
  have hl : (xs.take 200).length ≤ 200 := List.length_take_le _ _
  have hl2 : (xs.take 200).length ≤ c := Nat.le_trans (List.length_take_le' _ _) hc
  have HF := Lib.hid hf
  obtain ⟨⟨x0, x1⟩, hsl, hap, hsL, hs1, hs10⟩ := first_inv (hb.take 200) hf h0
  have HQ := Lib.hid (And.intro hsl (And.intro hap h0))
  clear hs hb hf hsl hap h0
  have HSH := Lib.hid (fun W => short_any A c xs W hc hm)
  generalize xs.take 200 = L at *
  have hLs : (L.take s).length = s := by simp; omega
  have hLd : (L.drop s).length = L.length - s := List.length_drop
  have hen : enc (fold x) = L.take s := take_of_app HQ.out.2.1 HQ.out.1
  have HL := Lib.hid (And.intro hLs (And.intro hLd hen))
  clear hLs hLd hen
  go_enter Try.func6, Try.ntmps6
  go_wp2_with (first
    | (go_at_call 9; (with_reducible refine (shown_any _).mono ?_); rintro e w1 ⟨rfl, hb1⟩)
    | (go_at_call 11; (with_reducible refine (HSH.out _).mono ?_); rintro e w2 ⟨rfl, rfl⟩))
  refine (take_yes _ c L _ ((HS.out.below hb1).more hb1.size) HY.out hl2 (by omega) x s HF.out HQ.out.2.2).mono ?_
  rintro e w2 ⟨v, rfl, ho, hb2⟩
  obtain ⟨A1, c1, rfl, hc1, hc2, hsl1⟩ := ho.sl
  have HB2 := Lib.hid (hb1.trans (hb2.mono hb1.size))
  have HS1 := Lib.hid hsl1
  clear hb1 hb2 ho hsl1
  go_wp2_with fail
  refine (put1_any x _ x0 x1).mono ?_
  rintro e w3 ⟨v, rfl, ho, hb3⟩
  rw [HL.out.2.2] at ho
  obtain ⟨A2, c2, rfl, hc3, hc4, hsl2⟩ := ho.sl
  have HB3 := Lib.hid (HB2.out.trans ((below_new hb3).mono HB2.out.size))
  have HS2 := Lib.hid hsl2
  have HS3 := Lib.hid (sl_keep HS1.out (below_new hb3))
  clear HB2 hb3 ho hsl2 HS1
  have hv1 : ∀ j, (convert 23 9 (.slice A2 s c2)).run Try.prog (w3.drewN j) = .ok (.string (strOfNums (L.take s))) (w3.drewN j) := fun j => by
    have := Sl.conv (HS2.out.drewN j) c2; rwa [HL.out.1] at this
  have hv2 : ∀ j, (convert 23 9 (.slice A s c)).run Try.prog (w3.drewN j) = .ok (.string (strOfNums (L.take s))) (w3.drewN j) := fun j => by
    have := Sl.conv (((HS.out.below HB3.out).take s).drewN j) c; rwa [HL.out.1] at this
  have hv3 : ∀ j, (convert 23 9 (.slice A1 (L.length - s) c1)).run Try.prog (w3.drewN j) = .ok (.string (strOfNums (L.drop s))) (w3.drewN j) := fun j => by
    have := Sl.conv (HS3.out.drewN j) c1; rwa [HL.out.2.1] at this
  obtain ⟨A', hcut, hto⟩ := slice_from A L.length c s (L.length - s) s (by omega) (by omega) rfl
  have hv4 : ∀ j, (convert 23 9 (.slice A' (L.length - s) (c - s))).run Try.prog (w3.drewN j) = .ok (.string (strOfNums (L.drop s))) (w3.drewN j) := fun j => by
    have := Sl.conv ((hto _ _ _ _ rfl (HS.out.below HB3.out)).drewN j) (c - s); rwa [HL.out.2.1] at this
  have hcut2 := slice_to A L.length c s s (by omega) rfl
  rw [HL.out.1] at hc3 ⊢
  clear hto
  have g1 : ¬ L.length < s := by omega
  go_wp2_with fail
  go_quiet (fail)
  clear hv1 hv2 hv3 hv4 hcut hcut2
  have HB4 := Lib.hid (below_draws HB3.out nq)
  clear HB3
  have hh := fold_half (n := n) rfl
  have hmono := enc_mono _ _ hh
  have h10 := enc_len10 (fold_lt ⟨n0, n1⟩)
  have h10' : ((enc (fold n)).length : Int) ≤ 10 := by omega
  have hq0 := half_in n0 n1
  clear hh
  go_wp2_with fail
  refine (put1_any n (w3.drewN nq) n0 n1).mono ?_
  rintro e w5 ⟨v, rfl, ho, hb5⟩
  obtain ⟨A5, c5, rfl, -, -, -⟩ := ho.sl
  have HB5 := Lib.hid (HB4.out.trans ((below_new hb5).mono HB4.out.size))
  clear HB4 hb5 ho
  go_wp2_with fail
  refine (put1_any (n.tdiv 2) w5 hq0.1 hq0.2).mono ?_
  rintro e w6 ⟨v, rfl, ho, hb6⟩
  obtain ⟨A6, c6, rfl, -, -, -⟩ := ho.sl
  have HB6 := Lib.hid (HB5.out.trans ((below_new hb6).mono HB5.out.size))
  clear HB5 hb6 ho
  go_wp2_with fail
  refine (put1_any n w6 n0 n1).mono ?_
  rintro e w7 ⟨v, rfl, ho, hb7⟩
  obtain ⟨A7, c7, rfl, -, -, -⟩ := ho.sl
  have HB7 := Lib.hid (HB6.out.trans ((below_new hb7).mono HB6.out.size))
  clear HB6 hb7 ho
  go_wp2
  go_ret
  exact ⟨rfl, HB7.out⟩
end Go.Proofs.Ytopncdeafbpenaa
