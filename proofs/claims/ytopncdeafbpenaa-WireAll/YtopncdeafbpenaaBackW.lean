/-
  The walk of glazierlaw03.WireBack, at this seat's translation.
-/
import Derived.Test.YtopncdeafbpenaaGone
import Derived.Test.YtopncdeafbpenaaBackP
import Derived.Test.YtopncdeafbpenaaOneW
namespace Go.Proofs.Ytopncdeafbpenaa
open Go.RowKit

theorem gone_1000 (A : Option Addr) (c n : Nat) (xs : List Int) (hn : xs.length = n) (hc : xs.length ≤ c) (hl : xs.length ≤ 900) (hb : Byt xs) (w : World) (hs : Sl .u8 w w.heap.size A xs) :
    Calls Try.prog 16 #[.slice A n c, .int .i64 1000] w fun e w' => ∃ v, e = .returned (.tuple #[v, .bool (flag (seq xs)), .bool true]) ∧ OwnS 3 .i64 w' w.heap.size v (nums (seq xs)) ∧ Below w.heap.size w w' := by
  subst hn
  have hsl := (seq_len xs.length xs (Nat.le_refl _) hb).1
  have hnl := nums_le (seq xs)
  refine (gone_any A c xs 1000 hc (by omega) hb (by decide) (by decide) w hs).mono ?_
  rintro e w' ⟨v, f, rfl, ho, hf, hB⟩
  rw [List.take_of_length_le (by omega)] at ho
  rw [hf (by omega)]
  exact ⟨v, rfl, ho, hB⟩

def BackAt (w : World) (L : List Int) (rest i : Value) (wr : World) : Prop :=
  ∃ (k : Nat) (A : Option Addr) (c : Nat), k ≤ L.length ∧ i = .int .i64 k ∧ rest = .slice A (put (L.drop k)).length c ∧ (put (L.drop k)).length ≤ c ∧ Sl .u8 wr wr.heap.size A (put (L.drop k)) ∧ Below w.heap.size w wr

theorem slice_to22 (A : Option Addr) (n c k : Nat) (i : Int) (hk : k ≤ c) (hi : i = (k : Int)) :
    ∀ W, (Instr.slice 22 (.slice A n c) none (some (.int .i64 i)) none).run Try.prog W = .ok (.slice A k c) W := by
  subst hi
  intro W
  go_simp

set_option maxRecDepth 100000 in
set_option maxHeartbeats 4000000 in
theorem back_walk (A : Option Addr) (c : Nat) (l : List Int) (at_ : Int) (w : World) (hs : Sl .i64 w w.heap.size A l) (hi : Ins l) (hc : l.length ≤ c) (hm : c ≤ 9223372036854775807) (h0 : 0 ≤ at_) (h1 : at_ ≤ 65535) :
    Calls Try.prog 4 #[.slice A l.length c, .int .u16 at_] w (Yes w) := by
  have HS := Lib.hid (hs.take 40)
  have HI := Lib.hid (hi.take 40)
  have hl : (l.take 40).length ≤ 40 := List.length_take_le _ _
  have hl2 : (l.take 40).length ≤ c := Nat.le_trans (List.length_take_le' _ _) hc
  clear hs hi
  have HSH := Lib.hid (fun W => few_any A c l W hc hm)
  generalize l.take 40 = L at *
  obtain ⟨hp1, hp2⟩ := put_len HI.out
  have HPB := Lib.hid (put_byt L)
  have HSQ := Lib.hid (seq_all HI.out)
  have HCUT := Lib.hid (fun k hk => seq_cut HI.out k hk)
  have HPA := Lib.hid (fun W B hsB hB => put_any A c L B W hsB hB HI.out (by omega))
  have hP0 : put (L.drop 0) = put L := rfl
  have HP0 := Lib.hid hP0
  clear hP0
  generalize hP : put L = P at *
  have HP := Lib.hid hP
  clear hP
  obtain ⟨k, hk⟩ : ∃ k : Nat, at_ % ((P.length : Int) + 1) = (k : Int) := Int.eq_ofNat_of_zero_le (Int.emod_nonneg _ (by omega))
  have hk1 : at_ % ((P.length : Int) + 1) < (P.length : Int) + 1 := Int.emod_lt_of_pos _ (by omega)
  have hkL : k ≤ P.length := by omega
  clear hk1
  have HK := Lib.hid hk
  clear hk
  go_enter Try.func4, Try.ntmps4
  go_wp2_with (first
    | (go_at_call 9; (with_reducible refine (shown_any _).mono ?_); rintro e w1 ⟨rfl, hb1⟩)
    | (go_at_call 10; (with_reducible refine (HSH.out _).mono ?_); rintro e w2 ⟨rfl, rfl⟩))
  refine (HPA.out _ w.heap.size (HS.out.below hb1) hb1.size).mono ?_
  rintro e w2 ⟨v, rfl, ho, hb2⟩
  obtain ⟨A2, c2, rfl, hc21, hc22, hs2⟩ := ho.sl
  have HB2 := Lib.hid (hb1.trans (hb2.mono hb1.size))
  have HS2 := Lib.hid hs2
  clear hb1 hb2 ho hs2
  go_wp2_with fail
  refine (gone_1000 A2 c2 _ P rfl hc21 (by omega) HPB.out w2 HS2.out).mono ?_
  rintro e w3 ⟨v, rfl, ho, hb3⟩
  rw [HSQ.out, nums_trues] at ho
  rw [HSQ.out, flag_trues]
  obtain ⟨A3, c3, rfl, hc31, hc32, hs3⟩ := ho.sl
  have HB3 := Lib.hid (HB2.out.trans (hb3.mono HB2.out.size))
  have HS23 := Lib.hid (sl_keep HS2.out hb3)
  have HS3 := Lib.hid hs3
  clear hb3 ho hs3 HB2 HS2
  go_wp2_with fail
  refine (same_any A3 A c3 c L w3 HS3.out ((HS.out.below HB3.out).more HB3.out.size) (by omega)).mono ?_
  rintro e w4 ⟨rfl, hb4⟩
  have HB4 := Lib.hid (HB3.out.trans (hb4.mono HB3.out.size))
  have HS24 := Lib.hid (sl_keep HS23.out hb4)
  clear hb4 HB3 HS23 HS3
  have hkk := HK.out
  have hcut := slice_to A2 P.length c2 k k (by omega) rfl
  go_wp2_with fail
  rw [hkk]
  clear hkk hcut
  refine (gone_1000 A2 c2 k (P.take k) (by simp; omega) (by simp; omega) (by simp; omega) (HPB.out.take k) w4 (HS24.out.take k)).mono ?_
  rintro e w5 ⟨v, rfl, ho, hb5⟩
  obtain ⟨j, hj, hjn, hjk⟩ := HCUT.out k hkL
  rw [hjn] at ho
  generalize flag (seq (P.take k)) = fl
  obtain ⟨A5, c5, rfl, hc51, hc52, hs5⟩ := ho.sl
  have hjl : (L.take j).length = j := by simp; omega
  rw [hjl] at hc51 ⊢
  have HJL := Lib.hid hjl
  have HB5 := Lib.hid (HB4.out.trans (hb5.mono HB4.out.size))
  have HS25 := Lib.hid (sl_keep HS24.out hb5)
  have HS5 := Lib.hid hs5
  have HJK := Lib.hid hjk
  clear hb5 ho hs5 HB4 HS24 hjn hjl hjk
  have hcut := slice_to22 A L.length c j j (by omega) rfl
  by_cases hkP : k < P.length
  · have hjL : j < L.length := HJK.out hkP
    have g1 : ((j : Int) == (L.length : Int)) = false := by simp; omega
    go_wp2_with fail
    have hsm := same_any A5 A c5 c (L.take j) w5 HS5.out (((HS.out.below HB5.out).more HB5.out.size).take j) (by simp; omega)
    rw [HJL.out] at hsm
    refine hsm.mono ?_
    clear hsm
    rintro e w6 ⟨rfl, hb6⟩
    have HB6 := Lib.hid (HB5.out.trans (hb6.mono HB5.out.size))
    have HS26 := Lib.hid (sl_keep HS25.out hb6)
    clear hb6 HB5 HS25 HS5 hcut
    go_wp2_with fail
    go_loopw [16, 17] (fun rest i wr => BackAt w L rest i wr) (fun _ i _ => L.length - (intOf i).toNat)
    case atStart => exact ⟨0, A2, c2, by omega, rfl, by rw [HP0.out], by rw [HP0.out]; exact hc21, by rw [HP0.out]; exact HS26.out, HB6.out⟩
    case round =>
      obtain ⟨i, A7, c7, hi, rfl, rfl, hc7, hs7, hb7⟩ := hrel
      have hpl := (put_len (HI.out.drop i)).2
      have hdl : (L.drop i).length ≤ 40 := by simp; omega
      have HS7 := Lib.hid hs7
      have HB7 := Lib.hid hb7
      clear hs7 hb7
      by_cases hlt : i < L.length
      · obtain ⟨b, off, rfl, hbB, hcell⟩ := HS.out.at hlt
        generalize hx : L.getD i 0 = x at hcell
        obtain ⟨hf1, hf2⟩ := first_here HI.out hlt hx
        have hce : wr.cell? ⟨b, off + i, none⟩ = some (.int .i64 x) := (HB7.out.cell (p := ⟨b, off + i, none⟩) hbB).trans hcell
        have HT := Lib.hid (take_yes A7 c7 (put (L.drop i)) wr HS7.out (put_byt _) hc7 (by omega) x _ hf1 (by have := enc_pos (fold x); omega))
        rw [hf2] at HT
        have hpl2 := (put_len (HI.out.drop (i + 1))).2
        clear hf1 hf2 hx hcell
        go_wp2_with fail
        refine HT.out.mono ?_
        rintro e w8 ⟨v, rfl, ho, hb8⟩
        obtain ⟨A8, c8, rfl, hc8, -, hs8⟩ := ho.sl
        have hce8 : w8.cell? ⟨b, off + i, none⟩ = some (.int .i64 x) := (hb8.cell (p := ⟨b, off + i, none⟩) (Nat.lt_of_lt_of_le hbB HB7.out.size)).trans hce
        have HS8 := Lib.hid hs8
        have HB8 := Lib.hid (HB7.out.trans (hb8.mono HB7.out.size))
        have hc8' := hc8
        clear ho hs8 hb8 hce HT
        go_wp2
        go_roundw
        case rel => exact ⟨i + 1, A8, c8, by omega, by go_num, rfl, hc8', HS8.out, HB8.out⟩
        case measure => simp [intOf]; omega
      · have hi' : i = L.length := by omega
        have hnil : put (L.drop i) = [] := by rw [List.drop_eq_nil_of_le (by omega)]; rfl
        rw [hnil]
        go_wp2
        go_ret
        exact ⟨rfl, HB7.out⟩
  · have g1 : ¬ (k : Int) < (P.length : Int) := by omega
    go_wp2_with fail
    have hsm := same_any A5 A c5 c (L.take j) w5 HS5.out (((HS.out.below HB5.out).more HB5.out.size).take j) (by simp; omega)
    rw [HJL.out] at hsm
    refine hsm.mono ?_
    clear hsm
    rintro e w6 ⟨rfl, hb6⟩
    have HB6 := Lib.hid (HB5.out.trans (hb6.mono HB5.out.size))
    have HS26 := Lib.hid (sl_keep HS25.out hb6)
    clear hb6 HB5 HS25 HS5 hcut
    go_wp2_with fail
    go_loopw [16, 17] (fun rest i wr => BackAt w L rest i wr) (fun _ i _ => L.length - (intOf i).toNat)
    case atStart => exact ⟨0, A2, c2, by omega, rfl, by rw [HP0.out], by rw [HP0.out]; exact hc21, by rw [HP0.out]; exact HS26.out, HB6.out⟩
    case round =>
      obtain ⟨i, A7, c7, hi, rfl, rfl, hc7, hs7, hb7⟩ := hrel
      have hpl := (put_len (HI.out.drop i)).2
      have hdl : (L.drop i).length ≤ 40 := by simp; omega
      have HS7 := Lib.hid hs7
      have HB7 := Lib.hid hb7
      clear hs7 hb7
      by_cases hlt : i < L.length
      · obtain ⟨b, off, rfl, hbB, hcell⟩ := HS.out.at hlt
        generalize hx : L.getD i 0 = x at hcell
        obtain ⟨hf1, hf2⟩ := first_here HI.out hlt hx
        have hce : wr.cell? ⟨b, off + i, none⟩ = some (.int .i64 x) := (HB7.out.cell (p := ⟨b, off + i, none⟩) hbB).trans hcell
        have HT := Lib.hid (take_yes A7 c7 (put (L.drop i)) wr HS7.out (put_byt _) hc7 (by omega) x _ hf1 (by have := enc_pos (fold x); omega))
        rw [hf2] at HT
        have hpl2 := (put_len (HI.out.drop (i + 1))).2
        clear hf1 hf2 hx hcell
        go_wp2_with fail
        refine HT.out.mono ?_
        rintro e w8 ⟨v, rfl, ho, hb8⟩
        obtain ⟨A8, c8, rfl, hc8, -, hs8⟩ := ho.sl
        have hce8 : w8.cell? ⟨b, off + i, none⟩ = some (.int .i64 x) := (hb8.cell (p := ⟨b, off + i, none⟩) (Nat.lt_of_lt_of_le hbB HB7.out.size)).trans hce
        have HS8 := Lib.hid hs8
        have HB8 := Lib.hid (HB7.out.trans (hb8.mono HB7.out.size))
        have hc8' := hc8
        clear ho hs8 hb8 hce HT
        go_wp2
        go_roundw
        case rel => exact ⟨i + 1, A8, c8, by omega, by go_num, rfl, hc8', HS8.out, HB8.out⟩
        case measure => simp [intOf]; omega
      · have hi' : i = L.length := by omega
        have hnil : put (L.drop i) = [] := by rw [List.drop_eq_nil_of_le (by omega)]; rfl
        rw [hnil]
        go_wp2
        go_ret
        exact ⟨rfl, HB7.out⟩
end Go.Proofs.Ytopncdeafbpenaa
