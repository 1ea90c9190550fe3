/-
  The reference's one and Put, at this seat's translation.
-/
import Derived.Test.YtopncdeafbpenaaJoinsW
namespace Go.Proofs.Ytopncdeafbpenaa
open Go.RowKit

set_option maxRecDepth 100000 in
set_option maxHeartbeats 2000000 in
theorem rone_any (n : Int) (w : World) (h0 : -9223372036854775808 ≤ n) (h1 : n ≤ 9223372036854775807) :
    Calls Try.prog 22 #[.int .i64 n] w (Made 5 .u8 w.heap.size w (enc (fold n))) := by
  obtain ⟨i0, hi, hz0, hz1, hz2⟩ := info_parts Try.info5
  have HI := Lib.hid hi
  have HZ := Lib.hid (And.intro hz0 (And.intro hz1 hz2))
  clear hi hz0 hz1 hz2
  have hf := fold_lt ⟨h0, h1⟩
  have hel := enc_len10 hf
  have hfo : ((fold n : Nat) : Int) = if n < 0 then -(n + 1) * 2 + 1 else n * 2 := by unfold fold; split <;> omega
  have HFO := Lib.hid hfo
  have HE := Lib.hid (own_empty 5 w)
  clear hfo
  by_cases hn : n < 0
  all_goals
    go_enter Try.func22, Try.ntmps22
    go_wp2_with fail
    go_loopw [4, 3] (fun b u wr => PutAt w.heap.size w [] n b u wr) (fun _ u _ => (intOf u).toNat)
    case atStart =>
      refine ⟨fold n, [], ?_, hf, HE.out, rfl, (Below.refl _ w).alloc (Nat.le_refl _) _⟩
      rw [HFO.out]
      first | (rw [if_pos hn]) | (rw [if_neg (by omega)])
    case round =>
      obtain ⟨k, cs, rfl, hk, ho, hcs, hb⟩ := hrel
      have hlen : cs.length + (enc k).length = (enc (fold n)).length := by simpa using congrArg List.length hcs
      have hsz := hb.size
      have HB := Lib.hid hb
      have HW := Lib.hid ho
      have HC := Lib.hid hcs
      have hep := enc_pos k
      have hcl : cs.length ≤ 10 := by omega
      clear hb ho hcs hlen hep
      by_cases hge : 128 ≤ k
      · go_wp2_with (at_builtin; refine wpList_append_own _ rfl _ _ 23 rfl w.heap.size 5 i0 (.int .u8 0) 1 1 Try.underlying23 HI.out HZ.out.1 HZ.out.2.1 HZ.out.2.2 rfl (by decide) _ _ _ rfl (HW.out.row.alloc _) _ 1 1 [_] rfl rfl (cell_one_new _ _ _) (by simp [Value.oneCell']) (by unfold maxLen; omega) (by omega) (by simp; omega) ?_; intro v' w1 hown' hgrow _)
        obtain ⟨ho', hb'⟩ := append_of HW.out (by omega) hown' hgrow
        refine ⟨⟨k / 128, cs ++ [((k % 128 + 128 : Nat) : Int)], by simp, by omega, by simpa using ho', ?_, HB.out.trans hb'⟩, by simp [intOf]; omega⟩
        rw [← HC.out, enc_ge (u := k) (by omega)]; simp
      · go_wp2_with (at_builtin; refine wpList_append_own _ rfl _ _ 23 rfl w.heap.size 5 i0 (.int .u8 0) 1 1 Try.underlying23 HI.out HZ.out.1 HZ.out.2.1 HZ.out.2.2 rfl (by decide) _ _ _ rfl (HW.out.row.alloc _) _ 1 1 [_] rfl rfl (cell_one_new _ _ _) (by simp [Value.oneCell']) (by unfold maxLen; omega) (by omega) (by simp; omega) ?_; intro v' w1 hown' hgrow _)
        go_ret
        obtain ⟨ho', hb'⟩ := append_of HW.out (by omega) hown' hgrow
        refine ⟨v', rfl, ?_, HB.out.trans hb'⟩
        have e := HC.out
        rw [List.nil_append, enc_lt (u := k) (by omega)] at e
        rw [← e]; exact ho'

set_option maxRecDepth 100000 in
set_option maxHeartbeats 2000000 in
theorem rput_any (A : Option Addr) (c : Nat) (l : List Int) (B : Nat) (w : World) (hs : Sl .i64 w B A l) (hB : B ≤ w.heap.size) (hi : Ins l) (hl : l.length ≤ 1000) :
    Calls Try.prog 15 #[.slice A l.length c] w (Made 5 .u8 w.heap.size w (put l)) := by
  obtain ⟨i0, hi0, hz0, hz1, hz2⟩ := info_parts Try.info5
  have HZ := Lib.hid (And.intro hi0 (And.intro hz0 (And.intro hz1 hz2)))
  clear hi0 hz0 hz1 hz2
  have HS := Lib.hid hs
  have HI := Lib.hid hi
  have HE := Lib.hid (own_empty 5 w)
  clear hs hi
  go_enter Try.func15, Try.ntmps15
  go_wp2_with fail
  go_loopw [3, 4] (fun b i wr => AllAt w.heap.size w l b i wr) (fun _ i _ => l.length - (intOf i).toNat)
  case atStart => exact ⟨0, by omega, rfl, HE.out, (Below.refl _ w).alloc (Nat.le_refl _) _⟩
  case round =>
    obtain ⟨k, hk, rfl, ho, hb⟩ := hrel
    have hpl := put_len (HI.out.take k)
    have hlt' : (l.take k).length ≤ 1000 := by simp; omega
    have hpl2 : (put (l.take k)).length ≤ 10000 := by omega
    have hsz := hb.size
    have HO := Lib.hid ho
    have HB := Lib.hid hb
    clear ho hb hpl hlt'
    by_cases hlt : k < l.length
    · obtain ⟨b, off, rfl, hbB, hcell⟩ := HS.out.at hlt
      have hn := HI.out.get k
      generalize hp : l.getD k 0 = n at hcell hn
      obtain ⟨hn0, hn1⟩ := hn
      have hel := enc_len10 (fold_lt ⟨hn0, hn1⟩)
      have HP := Lib.hid hp
      clear hp
      have hcell' : wr.cell? ⟨b, off + k, none⟩ = some (.int .i64 n) := (HB.out.cell (p := ⟨b, off + k, none⟩) (by show b < _; omega)).trans hcell
      clear hcell
      go_wp2_with fail
      refine (rone_any n wr hn0 hn1).mono ?_
      rintro e w1 ⟨v1, rfl, ho1, hb1⟩
      obtain ⟨A1, c1, rfl, -, -, hs1, hn1'⟩ := ho1.sl2
      have HO1 := Lib.hid (HO.out.keep hb1)
      have HS1 := Lib.hid (And.intro hs1 hn1')
      have HB1 := Lib.hid (HB.out.trans (hb1.mono hsz))
      clear ho1 hs1 hn1' hb1 HO
      go_wp2_with (at_builtin; refine wpList_append_sl _ rfl _ _ 23 rfl w.heap.size 5 i0 (.int .u8 0) 1 Try.underlying23 HZ.out.1 HZ.out.2.1 HZ.out.2.2.1 HZ.out.2.2.2 rfl .u8 _ (put (l.take k)) rfl HO1.out A1 c1 w1.heap.size (enc (fold n)) rfl HS1.out.1 HS1.out.2 (by omega) (by decide) HB1.out.size ?_; intro v2 w2 ho2 hb2)
      go_roundw
      case rel => exact ⟨k + 1, by omega, by go_num, by rw [take_at hlt HP.out, put_snoc]; exact ho2, HB1.out.trans hb2⟩
      case measure => simp [intOf]; omega
    · go_wp2
      go_ret
      have e : l.take k = l := List.take_of_length_le (by omega)
      exact ⟨_, rfl, by have := HO.out; rwa [e] at this, HB.out⟩
end Go.Proofs.Ytopncdeafbpenaa
