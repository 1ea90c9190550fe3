/-
  The walk of glazierlaw12.CodeForward.
-/
import Derived.Test.YticfllfelbfceaaAllW
namespace Go.Proofs.Yticfllfelbfceaa
open Go.RowKit
attribute [local go_sem ↓] Go.wp_at_zero Go.wp_at_succ

/-- Of a program that may be each instruction goes forward, and not beyond the end. -/
theorem tgt_in {x : In} {i n : Int} (hx : oneB x i n = true) : i < tgt x i ∧ tgt x i ≤ n := by
  have h := of_decide_eq_true (show decide _ = true from hx)
  obtain ⟨h0, h1, h2, h3, h4, h5, h6, h7⟩ := h
  unfold tgt
  split
  · rename_i e
    rw [e] at h6 h7
    unfold lo at h6
    unfold hi at h7
    simp at h6 h7
    omega
  · omega
set_option maxRecDepth 100000 in
set_option maxHeartbeats 4000000 in
theorem forward_walk (l : List In) (A : Option Addr) (c : Nat) (t : Int) (hok : ∀ y ∈ l, y.ok) (w : World) (he : Es EI w w.heap.size A l) :
    Calls Try.prog 4 #[.slice A l.length c, .int .u32 t] w fun e w' => e = .returned (.bool true) ∧ Below w.heap.size w w' := by
  have HP := Lib.hid (fun w he => Fit_any l A c hok w he)
  have HO := Lib.hid (show ∀ x ∈ fitP l, x.ok from fitP_ok hok)
  have HE := Lib.hid he
  have hl := fitP_len l
  have HC := Lib.hid (fitP_chk l)
  have H1 := Lib.hid (show ∀ (i : Nat) x, (fitP l)[i]? = some x → oneB x i (fitP l).length = true from fun i x h => (fitP_one l i x h).1)
  have HL := Lib.hid (fun (k : Nat) (h : k < (fitP l).length) => get_lt h)
  generalize fitP l = p at *
  clear hok he
  go_enter Try.func4, Try.ntmps4
  go_wp2_with fail
  with_reducible refine (shown_any w).mono ?_
  rintro e w1 ⟨rfl, hb⟩
  have B1 := Lib.hid hb
  have E1 := Lib.hid (HE.out.up hb)
  clear hb HE
  go_wp2_with fail
  with_reducible refine (HP.out _ E1.out).mono ?_
  rintro e w2 ⟨v, rfl, ho, hb⟩
  obtain ⟨A', c', rfl, hlc, -, hes⟩ := ho.es
  have B2 := Lib.hid (bstep B1.out B1.out.size hb)
  have E2 := Lib.hid hes
  have C2 := Lib.hid (check_any p A' c' HO.out w2 hes)
  rw [HC.out] at C2
  clear hb ho hes HP E1 B1 hlc
  go_wp2_with fail
  with_reducible refine (C2.out).mono ?_
  rintro e w3 ⟨rfl, hb⟩
  have B3 := Lib.hid (bstep B2.out B2.out.size hb)
  have E3 := Lib.hid (E2.out.up hb)
  clear hb B2 E2 C2
  obtain ⟨n, hn⟩ : ∃ n, p.length = n := ⟨_, rfl⟩
  rw [hn] at H1 HL hl ⊢
  replace hn := Lib.hid hn
  go_wp2_with fail
  go_loopw [7, 8] (fun a s wr => ∃ k j : Nat, j ≤ k ∧ k ≤ n ∧ a = .int .i64 k ∧ s = .int .i64 j ∧ Below w.heap.size w wr ∧ Es EI wr wr.heap.size A' p) (fun a _ _ => n - (intOf a).toNat)
  case atStart => exact ⟨0, 0, Nat.le_refl _, Nat.zero_le _, rfl, rfl, B3.out, E3.out⟩
  case round =>
    obtain ⟨k, j, hjk, hkn, rfl, rfl, hb, hes⟩ := hrel
    have HB := Lib.hid hb
    have HE := Lib.hid hes
    clear hb hes B3 E3
    by_cases hlt : k < n
    · obtain ⟨u, hu⟩ := HL.out k hlt
      obtain ⟨b, off, rfl, hbB, hat⟩ := HE.out.at hu
      obtain ⟨c0, c1, c2, c3, c4⟩ := atI (show AtE EI wr b (off + k * 5) u from hat)
      have HT := Lib.hid (tgt_in (H1.out k u hu))
      have hn32 : n ≤ 32 := hl.2
      have HU := Lib.hid (fun w' => target_any u k ⟨by omega, by omega⟩ (fun e => by
        have h := of_decide_eq_true (show decide _ = true from H1.out k u hu)
        obtain ⟨h0, h1, h2, h3, h4, h5, h6, h7⟩ := h
        rw [e] at h6 h7
        unfold lo at h6
        unfold hi at h7
        simp at h6 h7
        omega) w')
      obtain ⟨q, hq⟩ : ∃ q, tgt u k = q := ⟨_, rfl⟩
      rw [hq] at HT HU
      obtain ⟨z, hz⟩ : ∃ z : Nat, q = (z : Int) := ⟨q.toNat, by have := HT.out; omega⟩
      subst hz
      have hz1 : k < z := by have := HT.out; omega
      have hz2 : z ≤ n := by have := HT.out; omega
      have hjn : j ≤ n := by omega
      clear hat hq hu HT
      cases hr : bits BinOp.and .u32 (t / 2 ^ k) 1 == 1
      · go_wp2_with fail
        go_roundw
        case rel => exact ⟨k + 1, j + 1, by omega, by omega, by go_num, by go_num, HB.out, HE.out⟩
        case measure => simp [intOf]; omega
      · go_wp2_with fail
        with_reducible refine (HU.out _).mono ?_
        rintro e w4 ⟨rfl, hb⟩
        have B4 := Lib.hid (bstep HB.out HB.out.size hb)
        have E4 := Lib.hid (HE.out.up hb)
        have hz3 : ¬ (z : Int) ≤ (k : Int) := by omega
        have hz4 : ¬ (n : Int) < (z : Int) := by omega
        clear hb HU
        go_wp2_with fail
        go_roundw
        case rel => exact ⟨z, j + 1, by omega, by omega, by go_num, by go_num, B4.out, E4.out⟩
        case measure => simp [intOf]; omega
    · obtain rfl : k = n := by omega
      go_wp2_with fail
      go_ret
      exact ⟨rfl, HB.out⟩
end Go.Proofs.Yticfllfelbfceaa
