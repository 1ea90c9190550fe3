/-
  The contract of the reference's Pixels, where there are not too many.
-/
import Derived.Test.YtfdlfjecgefgfaaGone
namespace Go.Proofs.Ytfdlfjecgefgfaa
open Go.RowKit
attribute [local go_sem ↓] Go.wp_at_zero Go.wp_at_succ

set_option maxRecDepth 100000 in
set_option maxHeartbeats 2000000 in
theorem rpix_any (x0 y0 x1 y1 most : Int) (hx : -1000 ≤ x0 ∧ x0 ≤ 1000) (hx1 : -1000 ≤ x1 ∧ x1 ≤ 1000) (hy : -1000 ≤ y0 ∧ y0 ≤ 1000) (hy1 : -1000 ≤ y1 ∧ y1 ≤ 1000)
    (hl : (((y1 - y0).toNat * (x1 - x0).toNat : Nat) : Int) < most) (hm : most ≤ 100000) (w : World) :
    Calls Try.prog 17 #[.int .i64 x0, .int .i64 y0, .int .i64 x1, .int .i64 y1, .int .i64 most] w (MadeE EP w.heap.size w (pxs x0 y0 x1 y1)) := by
  obtain ⟨i0, hi, hz0, hz1, hz2⟩ := info_parts Try.info45
  have HI := Lib.hid hi
  have HZ := Lib.hid (And.intro hz0 (And.intro hz1 hz2))
  clear hi hz0 hz1 hz2
  unfold pxs
  obtain ⟨p, hp⟩ : ∃ p, (x1 - x0).toNat = p := ⟨_, rfl⟩
  obtain ⟨q, hq⟩ : ∃ q, (y1 - y0).toNat = q := ⟨_, rfl⟩
  rw [hp, hq] at hl ⊢
  have HP := Lib.hid hp
  have HQ := Lib.hid hq
  have HL := Lib.hid hl
  clear hp hq hl
  go_enter Try.func17, Try.ntmps17
  go_wp2
  go_loopw [11, 12] (fun v y wr => ∃ i : Nat, i ≤ q ∧ y = .int .i64 (y0 + (i : Int)) ∧ OwnE EP wr w.heap.size v (upto x0 y0 p (i * p)) ∧ Below w.heap.size w wr) (fun _ y _ => (y1 - intOf y).toNat)
  case atStart => exact ⟨0, by omega, by simp, by rw [Nat.zero_mul]; exact ownE_empty (E := EP) _ (Nat.le_refl _), (Below.refl _ _).alloc (Nat.le_refl _) _⟩
  case round =>
    obtain ⟨i, hi, rfl, ho, hb⟩ := hrel
    have HO := Lib.hid ho
    have HB := Lib.hid hb
    clear ho hb
    by_cases hlt : y0 + (i : Int) < y1
    · have hd : decide (y0 + (i : Int) < y1) = true := by simpa using hlt
      have hiq : i < q := by have := HQ.out; omega
      go_wp2
      go_loopw [11, 13] (fun v x wr => ∃ j : Nat, j ≤ p ∧ x = .int .i64 (x0 + (j : Int)) ∧ OwnE EP wr w.heap.size v (upto x0 y0 p (i * p + j)) ∧ Below w.heap.size w wr) (fun _ x _ => (x1 - intOf x).toNat)
      case atStart => exact ⟨0, by omega, by simp, HO.out, HB.out⟩
      case round =>
        obtain ⟨j, hj, rfl, ho, hb⟩ := hrel
        have HO5 := Lib.hid ho
        have HB5 := Lib.hid hb
        clear ho hb
        by_cases hjt : x0 + (j : Int) < x1
        · have hjp : j < p := by have := HP.out; omega
          have hle : i * p + j + 1 ≤ q * p := by
            have : (i + 1) * p ≤ q * p := Nat.mul_le_mul_right _ hiq
            rw [Nat.add_mul] at this
            omega
          have HS := Lib.hid (show upto x0 y0 p (i * p + j) ++ [(x0 + (j : Int), y0 + (i : Int))] = upto x0 y0 p (i * p + (j + 1)) by rw [← pxl_at x0 y0 hjp, ← upto_succ]; rfl)
          have hul := upto_len x0 y0 p (i * p + j)
          obtain ⟨A5, c5, rfl⟩ := HO5.out.form
          have hlen : (((upto x0 y0 p (i * p + j)).length : Nat) : Int) < most := by rw [hul]; have := HL.out; omega
          have hlen2 : (upto x0 y0 p (i * p + j)).length ≤ 100000 := by omega
          generalize hU : upto x0 y0 p (i * p + j) = U at *
          generalize hN : U.length = N at *
          have HN := Lib.hid hN
          clear hU hN hul hle
          have z5 := HB5.out.size
          have HC := Lib.hid (show ∀ j' u, [Value.int .i64 (x0 + (j : Int)), .int .i64 (y0 + (i : Int))][j']? = some u → (wr.alloc (.cells #[.int .i64 (x0 + (j : Int)), .int .i64 (y0 + (i : Int))] 45)).cell? ((⟨wr.heap.size, 0, none⟩ : Addr).add j') = some u from new_el (E := EP) wr (x0 + (j : Int), y0 + (i : Int)) #[.int .i64 (x0 + (j : Int)), .int .i64 (y0 + (i : Int))] rfl)
          go_wp2_with (at_builtin; refine wpList_append_own _ rfl _ _ 41 rfl w.heap.size 45 i0 (.agg #[.int .i64 0, .int .i64 0]) 2 16 Try.underlying41 HI.out HZ.out.1 HZ.out.2.1 HZ.out.2.2 rfl (by decide) _ _ (EP.flat U) rfl (HN.out ▸ (HO5.out.alloc _).row) _ 1 1 [.int .i64 (x0 + (j : Int)), .int .i64 (y0 + (i : Int))] rfl rfl HC.out (by simp [Value.oneCell']) (by unfold maxLen; omega) (by omega) (by simp; omega) ?_; intro v' w6 hown' hgrow _; obtain ⟨ho6, hb6⟩ := append_ofE (E := EP) (x := (x0 + (j : Int), y0 + (i : Int))) HO5.out (by omega) (HN.out.symm ▸ hown') hgrow; have O6 := Lib.hid ho6; have B6 := Lib.hid (HB5.out.trans hb6); clear hown' hgrow ho6 hb6)
          go_roundw
          case rel => exact ⟨j + 1, by omega, by go_num, by rw [← HS.out]; exact O6.out, B6.out⟩
          case measure => simp [intOf]; omega
        · have hjp : j = p := by have := HP.out; omega
          have hdf : decide (x0 + (j : Int) < x1) = false := by simpa using hjt
          go_wp2
          go_roundw
          case rel =>
            refine ⟨i + 1, by omega, by go_num, ?_, HB5.out⟩
            have h := HO5.out
            rw [hjp] at h
            rw [Nat.add_mul, Nat.one_mul]
            exact h
          case measure => simp [intOf]; omega
    · have hiq : i = q := by have := HQ.out; omega
      go_wp2
      go_ret
      refine ⟨_, rfl, ?_, HB.out⟩
      rw [← hiq]
      exact HO.out
end Go.Proofs.Ytfdlfjecgefgfaa
