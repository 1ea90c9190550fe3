/-
  The contracts of the reference's Bits and Mask.
-/
import Derived.Test.YtgcoggejgolhgaaGone
import Derived.Test.YtgcoggejgolhgaaRIn
namespace Go.Proofs.Ytgcoggejgolhgaa
open Go.RowKit
attribute [local go_sem ↓] Go.wp_at_zero Go.wp_at_succ

theorem iv_itm {k : Nat} (h : k < 4) : iv (itm k) = (k : Int) := by
  obtain rfl | rfl | rfl | rfl : k = 0 ∨ k = 1 ∨ k = 2 ∨ k = 3 := by omega
  all_goals rfl
def BitsAt (w : World) (m : Int) (o i : Value) (wr : World) : Prop :=
  ∃ k : Nat, k ≤ 4 ∧ i = .int .i64 k ∧ OwnS 3 .i64 wr w.heap.size o ((bl m k).map iv) ∧ Below w.heap.size w wr

set_option maxRecDepth 100000 in
set_option maxHeartbeats 1000000 in
theorem rbits_any (m : Int) (hm0 : 0 ≤ m) (hm1 : m ≤ 255) (w : World) : Calls Try.prog 13 #[.int .u8 m] w (Made 3 .i64 w.heap.size w (ints m)) := by
  obtain ⟨i0, hi, hz0, hz1, hz2⟩ := info_parts Try.info3
  have HI := Lib.hid hi
  have HZ := Lib.hid (And.intro hz0 (And.intro hz1 hz2))
  clear hi hz0 hz1 hz2
  have HH := Lib.hid (fun k hk => has_any m k hm0 hm1 hk)
  clear hm0 hm1
  go_enter Try.func13, Try.ntmps13
  go_wp2
  go_loopw [3, 4] (fun o i wr => BitsAt w m o i wr) (fun _ i _ => 4 - (intOf i).toNat)
  case atStart => exact ⟨0, by omega, rfl, own_empty 3 w, (Below.refl _ _).alloc (Nat.le_refl _) _⟩
  case round =>
    obtain ⟨k, hk, rfl, hO, hB⟩ := hrel
    have hlen : ((bl m k).map iv).length ≤ 4 := by
      rw [List.length_map]
      exact Nat.le_trans (bl_pre m hk).length_le (bl_len m)
    by_cases hlt : k < 4
    · have HC := Lib.hid (HH.out k hlt)
      have e1 : bt m k = true → (bl m (k + 1)).map iv = (bl m k).map iv ++ [(k : Int)] := fun h => by rw [bl_yes h, List.map_append, List.map_singleton, iv_itm hlt]
      have e2 : bt m k = false → (bl m (k + 1)).map iv = (bl m k).map iv := fun h => by rw [bl_no h]
      generalize (bl m k).map iv = xs at *
      obtain ⟨A, c, rfl⟩ := own_form hO
      have HO := Lib.hid hO
      have HB := Lib.hid hB
      have hs := hB.size
      have E1 := Lib.hid e1
      have E2 := Lib.hid e2
      clear hO hB e1 e2
      have hw : IntKind.i64.wrap ((k : Int) + 1) = (k : Int) + 1 := by rw [IntKind.wrap_i64]; omega
      cases hr : bt m k with
      | false =>
        rw [hr] at HC
        have E3 := Lib.hid (E2.out hr)
        clear hr
        go_wp2_with (go_at_call 22; (with_reducible refine (HC.out _).mono ?_); rintro e w' ⟨rfl, rfl⟩)
        exact ⟨⟨k + 1, by omega, by simp, by rw [E3.out]; exact HO.out, HB.out⟩, by simp [intOf]; omega⟩
      | true =>
        rw [hr] at HC
        have E3 := Lib.hid (E1.out hr)
        clear hr
        go_wp2_with (first | (go_at_call 22; (with_reducible refine (HC.out _).mono ?_); rintro e w' ⟨rfl, rfl⟩) | (at_builtin; (refine wpList_append_own _ rfl _ _ 31 rfl w.heap.size 3 i0 (.int .i64 0) 1 8 Try.underlying31 HI.out HZ.out.1 HZ.out.2.1 HZ.out.2.2 rfl (by decide) _ _ _ rfl (HO.out.row.alloc _) ⟨wr.heap.size, 0, none⟩ 1 1 [.int .i64 k] rfl rfl (cell_one_new _ _ _) (by simp [Value.oneCell']) (by unfold maxLen; omega) (by omega) (by simp; omega) ?_); intro v' w1 hown' hgrow _; obtain ⟨g', cap', rfl⟩ := ownsRow_succ hown'))
        obtain ⟨hA, hA'⟩ := append_of (k := .i64) (x := (k : Int)) HO.out hs hown' hgrow
        exact ⟨⟨k + 1, by omega, by simp, by rw [E3.out]; simpa using hA, HB.out.trans hA'⟩, by simp [intOf]; omega⟩
    · obtain rfl : k = 4 := by omega
      obtain ⟨A, c, rfl⟩ := own_form hO
      have HO := Lib.hid hO
      have HB := Lib.hid hB
      clear hO hB
      go_wp2
      go_ret
      exact ⟨_, rfl, HO.out, HB.out⟩
end Go.Proofs.Ytgcoggejgolhgaa
