/-
  The contracts of fit and few: at most eight vertices that may be, or of numbers up to 2^20.
-/
import Derived.Test.YtfheipejbdfjbaaVs
import Derived.Test.YtfheipejbdfjbaaRefB
namespace Go.Proofs.Ytfheipejbdfjbaa
open Go.RowKit
attribute [local go_sem ↓] Go.wp_at_zero Go.wp_at_succ

theorem ownV_empty (w : World) (base : Nat) (h : base ≤ w.heap.size) : OwnV (w.alloc (.cells #[] 30)) base (.slice (some ⟨w.heap.size, 0, none⟩) 0 0) [] :=
  ⟨rfl, .inr ⟨_, 0, #[], rfl, h, heap_alloc_new _ _, Nat.le_refl _, by unfold maxLen; omega, rfl, rfl⟩⟩

def FewAt (f : V → V) (xs : List V) (w : World) (b i : Value) (wr : World) : Prop :=
  ∃ k : Nat, k ≤ xs.length ∧ k ≤ 8 ∧ i = .int .i64 k ∧ OwnV wr w.heap.size b ((xs.take k).map f) ∧ Below w.heap.size w wr


set_option maxHeartbeats 1000000 in
theorem fit_l (A : Option Addr) (c : Nat) (xs : List V) (B : Nat) (w : World) (hs : Vs w B A xs) :
    Calls Try.prog 16 #[.slice A xs.length c] w (MadeV w.heap.size w ((xs.take 8).map fitV)) := by
  obtain ⟨i0, hi, hz0, hz1, hz2⟩ := info_parts Try.info30
  have HI := Lib.hid hi
  have HZ := Lib.hid (And.intro hz0 (And.intro hz1 hz2))
  clear hi hz0 hz1 hz2
  have HS := Lib.hid hs.sharp
  clear hs
  generalize hn : xs.length = n at *
  have HN := Lib.hid hn
  clear hn
  go_enter Try.func16, Try.ntmps16
  go_wp2
  go_loopw [3, 4] (fun b i wr => FewAt fitV xs w b i wr) (fun _ i _ => 8 - (intOf i).toNat)
  case atStart => exact ⟨0, by omega, by omega, rfl, ownV_empty _ _ (Nat.le_refl _), (Below.refl _ _).alloc (Nat.le_refl _) _⟩
  case round =>
    obtain ⟨k, hk, hk8, rfl, ho, hbel⟩ := hrel
    rw [HN.out] at hk
    have HO := Lib.hid ho
    have HBE := Lib.hid hbel
    have hzr := hbel.size
    have hcl : ((xs.take k).map fitV).length ≤ 8 := by simp; omega
    clear ho hbel
    by_cases hlt : k < n
    · by_cases hlt8 : k < 8
      · obtain ⟨b, off, rfl, hbB, hcell⟩ := HS.out.open (k := k) (by rw [HN.out]; exact hlt)
        obtain ⟨u, hu, u8⟩ := hcell k (by rw [HN.out]; exact hlt)
        have HST := Lib.hid (show (xs.take (k + 1)).map fitV = (xs.take k).map fitV ++ [fitV u] by rw [List.take_add_one, hu]; simp)
        obtain ⟨e0, e1, e2, e3, e4, e5, e6, e7⟩ := u8.below HBE.out hbB
        have FT := Lib.hid (fit_any u)
        clear hcell hu u8
        generalize (xs.take k).map fitV = cs at HO HST hcl
        generalize fitV u = R at FT HST
        go_wp2_with fail
        with_reducible refine (FT.out _).mono ?_
        rintro e w2 ⟨rfl, hb2⟩
        have O2 := Lib.hid (HO.out.keep hb2)
        have B2 := Lib.hid (bstep HBE.out HBE.out.size hb2)
        have hz2 := B2.out.size
        clear hb2 e0 e1 e2 e3 e4 e5 e6 e7
        go_wp2_with (at_builtin; refine wpList_append_own _ rfl _ _ 22 rfl w.heap.size 30 i0 _ 8 64 Try.underlying22 HI.out HZ.out.1 HZ.out.2.1 HZ.out.2.2 rfl (by decide) _ _ _ rfl (O2.out.alloc _).row _ 1 1 (cellsV R) rfl rfl new_cells (cellsV_one R) (by unfold maxLen; omega) (by omega) (by simp; omega) ?_; intro v' w5 hown' hgrow _; obtain ⟨ho3, hb3⟩ := append_ofV O2.out (by omega) hown' hgrow; have O3 := Lib.hid ho3; have B3 := Lib.hid (B2.out.trans hb3); clear ho3 hb3 hown' hgrow)
        go_roundw
        case rel => exact ⟨k + 1, by rw [HN.out]; omega, by omega, by go_num, by rw [HST.out]; exact O3.out, B3.out⟩
        case measure => simp [intOf]; omega
      · obtain rfl : k = 8 := by omega
        go_wp2
        go_ret
        exact ⟨_, rfl, HO.out, HBE.out⟩
    · go_wp2
      go_ret
      refine ⟨_, rfl, ?_, HBE.out⟩
      have e : xs.take k = xs.take 8 := by rw [List.take_of_length_le (by rw [HN.out]; omega), List.take_of_length_le (by rw [HN.out]; omega)]
      have h := HO.out
      rw [e] at h
      exact h

set_option maxHeartbeats 1000000 in
theorem few_l (A : Option Addr) (c : Nat) (xs : List V) (B : Nat) (w : World) (hs : Vs w B A xs) :
    Calls Try.prog 10 #[.slice A xs.length c] w (MadeV w.heap.size w ((xs.take 8).map smallV)) := by
  obtain ⟨i0, hi, hz0, hz1, hz2⟩ := info_parts Try.info30
  have HI := Lib.hid hi
  have HZ := Lib.hid (And.intro hz0 (And.intro hz1 hz2))
  clear hi hz0 hz1 hz2
  have HS := Lib.hid hs.sharp
  clear hs
  generalize hn : xs.length = n at *
  have HN := Lib.hid hn
  clear hn
  go_enter Try.func10, Try.ntmps10
  go_wp2
  go_loopw [3, 4] (fun b i wr => FewAt smallV xs w b i wr) (fun _ i _ => 8 - (intOf i).toNat)
  case atStart => exact ⟨0, by omega, by omega, rfl, ownV_empty _ _ (Nat.le_refl _), (Below.refl _ _).alloc (Nat.le_refl _) _⟩
  case round =>
    obtain ⟨k, hk, hk8, rfl, ho, hbel⟩ := hrel
    rw [HN.out] at hk
    have HO := Lib.hid ho
    have HBE := Lib.hid hbel
    have hzr := hbel.size
    have hcl : ((xs.take k).map smallV).length ≤ 8 := by simp; omega
    clear ho hbel
    by_cases hlt : k < n
    · by_cases hlt8 : k < 8
      · obtain ⟨b, off, rfl, hbB, hcell⟩ := HS.out.open (k := k) (by rw [HN.out]; exact hlt)
        obtain ⟨u, hu, u8⟩ := hcell k (by rw [HN.out]; exact hlt)
        have HST := Lib.hid (show (xs.take (k + 1)).map smallV = (xs.take k).map smallV ++ [smallV u] by rw [List.take_add_one, hu]; simp)
        obtain ⟨e0, e1, e2, e3, e4, e5, e6, e7⟩ := u8.below HBE.out hbB
        have FT := Lib.hid (small_any u)
        clear hcell hu u8
        generalize (xs.take k).map smallV = cs at HO HST hcl
        generalize smallV u = R at FT HST
        go_wp2_with fail
        with_reducible refine (FT.out _).mono ?_
        rintro e w2 ⟨rfl, hb2⟩
        have O2 := Lib.hid (HO.out.keep hb2)
        have B2 := Lib.hid (bstep HBE.out HBE.out.size hb2)
        have hz2 := B2.out.size
        clear hb2 e0 e1 e2 e3 e4 e5 e6 e7
        go_wp2_with (at_builtin; refine wpList_append_own _ rfl _ _ 22 rfl w.heap.size 30 i0 _ 8 64 Try.underlying22 HI.out HZ.out.1 HZ.out.2.1 HZ.out.2.2 rfl (by decide) _ _ _ rfl (O2.out.alloc _).row _ 1 1 (cellsV R) rfl rfl new_cells (cellsV_one R) (by unfold maxLen; omega) (by omega) (by simp; omega) ?_; intro v' w5 hown' hgrow _; obtain ⟨ho3, hb3⟩ := append_ofV O2.out (by omega) hown' hgrow; have O3 := Lib.hid ho3; have B3 := Lib.hid (B2.out.trans hb3); clear ho3 hb3 hown' hgrow)
        go_roundw
        case rel => exact ⟨k + 1, by rw [HN.out]; omega, by omega, by go_num, by rw [HST.out]; exact O3.out, B3.out⟩
        case measure => simp [intOf]; omega
      · obtain rfl : k = 8 := by omega
        go_wp2
        go_ret
        exact ⟨_, rfl, HO.out, HBE.out⟩
    · go_wp2
      go_ret
      refine ⟨_, rfl, ?_, HBE.out⟩
      have e : xs.take k = xs.take 8 := by rw [List.take_of_length_le (by rw [HN.out]; omega), List.take_of_length_le (by rw [HN.out]; omega)]
      have h := HO.out
      rw [e] at h
      exact h

end Go.Proofs.Ytfheipejbdfjbaa
