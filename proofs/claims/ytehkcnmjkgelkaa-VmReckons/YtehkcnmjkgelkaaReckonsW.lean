/-
  glazierlaw13.VmReckons, its walk.
-/
import Derived.Test.YtehkcnmjkgelkaaReckP
namespace Go.Proofs.Ytehkcnmjkgelkaa
open Go.RowKit C
attribute [local go_sem ↓] Go.wp_at_zero Go.wp_at_succ

theorem ops_at {w : World} {b k : Nat} (h : w.heap[b]? = some (.cells #[.int .u8 2, .int .u8 3, .int .u8 4, .int .u8 5, .int .u8 6, .int .u8 7, .int .u8 8, .int .u8 9, .int .u8 10, .int .u8 11] 50)) (hk : k < 10) : w.cell? ⟨b, k, none⟩ = some (.int .u8 ((k : Int) + 2)) := by
  have hw : k = 0 ∨ k = 1 ∨ k = 2 ∨ k = 3 ∨ k = 4 ∨ k = 5 ∨ k = 6 ∨ k = 7 ∨ k = 8 ∨ k = 9 := by omega
  rcases hw with rfl | rfl | rfl | rfl | rfl | rfl | rfl | rfl | rfl | rfl <;> exact Joins.cell_of_block h _
set_option maxRecDepth 100000 in
set_option maxHeartbeats 8000000 in
theorem reckons_walk (a b n : Int) (ha : I32 a) (hb : I32 b) (hn : 0 ≤ n ∧ n ≤ 255) (w : World) :
    Calls Try.prog 6 #[.int .i32 a, .int .i32 b, .int .u8 n] w fun e w' => e = .returned (.bool true) ∧ Below w.heap.size w w' := by
  obtain ⟨s, hk, hs⟩ : ∃ s : Nat, n.tmod 32 = s ∧ s ≤ 31 := by
    have h := Int.tmod_eq_emod_of_nonneg (b := 32) hn.1
    have h1 := Int.emod_lt_of_pos n (show (0 : Int) < 32 by decide)
    have h2 := Int.emod_nonneg n (show (32 : Int) ≠ 0 by decide)
    exact ⟨(n % 32).toNat, by omega, by omega⟩
  obtain ⟨hn0, hn1⟩ := hn
  have HSH := Lib.hid shown_any
  have HM1 := Lib.hid (muldiv_256 a b ha hb)
  have HM2 := Lib.hid (muldiv_shl a s ha hs)
  have HQ := Lib.hid (fun (k : Nat) (hk : k < 10) => reck_runs hk hs ha hb)
  have HR := Lib.hid (fun (k : Nat) (hk : k < 10) A W (h : Es EI W W.heap.size A [insK k s]) => run_any [insK k s] A 1 noT none 0 a b 0 0 0 0 0 0 (insK_ok hk hs) noT_ok W h Es.none_)
  have HWT := Lib.hid (fun (k : Nat) (hk : k < 10) => wants_at (s := s) hk ha hb)
  have HA := Lib.hid ha
  have HBB := Lib.hid hb
  have h1s := one_shl hs
  have HWL := Lib.hid (show wants a b s = [w32 (a + b), w32 (a - b), w32 (a * b / 256), min a b, max a b, bits .and .i32 a b, bits .or .i32 a b, w32 (a * 2 ^ s), a / 2 ^ s, if a < b then 1 else 0] from rfl)
  have g1 := w32_eq (a + b)
  have g2 := w32_eq (a - b)
  have g3 := w32_eq (a * b / 256)
  have g4 := w32_eq (a * 2 ^ s)
  have i1 := i64_w32 (a + b)
  have i2 := i64_w32 (a - b)
  have i3 := i64_w32 (a * b / 256)
  have i4 := i64_w32 (a * 2 ^ s)
  have i5 : wrap64 (bits .and .i32 a b) = bits .and .i32 a b := by
    rw [show bits .and .i32 a b = w32 (bits .and .i64 a b) from bits_32 true a b]
    have := w32_in (bits .and .i64 a b)
    unfold wrap64; omega
  have i6 : wrap64 (bits .or .i32 a b) = bits .or .i32 a b := by
    rw [show bits .or .i32 a b = w32 (bits .or .i64 a b) from bits_32 false a b]
    have := w32_in (bits .or .i64 a b)
    unfold wrap64; omega
  go_enter Try.func6, Try.ntmps6
  go_upto_region 7 with (first
    | (go_at_call 9; (with_reducible refine (HSH.out _).mono ?_); rintro e w1 ⟨rfl, hb⟩; have HB1 := Lib.hid hb; clear hb)
    | (go_at_call 19; (with_reducible refine (HM1.out _).mono ?_); rintro e w2 ⟨rfl, hb⟩; have HB2 := Lib.hid (bstep HB1.out HB1.out.size hb); clear hb)
    | (go_at_call 19; (with_reducible refine (HM2.out _).mono ?_); rintro e w3 ⟨rfl, hb⟩; have HB3 := Lib.hid (bstep HB2.out HB2.out.size hb); clear hb))
  go_upto_region 8 with fail
  have hwl := HWL.out
  generalize w32 (a + b) = e0 at *
  generalize w32 (a - b) = e1 at *
  generalize w32 (a * b / 256) = e2 at *
  generalize min a b = e3 at *
  generalize max a b = e4 at *
  generalize bits .and .i32 a b = e5 at *
  generalize bits .or .i32 a b = e6 at *
  generalize w32 (a * 2 ^ s) = e7 at *
  generalize a / 2 ^ s = e8 at *
  have HWT2 := Lib.hid HWT.out
  rw [hwl] at HWT2
  clear hwl HWL HWT g1 g2 g3 g4 i1 i2 i3 i4 i5 i6 HM1 HM2 HSH HB1 HB2
  have hab : (a < b ∧ (if a < b then (1 : Int) else 0) = 1) ∨ (¬ a < b ∧ (if a < b then (1 : Int) else 0) = 0) := by
    by_cases h : a < b
    · exact .inl ⟨h, if_pos h⟩
    · exact .inr ⟨h, if_neg h⟩
  rcases hab with ⟨hab, he9⟩ | ⟨hab, he9⟩
  all_goals
    rw [he9] at HWT2
    clear he9
    go_upto_region 11 with fail
    clear hab
  · skip
    have BX := Lib.hid (show Below w.heap.size w ((w3.alloc (.cells #[.int .i64 e0, .int .i64 e1, .int .i64 e2, .int .i64 e3, .int .i64 e4, .int .i64 e5, .int .i64 e6, .int .i64 e7, .int .i64 e8, .int .i64 1] 49)).alloc (.cells #[.int .u8 2, .int .u8 3, .int .u8 4, .int .u8 5, .int .u8 6, .int .u8 7, .int .u8 8, .int .u8 9, .int .u8 10, .int .u8 11] 50)) from (HB3.out.alloc HB3.out.size _).alloc (by have := HB3.out.size; simp; omega) _)
    have GX := Lib.hid (show ((w3.alloc (.cells #[.int .i64 e0, .int .i64 e1, .int .i64 e2, .int .i64 e3, .int .i64 e4, .int .i64 e5, .int .i64 e6, .int .i64 e7, .int .i64 e8, .int .i64 1] 49)).alloc (.cells #[.int .u8 2, .int .u8 3, .int .u8 4, .int .u8 5, .int .u8 6, .int .u8 7, .int .u8 8, .int .u8 9, .int .u8 10, .int .u8 11] 50)).heap[w3.heap.size]? = some (.cells (regC [e0, e1, e2, e3, e4, e5, e6, e7, e8, 1]) 49) from new_at20 w3 _ _)
    have OX := Lib.hid (show ((w3.alloc (.cells #[.int .i64 e0, .int .i64 e1, .int .i64 e2, .int .i64 e3, .int .i64 e4, .int .i64 e5, .int .i64 e6, .int .i64 e7, .int .i64 e8, .int .i64 1] 49)).alloc (.cells #[.int .u8 2, .int .u8 3, .int .u8 4, .int .u8 5, .int .u8 6, .int .u8 7, .int .u8 8, .int .u8 9, .int .u8 10, .int .u8 11] 50)).heap[w3.heap.size + 1]? = some (.cells #[.int .u8 2, .int .u8 3, .int .u8 4, .int .u8 5, .int .u8 6, .int .u8 7, .int .u8 8, .int .u8 9, .int .u8 10, .int .u8 11] 50) from new_at2 w3 _ _)
    have hgX := Lib.hid (show w3.heap.size + 1 < ((w3.alloc (.cells #[.int .i64 e0, .int .i64 e1, .int .i64 e2, .int .i64 e3, .int .i64 e4, .int .i64 e5, .int .i64 e6, .int .i64 e7, .int .i64 e8, .int .i64 1] 49)).alloc (.cells #[.int .u8 2, .int .u8 3, .int .u8 4, .int .u8 5, .int .u8 6, .int .u8 7, .int .u8 8, .int .u8 9, .int .u8 10, .int .u8 11] 50)).heap.size by simp)
    generalize ((w3.alloc (.cells #[.int .i64 e0, .int .i64 e1, .int .i64 e2, .int .i64 e3, .int .i64 e4, .int .i64 e5, .int .i64 e6, .int .i64 e7, .int .i64 e8, .int .i64 1] 49)).alloc (.cells #[.int .u8 2, .int .u8 3, .int .u8 4, .int .u8 5, .int .u8 6, .int .u8 7, .int .u8 8, .int .u8 9, .int .u8 10, .int .u8 11] 50)) = X at *
    go_wp2_with fail
    have B00 := Lib.hid (Below.refl X.heap.size X)
    go_loopw [17] (fun i wr => ∃ k : Nat, k ≤ 10 ∧ i = .int .i64 k ∧ Below X.heap.size X wr) (fun i _ => 10 - (intOf i).toNat)
    case atStart => exact ⟨0, Nat.zero_le _, rfl, B00.out⟩
    case round =>
      clear B00
      obtain ⟨k, hk, rfl, hb⟩ := hrel
      have BZ0 := Lib.hid hb
      clear hb
      by_cases hlt : k < 10
      · have hlt' : (k : Int) < 10 := by omega
        obtain ⟨v, hv⟩ : ∃ v, wantK a b k s = v := ⟨_, rfl⟩
        have hwt := HWT2.out k hlt
        have hq := HQ.out k hlt
        have hr := HR.out k hlt
        rw [hq] at hr
        rw [hv] at hwt hr
        simp only [runV, regC, List.map_cons, List.map_nil] at hr
        have wcX := Lib.hid (show X.cell? ⟨w3.heap.size, k, none⟩ = some (.int .i64 v) by have h := ints_at GX.out hwt; rw [Nat.zero_add] at h; exact h)
        have oc : wr.cell? ⟨w3.heap.size + 1, k, none⟩ = some (.int .u8 ((k : Int) + 2)) := (BZ0.out.cell (p := ⟨w3.heap.size + 1, k, none⟩) hgX.out).trans (ops_at OX.out hlt)
        have hgw : w3.heap.size + 1 < wr.heap.size := Nat.lt_of_lt_of_le hgX.out BZ0.out.size
        clear hwt hq hv
        by_cases h78 : k = 7 ∨ k = 8
        · have hins : insK k s = ⟨k + 2, 2, 0, 0, s⟩ := if_pos h78
          rw [hins] at hr
          have HRR := Lib.hid hr
          clear hr hins
          have hko : (((k : Int) + 2 == 9) = true ∧ ((k : Int) + 2 == 10) = false) ∨ (((k : Int) + 2 == 9) = false ∧ ((k : Int) + 2 == 10) = true) := by
            rcases h78 with rfl | rfl
            · exact .inl ⟨rfl, rfl⟩
            · exact .inr ⟨rfl, rfl⟩
          obtain ⟨o, ho⟩ : ∃ o : Int, (k : Int) + 2 = o := ⟨_, rfl⟩
          rw [ho] at oc hko HRR
          have HO := Lib.hid ho
          clear ho h78
          have BW := Lib.hid (new_below wr (.cells #[.int .u8 o, .int .u8 2, .int .u8 0, .int .u8 0, .int .i64 s] 45))
          rcases hko with ⟨k9, k10⟩ | ⟨k9, k10⟩
          all_goals
            go_upto_region 18 with fail
            have BZ := Lib.hid (bstep BZ0.out BZ0.out.size BW.out)
            have QW := Lib.hid (inB_cell (x := ⟨o, 2, 0, 0, s⟩) (new_at1 wr (.cells #[.int .u8 o, .int .u8 2, .int .u8 0, .int .u8 0, .int .i64 s] 45)))
            clear BW oc BZ0 k9 k10
            generalize wr.alloc (.cells #[.int .u8 o, .int .u8 2, .int .u8 0, .int .u8 0, .int .i64 s] 45) = Z at *
            obtain ⟨c0, c1, c2, c3, c4⟩ := QW.out
            have QZ := Lib.hid (new_at1 Z (.cells #[.int .u8 o, .int .u8 2, .int .u8 0, .int .u8 0, .int .i64 s] 45))
            have BZ1 := Lib.hid (new_below Z (.cells #[.int .u8 o, .int .u8 2, .int .u8 0, .int .u8 0, .int .i64 s] 45))
            go_upto_region 19 with (go_at_call 11; refine (HRR.out (some ⟨_, 0, none⟩) _ (ins_at (x := ⟨o, 2, 0, 0, s⟩) QZ.out)).mono ?_; rintro e w5 ⟨rfl, hb⟩; have B5 := Lib.hid (bstep BZ1.out BZ1.out.size hb); clear hb)
            have HRc := Lib.hid (RB_cells (new_at1 w5 (RB [a, b, v, 0, 0, 0, 0, 0])))
            have BT := Lib.hid ((BX.out.trans (BZ.out.mono BX.out.size)).trans (B5.out.mono (Nat.le_trans BX.out.size BZ.out.size)))
            have BT2 := Lib.hid (BT.out.alloc BT.out.size (RB [a, b, v, 0, 0, 0, 0, 0]))
            have BXT := Lib.hid ((BZ.out.trans (B5.out.mono BZ.out.size)).alloc (Nat.le_trans BZ.out.size B5.out.size) (RB [a, b, v, 0, 0, 0, 0, 0]))
            have wc2 := (BXT.out.cell (p := ⟨w3.heap.size, k, none⟩) (show w3.heap.size < X.heap.size by have := hgX.out; omega)).trans wcX.out
            obtain ⟨r0, r1, r2, -, -, -, -, -⟩ := HRc.out
            change Code.wp _ _ _ _ (w5.alloc (RB [a, b, v, 0, 0, 0, 0, 0]))
            generalize w5.alloc (RB [a, b, v, 0, 0, 0, 0, 0]) = T at *
            have z0 : ∀ z : Grow T, z.w.cell? ⟨w5.heap.size, 0, none⟩ = some (.int .i64 a) := fun z => z.cell r0
            have z1 : ∀ z : Grow T, z.w.cell? ⟨w5.heap.size, 1, none⟩ = some (.int .i64 b) := fun z => z.cell r1
            have z2 : ∀ z : Grow T, z.w.cell? ⟨w5.heap.size, 2, none⟩ = some (.int .i64 v) := fun z => z.cell r2
            have z3 : ∀ z : Grow T, z.w.cell? ⟨w3.heap.size, k, none⟩ = some (.int .i64 v) := fun z => z.cell wc2
            have ne1 := Grow.ne T
            refine wp_region_grow (by kernel_rfl) (by kernel_rfl) ?_
            repeat (first | go_big_quiet_skip | go_big_quiet_step (fail))
            refine wpQuiet_nil ?_
            rintro _ ⟨z, rfl⟩
            have B7 := Lib.hid (bstep BT2.out BT2.out.size z.below)
            have BX7 := Lib.hid (bstep BXT.out (BXT.out.size) z.below)
            clear z0 z1 z2 z3 ne1 r0 r1 r2 wc2
            generalize z.w = T7 at *
            clear z
            go_wp2_with fail
            go_roundw
            case rel => exact ⟨k + 1, by omega, by go_num, BX7.out⟩
            case measure => simp [intOf]; omega
        · have hins : insK k s = ⟨k + 2, 2, 0, 1, 0⟩ := if_neg h78
          rw [hins] at hr
          have HRR := Lib.hid hr
          clear hr hins
          have k9 : ((k : Int) + 2 == 9) = false := by simp; omega
          have k10 : ((k : Int) + 2 == 10) = false := by simp; omega
          obtain ⟨o, ho⟩ : ∃ o : Int, (k : Int) + 2 = o := ⟨_, rfl⟩
          rw [ho] at oc k9 k10 HRR
          have HO := Lib.hid ho
          clear ho h78
          have BW := Lib.hid (new_below wr (.cells #[.int .u8 o, .int .u8 2, .int .u8 0, .int .u8 1, .int .i64 0] 45))
          go_upto_region 18 with fail
          have BZ := Lib.hid (bstep BZ0.out BZ0.out.size BW.out)
          have QW := Lib.hid (inB_cell (x := ⟨o, 2, 0, 1, 0⟩) (new_at1 wr (.cells #[.int .u8 o, .int .u8 2, .int .u8 0, .int .u8 1, .int .i64 0] 45)))
          clear BW oc BZ0 k9 k10
          generalize wr.alloc (.cells #[.int .u8 o, .int .u8 2, .int .u8 0, .int .u8 1, .int .i64 0] 45) = Z at *
          obtain ⟨c0, c1, c2, c3, c4⟩ := QW.out
          have QZ := Lib.hid (new_at1 Z (.cells #[.int .u8 o, .int .u8 2, .int .u8 0, .int .u8 1, .int .i64 0] 45))
          have BZ1 := Lib.hid (new_below Z (.cells #[.int .u8 o, .int .u8 2, .int .u8 0, .int .u8 1, .int .i64 0] 45))
          go_upto_region 19 with (go_at_call 11; refine (HRR.out (some ⟨_, 0, none⟩) _ (ins_at (x := ⟨o, 2, 0, 1, 0⟩) QZ.out)).mono ?_; rintro e w5 ⟨rfl, hb⟩; have B5 := Lib.hid (bstep BZ1.out BZ1.out.size hb); clear hb)
          have HRc := Lib.hid (RB_cells (new_at1 w5 (RB [a, b, v, 0, 0, 0, 0, 0])))
          have BT := Lib.hid ((BX.out.trans (BZ.out.mono BX.out.size)).trans (B5.out.mono (Nat.le_trans BX.out.size BZ.out.size)))
          have BT2 := Lib.hid (BT.out.alloc BT.out.size (RB [a, b, v, 0, 0, 0, 0, 0]))
          have BXT := Lib.hid ((BZ.out.trans (B5.out.mono BZ.out.size)).alloc (Nat.le_trans BZ.out.size B5.out.size) (RB [a, b, v, 0, 0, 0, 0, 0]))
          have wc2 := (BXT.out.cell (p := ⟨w3.heap.size, k, none⟩) (show w3.heap.size < X.heap.size by have := hgX.out; omega)).trans wcX.out
          obtain ⟨r0, r1, r2, -, -, -, -, -⟩ := HRc.out
          change Code.wp _ _ _ _ (w5.alloc (RB [a, b, v, 0, 0, 0, 0, 0]))
          generalize w5.alloc (RB [a, b, v, 0, 0, 0, 0, 0]) = T at *
          have z0 : ∀ z : Grow T, z.w.cell? ⟨w5.heap.size, 0, none⟩ = some (.int .i64 a) := fun z => z.cell r0
          have z1 : ∀ z : Grow T, z.w.cell? ⟨w5.heap.size, 1, none⟩ = some (.int .i64 b) := fun z => z.cell r1
          have z2 : ∀ z : Grow T, z.w.cell? ⟨w5.heap.size, 2, none⟩ = some (.int .i64 v) := fun z => z.cell r2
          have z3 : ∀ z : Grow T, z.w.cell? ⟨w3.heap.size, k, none⟩ = some (.int .i64 v) := fun z => z.cell wc2
          have ne1 := Grow.ne T
          refine wp_region_grow (by kernel_rfl) (by kernel_rfl) ?_
          repeat (first | go_big_quiet_skip | go_big_quiet_step (fail))
          refine wpQuiet_nil ?_
          rintro _ ⟨z, rfl⟩
          have B7 := Lib.hid (bstep BT2.out BT2.out.size z.below)
          have BX7 := Lib.hid (bstep BXT.out (BXT.out.size) z.below)
          clear z0 z1 z2 z3 ne1 r0 r1 r2 wc2
          generalize z.w = T7 at *
          clear z
          go_wp2_with fail
          go_roundw
          case rel => exact ⟨k + 1, by omega, by go_num, BX7.out⟩
          case measure => simp [intOf]; omega
      · have hlt' : ¬ (k : Int) < 10 := by omega
        have BE := Lib.hid (BX.out.trans (BZ0.out.mono BX.out.size))
        go_wp2_with fail
        go_ret
        exact ⟨rfl, BE.out⟩
  · skip
    have BX := Lib.hid (show Below w.heap.size w ((w3.alloc (.cells #[.int .i64 e0, .int .i64 e1, .int .i64 e2, .int .i64 e3, .int .i64 e4, .int .i64 e5, .int .i64 e6, .int .i64 e7, .int .i64 e8, .int .i64 0] 49)).alloc (.cells #[.int .u8 2, .int .u8 3, .int .u8 4, .int .u8 5, .int .u8 6, .int .u8 7, .int .u8 8, .int .u8 9, .int .u8 10, .int .u8 11] 50)) from (HB3.out.alloc HB3.out.size _).alloc (by have := HB3.out.size; simp; omega) _)
    have GX := Lib.hid (show ((w3.alloc (.cells #[.int .i64 e0, .int .i64 e1, .int .i64 e2, .int .i64 e3, .int .i64 e4, .int .i64 e5, .int .i64 e6, .int .i64 e7, .int .i64 e8, .int .i64 0] 49)).alloc (.cells #[.int .u8 2, .int .u8 3, .int .u8 4, .int .u8 5, .int .u8 6, .int .u8 7, .int .u8 8, .int .u8 9, .int .u8 10, .int .u8 11] 50)).heap[w3.heap.size]? = some (.cells (regC [e0, e1, e2, e3, e4, e5, e6, e7, e8, 0]) 49) from new_at20 w3 _ _)
    have OX := Lib.hid (show ((w3.alloc (.cells #[.int .i64 e0, .int .i64 e1, .int .i64 e2, .int .i64 e3, .int .i64 e4, .int .i64 e5, .int .i64 e6, .int .i64 e7, .int .i64 e8, .int .i64 0] 49)).alloc (.cells #[.int .u8 2, .int .u8 3, .int .u8 4, .int .u8 5, .int .u8 6, .int .u8 7, .int .u8 8, .int .u8 9, .int .u8 10, .int .u8 11] 50)).heap[w3.heap.size + 1]? = some (.cells #[.int .u8 2, .int .u8 3, .int .u8 4, .int .u8 5, .int .u8 6, .int .u8 7, .int .u8 8, .int .u8 9, .int .u8 10, .int .u8 11] 50) from new_at2 w3 _ _)
    have hgX := Lib.hid (show w3.heap.size + 1 < ((w3.alloc (.cells #[.int .i64 e0, .int .i64 e1, .int .i64 e2, .int .i64 e3, .int .i64 e4, .int .i64 e5, .int .i64 e6, .int .i64 e7, .int .i64 e8, .int .i64 0] 49)).alloc (.cells #[.int .u8 2, .int .u8 3, .int .u8 4, .int .u8 5, .int .u8 6, .int .u8 7, .int .u8 8, .int .u8 9, .int .u8 10, .int .u8 11] 50)).heap.size by simp)
    generalize ((w3.alloc (.cells #[.int .i64 e0, .int .i64 e1, .int .i64 e2, .int .i64 e3, .int .i64 e4, .int .i64 e5, .int .i64 e6, .int .i64 e7, .int .i64 e8, .int .i64 0] 49)).alloc (.cells #[.int .u8 2, .int .u8 3, .int .u8 4, .int .u8 5, .int .u8 6, .int .u8 7, .int .u8 8, .int .u8 9, .int .u8 10, .int .u8 11] 50)) = X at *
    go_wp2_with fail
    have B00 := Lib.hid (Below.refl X.heap.size X)
    go_loopw [17] (fun i wr => ∃ k : Nat, k ≤ 10 ∧ i = .int .i64 k ∧ Below X.heap.size X wr) (fun i _ => 10 - (intOf i).toNat)
    case atStart => exact ⟨0, Nat.zero_le _, rfl, B00.out⟩
    case round =>
      clear B00
      obtain ⟨k, hk, rfl, hb⟩ := hrel
      have BZ0 := Lib.hid hb
      clear hb
      by_cases hlt : k < 10
      · have hlt' : (k : Int) < 10 := by omega
        obtain ⟨v, hv⟩ : ∃ v, wantK a b k s = v := ⟨_, rfl⟩
        have hwt := HWT2.out k hlt
        have hq := HQ.out k hlt
        have hr := HR.out k hlt
        rw [hq] at hr
        rw [hv] at hwt hr
        simp only [runV, regC, List.map_cons, List.map_nil] at hr
        have wcX := Lib.hid (show X.cell? ⟨w3.heap.size, k, none⟩ = some (.int .i64 v) by have h := ints_at GX.out hwt; rw [Nat.zero_add] at h; exact h)
        have oc : wr.cell? ⟨w3.heap.size + 1, k, none⟩ = some (.int .u8 ((k : Int) + 2)) := (BZ0.out.cell (p := ⟨w3.heap.size + 1, k, none⟩) hgX.out).trans (ops_at OX.out hlt)
        have hgw : w3.heap.size + 1 < wr.heap.size := Nat.lt_of_lt_of_le hgX.out BZ0.out.size
        clear hwt hq hv
        by_cases h78 : k = 7 ∨ k = 8
        · have hins : insK k s = ⟨k + 2, 2, 0, 0, s⟩ := if_pos h78
          rw [hins] at hr
          have HRR := Lib.hid hr
          clear hr hins
          have hko : (((k : Int) + 2 == 9) = true ∧ ((k : Int) + 2 == 10) = false) ∨ (((k : Int) + 2 == 9) = false ∧ ((k : Int) + 2 == 10) = true) := by
            rcases h78 with rfl | rfl
            · exact .inl ⟨rfl, rfl⟩
            · exact .inr ⟨rfl, rfl⟩
          obtain ⟨o, ho⟩ : ∃ o : Int, (k : Int) + 2 = o := ⟨_, rfl⟩
          rw [ho] at oc hko HRR
          have HO := Lib.hid ho
          clear ho h78
          have BW := Lib.hid (new_below wr (.cells #[.int .u8 o, .int .u8 2, .int .u8 0, .int .u8 0, .int .i64 s] 45))
          rcases hko with ⟨k9, k10⟩ | ⟨k9, k10⟩
          all_goals
            go_upto_region 18 with fail
            have BZ := Lib.hid (bstep BZ0.out BZ0.out.size BW.out)
            have QW := Lib.hid (inB_cell (x := ⟨o, 2, 0, 0, s⟩) (new_at1 wr (.cells #[.int .u8 o, .int .u8 2, .int .u8 0, .int .u8 0, .int .i64 s] 45)))
            clear BW oc BZ0 k9 k10
            generalize wr.alloc (.cells #[.int .u8 o, .int .u8 2, .int .u8 0, .int .u8 0, .int .i64 s] 45) = Z at *
            obtain ⟨c0, c1, c2, c3, c4⟩ := QW.out
            have QZ := Lib.hid (new_at1 Z (.cells #[.int .u8 o, .int .u8 2, .int .u8 0, .int .u8 0, .int .i64 s] 45))
            have BZ1 := Lib.hid (new_below Z (.cells #[.int .u8 o, .int .u8 2, .int .u8 0, .int .u8 0, .int .i64 s] 45))
            go_upto_region 19 with (go_at_call 11; refine (HRR.out (some ⟨_, 0, none⟩) _ (ins_at (x := ⟨o, 2, 0, 0, s⟩) QZ.out)).mono ?_; rintro e w5 ⟨rfl, hb⟩; have B5 := Lib.hid (bstep BZ1.out BZ1.out.size hb); clear hb)
            have HRc := Lib.hid (RB_cells (new_at1 w5 (RB [a, b, v, 0, 0, 0, 0, 0])))
            have BT := Lib.hid ((BX.out.trans (BZ.out.mono BX.out.size)).trans (B5.out.mono (Nat.le_trans BX.out.size BZ.out.size)))
            have BT2 := Lib.hid (BT.out.alloc BT.out.size (RB [a, b, v, 0, 0, 0, 0, 0]))
            have BXT := Lib.hid ((BZ.out.trans (B5.out.mono BZ.out.size)).alloc (Nat.le_trans BZ.out.size B5.out.size) (RB [a, b, v, 0, 0, 0, 0, 0]))
            have wc2 := (BXT.out.cell (p := ⟨w3.heap.size, k, none⟩) (show w3.heap.size < X.heap.size by have := hgX.out; omega)).trans wcX.out
            obtain ⟨r0, r1, r2, -, -, -, -, -⟩ := HRc.out
            change Code.wp _ _ _ _ (w5.alloc (RB [a, b, v, 0, 0, 0, 0, 0]))
            generalize w5.alloc (RB [a, b, v, 0, 0, 0, 0, 0]) = T at *
            have z0 : ∀ z : Grow T, z.w.cell? ⟨w5.heap.size, 0, none⟩ = some (.int .i64 a) := fun z => z.cell r0
            have z1 : ∀ z : Grow T, z.w.cell? ⟨w5.heap.size, 1, none⟩ = some (.int .i64 b) := fun z => z.cell r1
            have z2 : ∀ z : Grow T, z.w.cell? ⟨w5.heap.size, 2, none⟩ = some (.int .i64 v) := fun z => z.cell r2
            have z3 : ∀ z : Grow T, z.w.cell? ⟨w3.heap.size, k, none⟩ = some (.int .i64 v) := fun z => z.cell wc2
            have ne1 := Grow.ne T
            refine wp_region_grow (by kernel_rfl) (by kernel_rfl) ?_
            repeat (first | go_big_quiet_skip | go_big_quiet_step (fail))
            refine wpQuiet_nil ?_
            rintro _ ⟨z, rfl⟩
            have B7 := Lib.hid (bstep BT2.out BT2.out.size z.below)
            have BX7 := Lib.hid (bstep BXT.out (BXT.out.size) z.below)
            clear z0 z1 z2 z3 ne1 r0 r1 r2 wc2
            generalize z.w = T7 at *
            clear z
            go_wp2_with fail
            go_roundw
            case rel => exact ⟨k + 1, by omega, by go_num, BX7.out⟩
            case measure => simp [intOf]; omega
        · have hins : insK k s = ⟨k + 2, 2, 0, 1, 0⟩ := if_neg h78
          rw [hins] at hr
          have HRR := Lib.hid hr
          clear hr hins
          have k9 : ((k : Int) + 2 == 9) = false := by simp; omega
          have k10 : ((k : Int) + 2 == 10) = false := by simp; omega
          obtain ⟨o, ho⟩ : ∃ o : Int, (k : Int) + 2 = o := ⟨_, rfl⟩
          rw [ho] at oc k9 k10 HRR
          have HO := Lib.hid ho
          clear ho h78
          have BW := Lib.hid (new_below wr (.cells #[.int .u8 o, .int .u8 2, .int .u8 0, .int .u8 1, .int .i64 0] 45))
          go_upto_region 18 with fail
          have BZ := Lib.hid (bstep BZ0.out BZ0.out.size BW.out)
          have QW := Lib.hid (inB_cell (x := ⟨o, 2, 0, 1, 0⟩) (new_at1 wr (.cells #[.int .u8 o, .int .u8 2, .int .u8 0, .int .u8 1, .int .i64 0] 45)))
          clear BW oc BZ0 k9 k10
          generalize wr.alloc (.cells #[.int .u8 o, .int .u8 2, .int .u8 0, .int .u8 1, .int .i64 0] 45) = Z at *
          obtain ⟨c0, c1, c2, c3, c4⟩ := QW.out
          have QZ := Lib.hid (new_at1 Z (.cells #[.int .u8 o, .int .u8 2, .int .u8 0, .int .u8 1, .int .i64 0] 45))
          have BZ1 := Lib.hid (new_below Z (.cells #[.int .u8 o, .int .u8 2, .int .u8 0, .int .u8 1, .int .i64 0] 45))
          go_upto_region 19 with (go_at_call 11; refine (HRR.out (some ⟨_, 0, none⟩) _ (ins_at (x := ⟨o, 2, 0, 1, 0⟩) QZ.out)).mono ?_; rintro e w5 ⟨rfl, hb⟩; have B5 := Lib.hid (bstep BZ1.out BZ1.out.size hb); clear hb)
          have HRc := Lib.hid (RB_cells (new_at1 w5 (RB [a, b, v, 0, 0, 0, 0, 0])))
          have BT := Lib.hid ((BX.out.trans (BZ.out.mono BX.out.size)).trans (B5.out.mono (Nat.le_trans BX.out.size BZ.out.size)))
          have BT2 := Lib.hid (BT.out.alloc BT.out.size (RB [a, b, v, 0, 0, 0, 0, 0]))
          have BXT := Lib.hid ((BZ.out.trans (B5.out.mono BZ.out.size)).alloc (Nat.le_trans BZ.out.size B5.out.size) (RB [a, b, v, 0, 0, 0, 0, 0]))
          have wc2 := (BXT.out.cell (p := ⟨w3.heap.size, k, none⟩) (show w3.heap.size < X.heap.size by have := hgX.out; omega)).trans wcX.out
          obtain ⟨r0, r1, r2, -, -, -, -, -⟩ := HRc.out
          change Code.wp _ _ _ _ (w5.alloc (RB [a, b, v, 0, 0, 0, 0, 0]))
          generalize w5.alloc (RB [a, b, v, 0, 0, 0, 0, 0]) = T at *
          have z0 : ∀ z : Grow T, z.w.cell? ⟨w5.heap.size, 0, none⟩ = some (.int .i64 a) := fun z => z.cell r0
          have z1 : ∀ z : Grow T, z.w.cell? ⟨w5.heap.size, 1, none⟩ = some (.int .i64 b) := fun z => z.cell r1
          have z2 : ∀ z : Grow T, z.w.cell? ⟨w5.heap.size, 2, none⟩ = some (.int .i64 v) := fun z => z.cell r2
          have z3 : ∀ z : Grow T, z.w.cell? ⟨w3.heap.size, k, none⟩ = some (.int .i64 v) := fun z => z.cell wc2
          have ne1 := Grow.ne T
          refine wp_region_grow (by kernel_rfl) (by kernel_rfl) ?_
          repeat (first | go_big_quiet_skip | go_big_quiet_step (fail))
          refine wpQuiet_nil ?_
          rintro _ ⟨z, rfl⟩
          have B7 := Lib.hid (bstep BT2.out BT2.out.size z.below)
          have BX7 := Lib.hid (bstep BXT.out (BXT.out.size) z.below)
          clear z0 z1 z2 z3 ne1 r0 r1 r2 wc2
          generalize z.w = T7 at *
          clear z
          go_wp2_with fail
          go_roundw
          case rel => exact ⟨k + 1, by omega, by go_num, BX7.out⟩
          case measure => simp [intOf]; omega
      · have hlt' : ¬ (k : Int) < 10 := by omega
        have BE := Lib.hid (BX.out.trans (BZ0.out.mono BX.out.size))
        go_wp2_with fail
        go_ret
        exact ⟨rfl, BE.out⟩
end Go.Proofs.Ytehkcnmjkgelkaa
