/-
  The walk of glazierlaw12.CodeJumps.
-/
import Derived.Test.YticfllfelbfceaaAllW
namespace Go.Proofs.Yticfllfelbfceaa
open Go.RowKit
attribute [local go_sem ↓] Go.wp_at_zero Go.wp_at_succ

theorem jump_one (i k m : Int) (hi' : 0 ≤ i) : oneB ⟨12, 0, 3, 0, m⟩ i k = decide (i < k ∧ 0 ≤ m ∧ i + 1 + m ≤ k) := by
  unfold oneB
  rw [decide_eq_decide]
  simp [us, ms, lo, hi]
  omega
set_option maxRecDepth 100000 in
set_option maxHeartbeats 4000000 in
theorem jumps_walk (i' k' m : Int) (bi : 0 ≤ i' ∧ i' ≤ 255) (bk : 0 ≤ k' ∧ k' ≤ 255) (bm : -128 ≤ m ∧ m ≤ 127) (w : World) :
    Calls Try.prog 7 #[.int .u8 i', .int .u8 k', .int .i8 m] w fun e w' => e = .returned (.bool true) ∧ Below w.heap.size w w' := by
  have hi0 := Int.tmod_eq_emod_of_nonneg (b := 41) bi.1
  have hk0 := Int.tmod_eq_emod_of_nonneg (b := 41) bk.1
  obtain ⟨i, hi1⟩ : ∃ i, i' % 41 = i := ⟨_, rfl⟩
  obtain ⟨k, hk1⟩ : ∃ k, k' % 41 = k := ⟨_, rfl⟩
  have ii : 0 ≤ i ∧ i ≤ 40 := by omega
  have kk : 0 ≤ k ∧ k ≤ 40 := by omega
  rw [hi1] at hi0
  rw [hk1] at hk0
  have wi' : IntKind.i64.wrap i' = i' := by rw [IntKind.wrap_i64]; omega
  have wk' : IntKind.i64.wrap k' = k' := by rw [IntKind.wrap_i64]; omega
  have wm : IntKind.i64.wrap m = m := by rw [IntKind.wrap_i64]; omega
  obtain ⟨j, hj⟩ : ∃ j, i + 1 = j := ⟨_, rfl⟩
  obtain ⟨s, hs⟩ : ∃ s, j + m = s := ⟨_, rfl⟩
  have wj : IntKind.i64.wrap (i + 1) = j := by rw [hj, IntKind.wrap_i64]; omega
  have ws : IntKind.i64.wrap (j + m) = s := by rw [hs, IntKind.wrap_i64]; omega
  have hok : (⟨12, 0, 3, 0, m⟩ : In).ok := by constructor <;> dsimp only <;> first | decide | omega
  have H1 := Lib.hid (fun w => one_any ⟨12, 0, 3, 0, m⟩ i k hok ⟨by omega, by omega⟩ ⟨by omega, by omega⟩ w)
  have H2 := Lib.hid (fun w => one_any ⟨12, 0, 3, 0, m⟩ (-1) k hok (by decide) ⟨by omega, by omega⟩ w)
  have H3 := Lib.hid (fun w => target_any ⟨12, 0, 3, 0, m⟩ i ⟨by omega, by omega⟩ (fun _ => ⟨by dsimp only; omega, by dsimp only; omega⟩) w)
  have e2 : oneB ⟨12, 0, 3, 0, m⟩ (-1) k = false := by unfold oneB; exact decide_eq_false (by omega)
  have e3 : tgt ⟨12, 0, 3, 0, m⟩ i = s := by unfold tgt; rw [if_pos rfl]; dsimp only; omega
  rw [jump_one i k m ii.1] at H1
  rw [e2] at H2
  rw [e3] at H3
  dsimp only at H1 H2 H3
  obtain ⟨r, hr⟩ : ∃ r, decide (i < k ∧ 0 ≤ m ∧ i + 1 + m ≤ k) = r := ⟨_, rfl⟩
  rw [hr] at H1
  have ways : ((decide (i < k) = false ∧ r = false) ∨ (decide (i < k) = true ∧ decide (0 ≤ m) = false ∧ r = false) ∨ (decide (i < k) = true ∧ decide (0 ≤ m) = true ∧ decide (s ≤ k) = false ∧ r = false)) ∨ (decide (i < k) = true ∧ decide (0 ≤ m) = true ∧ decide (s ≤ k) = true ∧ decide (i < s) = true ∧ r = true) := by
    subst hr
    simp only [decide_eq_true_eq, decide_eq_false_iff_not]
    omega
  clear e2 e3 hr hok hj hs hi1 hk1 bi bk bm ii kk
  replace ways := Lib.hid ways
  go_enter Try.func7, Try.ntmps7
  go_wp2_with fail
  with_reducible refine (shown_any w).mono ?_
  rintro e w1 ⟨rfl, hb⟩
  have B1 := Lib.hid (hb.alloc hb.size (inB ⟨12, 0, 3, 0, m⟩))
  have G1 := Lib.hid (new_at1 w1 (inB ⟨12, 0, 3, 0, m⟩))
  clear hb
  go_wp2_with fail
  generalize w1.alloc (.cells #[.int .u8 12, .int .u8 0, .int .u8 3, .int .u8 0, .int .i64 m] 24) = X at *
  generalize w1.heap.size = g at *
  with_reducible refine (H1.out _).mono ?_
  rintro e w2 ⟨rfl, hb⟩
  have B2 := Lib.hid (bstep B1.out B1.out.size hb)
  have G2 := Lib.hid ((hb.block _ (Array.getElem?_eq_some_iff.1 G1.out).1).trans G1.out)
  obtain ⟨c0, c1, c2, c3, c4⟩ := inB_cell G2.out
  clear hb B1 G1 H1
  obtain h | ⟨h, h', h2, h3, rfl⟩ := ways.out
  · clear ways
    obtain ⟨h, rfl⟩ | ⟨h, h', rfl⟩ | ⟨h, h', h2, rfl⟩ := h
    all_goals
      go_wp2_with fail
      with_reducible refine (H3.out _).mono ?_
      rintro e w3 ⟨rfl, hb⟩
      have B3 := Lib.hid (bstep B2.out B2.out.size hb)
      have G3 := Lib.hid ((hb.block _ (Array.getElem?_eq_some_iff.1 G2.out).1).trans G2.out)
      clear hb c0 c1 c2 c3 c4
      obtain ⟨c0, c1, c2, c3, c4⟩ := inB_cell G3.out
      clear B2 G2
      go_wp2_with fail
      with_reducible refine (H2.out _).mono ?_
      rintro e w4 ⟨rfl, hb⟩
      have B4 := Lib.hid (bstep B3.out B3.out.size hb)
      clear hb
      go_wp2_with fail
      go_ret
      exact ⟨rfl, B4.out⟩
  · clear ways
    go_wp2_with fail
    with_reducible refine (H3.out _).mono ?_
    rintro e w3 ⟨rfl, hb⟩
    have B3 := Lib.hid (bstep B2.out B2.out.size hb)
    have G3 := Lib.hid ((hb.block _ (Array.getElem?_eq_some_iff.1 G2.out).1).trans G2.out)
    clear hb c0 c1 c2 c3 c4
    obtain ⟨c0, c1, c2, c3, c4⟩ := inB_cell G3.out
    clear B2 G2
    go_wp2_with fail
    with_reducible refine (H3.out _).mono ?_
    rintro e w4 ⟨rfl, hb⟩
    have B4 := Lib.hid (bstep B3.out B3.out.size hb)
    have G4 := Lib.hid ((hb.block _ (Array.getElem?_eq_some_iff.1 G3.out).1).trans G3.out)
    clear hb c0 c1 c2 c3 c4
    obtain ⟨c0, c1, c2, c3, c4⟩ := inB_cell G4.out
    clear B3 G3
    go_wp2_with fail
    with_reducible refine (H3.out _).mono ?_
    rintro e w5 ⟨rfl, hb⟩
    have B5 := Lib.hid (bstep B4.out B4.out.size hb)
    have G5 := Lib.hid ((hb.block _ (Array.getElem?_eq_some_iff.1 G4.out).1).trans G4.out)
    clear hb c0 c1 c2 c3 c4
    obtain ⟨c0, c1, c2, c3, c4⟩ := inB_cell G5.out
    clear B4 G4
    go_wp2_with fail
    with_reducible refine (H2.out _).mono ?_
    rintro e w6 ⟨rfl, hb⟩
    have B6 := Lib.hid (bstep B5.out B5.out.size hb)
    clear hb
    go_wp2_with fail
    go_ret
    exact ⟨rfl, B6.out⟩
end Go.Proofs.Yticfllfelbfceaa
