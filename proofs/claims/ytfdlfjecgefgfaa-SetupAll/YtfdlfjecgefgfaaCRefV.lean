/-
  The contract of the reference's Point.
-/
import Derived.Test.YtfdlfjecgefgfaaCPix
import Derived.Test.YtfdlfjecgefgfaaCPb
namespace Go.Proofs.Ytfdlfjecgefgfaa.C
open Go.RowKit
attribute [local go_sem ↓] Go.wp_at_zero Go.wp_at_succ

theorem mul_bd {n m : Int} (hn0 : -1048576 ≤ n) (hn1 : n ≤ 1048576) (hm0 : 0 ≤ m) (hm1 : m ≤ 32768) : -34359738368 ≤ n * m ∧ n * m ≤ 34359738368 := by
  have hN : n.natAbs ≤ 1048576 := by omega
  have hM : m.natAbs ≤ 32768 := by omega
  have h := Nat.mul_le_mul hN hM
  have e : (n * m).natAbs = n.natAbs * m.natAbs := Int.natAbs_mul n m
  omega

set_option maxHeartbeats 1000000 in
theorem rpoint_no (v : V) (m k : Int) (w : World) (h : okP m k v = false) :
    Calls Try.prog 35 #[.int .i64 m, .int .i64 k, .agg #[.int .i64 v.x, .int .i64 v.y, .int .i64 v.z, .int .i64 v.w, .int .i64 v.a, .int .i64 v.b, .int .i64 v.c, .int .i64 v.d]] w fun e w' => e = .returned (.tuple #[.agg #[.int .i64 pz.x, .int .i64 pz.y, .int .i64 pz.z, .int .i64 pz.a, .int .i64 pz.b, .int .i64 pz.c, .int .i64 pz.d], .bool false]) ∧ Below w.heap.size w w' := by
  have hb : ∀ o o', Below w.heap.size w ((w.alloc o).alloc o') := fun o o' => ((Below.refl _ _).alloc (Nat.le_refl _) o).alloc (by simp) o'
  have HB := Lib.hid hb
  clear hb
  have hc : m < 1 ∨ (¬ m < 1 ∧ 64 < m) ∨ (¬ m < 1 ∧ ¬ 64 < m ∧ k < 1) ∨ (¬ m < 1 ∧ ¬ 64 < m ∧ ¬ k < 1 ∧ 64 < k) ∨ (¬ m < 1 ∧ ¬ 64 < m ∧ ¬ k < 1 ∧ ¬ 64 < k ∧ v.w < 1) := by
    by_cases h1 : m < 1
    · exact .inl h1
    by_cases h2 : 64 < m
    · exact .inr (.inl ⟨h1, h2⟩)
    by_cases h3 : k < 1
    · exact .inr (.inr (.inl ⟨h1, h2, h3⟩))
    by_cases h4 : 64 < k
    · exact .inr (.inr (.inr (.inl ⟨h1, h2, h3, h4⟩)))
    refine .inr (.inr (.inr (.inr ⟨h1, h2, h3, h4, ?_⟩)))
    unfold okP scr sideB at h
    have e1 : 1 ≤ m := by omega
    have e2 : m ≤ 64 := by omega
    have e3 : 1 ≤ k := by omega
    have e4 : k ≤ 64 := by omega
    simp [e1, e2, e3, e4] at h
    omega
  clear h
  rcases hc with h1 | ⟨h1, h2⟩ | ⟨h1, h2, h3⟩ | ⟨h1, h2, h3, h4⟩ | ⟨h1, h2, h3, h4, h5⟩
  all_goals
    go_enter Try.func35, Try.ntmps35
    go_wp2
    refine bodyPost_ret (v := .tuple #[.agg #[.int .i64 pz.x, .int .i64 pz.y, .int .i64 pz.z, .int .i64 pz.a, .int .i64 pz.b, .int .i64 pz.c, .int .i64 pz.d], .bool false]) (by simp [results, Try.results35, go_sem, pz]) rfl ⟨rfl, ?_⟩
    exact HB.out _ _

set_option maxRecDepth 100000 in
set_option maxHeartbeats 1000000 in
theorem rpoint_yes (v : V) (m k : Int) (w : World) (hv : v.sm) (hm0 : 1 ≤ m) (hm1 : m ≤ 64) (hk0 : 1 ≤ k) (hk1 : k ≤ 64) (h1 : 1 ≤ v.w) :
    Calls Try.prog 35 #[.int .i64 m, .int .i64 k, .agg #[.int .i64 v.x, .int .i64 v.y, .int .i64 v.z, .int .i64 v.w, .int .i64 v.a, .int .i64 v.b, .int .i64 v.c, .int .i64 v.d]] w fun e w' => e = .returned (.tuple #[.agg #[.int .i64 (pt m k v).x, .int .i64 (pt m k v).y, .int .i64 (pt m k v).z, .int .i64 (pt m k v).a, .int .i64 (pt m k v).b, .int .i64 (pt m k v).c, .int .i64 (pt m k v).d], .bool true]) ∧ Below w.heap.size w w' := by
  obtain ⟨vx, vy, vz, vw, -, -, -, -⟩ := hv
  obtain ⟨a1, a2⟩ := mul_bd vx.1 vx.2 (show 0 ≤ 8 * m by omega) (by omega)
  obtain ⟨b1, b2⟩ := mul_bd vy.1 vy.2 (show 0 ≤ 8 * k by omega) (by omega)
  obtain ⟨c1, c2⟩ := mul_bd vz.1 vz.2 (show (0 : Int) ≤ 32768 by omega) (by omega)
  obtain ⟨-, p2, p3⟩ := along_bd (n := v.x) (m := 8 * m) (c := v.w) (by omega) (by omega) (by omega) (by omega) (by omega)
  obtain ⟨-, p5, p6⟩ := along_bd (n := v.y) (m := 8 * k) (c := v.w) (by omega) (by omega) (by omega) (by omega) (by omega)
  obtain ⟨-, p8, p9⟩ := along_bd (n := v.z) (m := 32768) (c := v.w) (by omega) (by omega) (by omega) (by omega) (by omega)
  have DX := Lib.hid (down_any (v.x * (8 * m)) v.w _ (by omega) (by omega) (by omega) (by omega) rfl)
  have DY := Lib.hid (down_any (v.y * (8 * k)) v.w _ (by omega) (by omega) (by omega) (by omega) rfl)
  have DZ := Lib.hid (down_any (v.z * 32768) v.w _ (by omega) (by omega) (by omega) (by omega) rfl)
  have ex : v.x * 8 * m = v.x * (8 * m) := Int.mul_assoc _ _ _
  have ey : v.y * 8 * k = v.y * (8 * k) := Int.mul_assoc _ _ _
  have hpt : pt m k v = ⟨v.x * (8 * m) / v.w + 8 * m, v.y * (8 * k) / v.w + 8 * k, v.z * 32768 / v.w + 32768, v.a, v.b, v.c, v.d⟩ := rfl
  rw [hpt]
  unfold along at p2 p3 p5 p6 p8 p9
  generalize v.x * (8 * m) / v.w = X at *
  generalize v.y * (8 * k) / v.w = Y at *
  generalize v.z * 32768 / v.w = Z at *
  have e1 : IntKind.i64.wrap (v.x * 8) = v.x * 8 := by rw [IntKind.wrap_i64]; omega
  have e2 : IntKind.i64.wrap (v.y * 8) = v.y * 8 := by rw [IntKind.wrap_i64]; omega
  obtain ⟨S, hS⟩ : ∃ S, v.x * (8 * m) = S := ⟨_, rfl⟩
  obtain ⟨T, hT⟩ : ∃ T, v.y * (8 * k) = T := ⟨_, rfl⟩
  obtain ⟨U, hU⟩ : ∃ U, v.z * 32768 = U := ⟨_, rfl⟩
  rw [hS] at DX ex a1 a2
  rw [hT] at DY ey b1 b2
  rw [hU] at DZ c1 c2
  have e3 : IntKind.i64.wrap (v.x * 8 * m) = S := by rw [ex, IntKind.wrap_i64]; omega
  have e4 : IntKind.i64.wrap (v.y * 8 * k) = T := by rw [ey, IntKind.wrap_i64]; omega
  have e5 : IntKind.i64.wrap (v.z * 32768) = U := by rw [hU, IntKind.wrap_i64]; omega
  have e6 : IntKind.i64.wrap (8 * m) = 8 * m := by rw [IntKind.wrap_i64]; omega
  have e7 : IntKind.i64.wrap (8 * k) = 8 * k := by rw [IntKind.wrap_i64]; omega
  have e8 : IntKind.i64.wrap (X + 8 * m) = X + 8 * m := by rw [IntKind.wrap_i64]; omega
  have e9 : IntKind.i64.wrap (Y + 8 * k) = Y + 8 * k := by rw [IntKind.wrap_i64]; omega
  have e10 : IntKind.i64.wrap (Z + 32768) = Z + 32768 := by rw [IntKind.wrap_i64]; omega
  have g1 : ¬ m < 1 := by omega
  have g2 : ¬ 64 < m := by omega
  have g3 : ¬ k < 1 := by omega
  have g4 : ¬ 64 < k := by omega
  have g5 : ¬ v.w < 1 := by omega
  clear hS hT hU ex ey a1 a2 b1 b2 c1 c2 p2 p3 p5 p6 p8 p9 vx vy vz hpt
  go_enter Try.func35, Try.ntmps35
  go_wp2_with fail
  with_reducible refine (DX.out _).mono ?_
  rintro e w1 ⟨rfl, hb⟩
  have K1 := Lib.hid (bstep (((Below.refl w.heap.size w).alloc (Nat.le_refl _) (Obj.cells #[.int .i64 v.x, .int .i64 v.y, .int .i64 v.z, .int .i64 v.w, .int .i64 v.a, .int .i64 v.b, .int .i64 v.c, .int .i64 v.d] 25)).alloc (by simp) (Obj.cells #[.int .i64 0, .int .i64 0, .int .i64 0, .int .i64 0, .int .i64 0, .int .i64 0, .int .i64 0] 37)) (by simp; omega) hb)
  have A1 := Lib.hid (show w1.heap[w.heap.size]? = some (vB 25 v) from vB_grow (new_two _ _).1 hb)
  have R1 := Lib.hid (show w1.heap[w.heap.size + 1]? = some (pB 37 pz) from pB_grow (new_two _ _).2 hb)
  clear hb
  obtain ⟨c0, c1, c2, c3, c4, c5, c6, c7⟩ := vB_cell A1.out
  go_wp2_with fail
  with_reducible refine (DY.out _).mono ?_
  rintro e w2 ⟨rfl, hb⟩
  have K2 := Lib.hid (bstep K1.out K1.out.size hb)
  have A2 := Lib.hid (vB_grow A1.out hb)
  have R2 := Lib.hid (pB_grow R1.out hb)
  clear c0 c1 c2 c3 c4 c5 c6 c7 A1 R1
  clear hb
  obtain ⟨c0, c1, c2, c3, c4, c5, c6, c7⟩ := vB_cell A2.out
  go_wp2_with fail
  with_reducible refine (DZ.out _).mono ?_
  rintro e w3 ⟨rfl, hb⟩
  have K3 := Lib.hid (bstep K2.out K2.out.size hb)
  have A3 := Lib.hid (vB_grow A2.out hb)
  have R3 := Lib.hid (pB_grow R2.out hb)
  clear c0 c1 c2 c3 c4 c5 c6 c7 A2 R2
  clear hb
  obtain ⟨c0, c1, c2, c3, c4, c5, c6, c7⟩ := vB_cell A3.out
  obtain ⟨q0, q1, q2, q3, q4, q5, q6, f0, f1, f2, f3, f4, f5, f6⟩ := zP_cell R3.out
  have l3 := pB_lt R3.out
  go_wp2
  refine bodyPost_ret (v := .tuple #[.agg #[.int .i64 (X + 8 * m), .int .i64 (Y + 8 * k), .int .i64 (Z + 32768), .int .i64 v.a, .int .i64 v.b, .int .i64 v.c, .int .i64 v.d], .bool true]) (by simp [results, Try.results35, go_sem, *]) rfl ⟨rfl, ?_⟩
  exact ((((((K3.out.setCell (by simp) _).setCell (by simp) _).setCell (by simp) _).setCell (by simp) _).setCell (by simp) _).setCell (by simp) _).setCell (by simp) _

theorem rpoint_any (v : V) (m k : Int) (w : World) (hv : v.sm) :
    Calls Try.prog 35 #[.int .i64 m, .int .i64 k, .agg #[.int .i64 v.x, .int .i64 v.y, .int .i64 v.z, .int .i64 v.w, .int .i64 v.a, .int .i64 v.b, .int .i64 v.c, .int .i64 v.d]] w fun e w' => e = .returned (.tuple #[.agg #[.int .i64 (ptO m k v).x, .int .i64 (ptO m k v).y, .int .i64 (ptO m k v).z, .int .i64 (ptO m k v).a, .int .i64 (ptO m k v).b, .int .i64 (ptO m k v).c, .int .i64 (ptO m k v).d], .bool (okP m k v)]) ∧ Below w.heap.size w w' := by
  cases h : okP m k v
  · have e : ptO m k v = pz := by unfold ptO; rw [if_neg (by simp [h])]
    rw [e]
    exact rpoint_no v m k w h
  · have e : ptO m k v = pt m k v := by unfold ptO; rw [if_pos h]
    rw [e]
    unfold okP scr sideB at h
    simp only [Bool.and_eq_true, decide_eq_true_eq] at h
    exact rpoint_yes v m k w hv h.1.1.1 h.1.1.2 h.1.2.1 h.1.2.2 h.2
end Go.Proofs.Ytfdlfjecgefgfaa.C
