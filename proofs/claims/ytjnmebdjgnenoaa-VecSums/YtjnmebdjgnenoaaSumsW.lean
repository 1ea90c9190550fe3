/-
  The walk of glazierlaw04.VecSums.
-/
import Derived.Test.YtjnmebdjgnenoaaTwo
namespace Go.Proofs.Ytjnmebdjgnenoaa
open Go.RowKit
attribute [local go_sem ↓] Go.wp_at_zero Go.wp_at_succ

theorem dist_add (p : Int) (A B : V) : dist p ⟨A.x + B.x, A.y + B.y, A.z + B.z, A.w + B.w, 0, 0, 0, 0⟩ = dist p A + dist p B := by
  unfold dist
  simp only
  repeat' split
  all_goals omega
theorem dist_mul (p m : Int) (A : V) : dist p ⟨m * A.x, m * A.y, m * A.z, m * A.w, 0, 0, 0, 0⟩ = m * dist p A := by
  unfold dist
  repeat' split
  all_goals simp only [Int.mul_add, Int.mul_sub, Int.mul_left_comm m 4, Int.mul_zero]
theorem mul_bd {m n : Int} (h : 0 ≤ m ∧ m ≤ 15) (k : -32768 ≤ n ∧ n ≤ 32768) : -491520 ≤ m * n ∧ m * n ≤ 491520 := by
  by_cases hn : 0 ≤ n
  · have h1 : m * n ≤ 15 * 32768 := Int.mul_le_mul h.2 k.2 hn (by decide)
    have h2 : 0 ≤ m * n := Int.mul_nonneg h.1 hn
    omega
  · have h1 : m * (-n) ≤ 15 * 32768 := Int.mul_le_mul h.2 (by omega) (by omega) (by decide)
    have h2 : 0 ≤ m * (-n) := Int.mul_nonneg h.1 (by omega)
    rw [Int.mul_neg] at h1 h2
    omega

set_option maxHeartbeats 8000000 in
theorem sums_walk (a b : V) (n : Int) (w : World) (n0 : 0 ≤ n) (n1 : n ≤ 255) :
    Calls Try.prog 8 #[.agg #[.int .i64 a.x, .int .i64 a.y, .int .i64 a.z, .int .i64 a.w, .int .i64 a.a, .int .i64 a.b, .int .i64 a.c, .int .i64 a.d, .int .i64 b.x, .int .i64 b.y, .int .i64 b.z, .int .i64 b.w, .int .i64 b.a, .int .i64 b.b, .int .i64 b.c, .int .i64 b.d], .int .u8 n] w fun e w' => e = .returned (.bool true) ∧ Below w.heap.size w w' := by
  have HS := Lib.hid shown_any
  have HFa := Lib.hid (fit_any a)
  have HFb := Lib.hid (fit_any b)
  obtain ⟨A, hA⟩ : ∃ f, fitV a = f := ⟨_, rfl⟩
  obtain ⟨B, hB⟩ : ∃ f, fitV b = f := ⟨_, rfl⟩
  rw [hA] at HFa
  rw [hB] at HFb
  have okA := Lib.hid (show A.ok by rw [← hA]; exact fitV_ok a)
  have okB := Lib.hid (show B.ok by rw [← hB]; exact fitV_ok b)
  clear hA hB
  obtain ⟨m, hm⟩ : ∃ m, n.tmod 16 = m := ⟨_, rfl⟩
  have m0 : 0 ≤ m ∧ m ≤ 15 := by rw [← hm, Int.tmod_eq_emod_of_nonneg n0]; omega
  have wn : IntKind.i64.wrap n = n := by rw [IntKind.wrap_i64]; omega
  go_enter Try.func8, Try.ntmps8
  go_wp2_with fail
  with_reducible refine (HS.out _).mono ?_
  rintro e w1 ⟨rfl, hb⟩
  have k1 := bstep ((Below.refl w.heap.size w).alloc (Nat.le_refl _) (Obj.cells #[.int .i64 a.x, .int .i64 a.y, .int .i64 a.z, .int .i64 a.w, .int .i64 a.a, .int .i64 a.b, .int .i64 a.c, .int .i64 a.d, .int .i64 b.x, .int .i64 b.y, .int .i64 b.z, .int .i64 b.w, .int .i64 b.a, .int .i64 b.b, .int .i64 b.c, .int .i64 b.d] 25)) (by simp) hb
  have L1 := Lib.hid (show w1.heap[w.heap.size]? = some (v2B a b) from v2B_grow (new_at rfl) hb)
  have K1 := Lib.hid k1
  clear hb k1
  obtain ⟨c0, c1, c2, c3, c4, c5, c6, c7, c8, c9, c10, c11, c12, c13, c14, c15⟩ := v2B_cell L1.out
  go_wp2_with fail
  with_reducible refine (HFa.out _).mono ?_
  rintro e w2 ⟨rfl, hb⟩
  have L2 := Lib.hid (v2B_grow L1.out hb)
  have l2 := v2B_lt L2.out
  have K2 := Lib.hid (bstep K1.out K1.out.size hb)
  clear hb L1 c0 c1 c2 c3 c4 c5 c6 c7 c8 c9 c10 c11 c12 c13 c14 c15
  obtain ⟨c0, c1, c2, c3, c4, c5, c6, c7, c8, c9, c10, c11, c12, c13, c14, c15⟩ := v2B_cell L2.out
  go_wp2_with fail
  with_reducible refine (HFb.out _).mono ?_
  rintro e w3 ⟨rfl, hb⟩
  have k3 := K2.out.alloc K2.out.size (vB 24 A)
  have A3 := Lib.hid (show w3.heap[w2.heap.size]? = some (vB 24 A) from vB_grow (new_at rfl) hb)
  have K3 := Lib.hid (bstep k3 k3.size hb)
  have l3 := vB_lt A3.out
  clear hb L2 k3 c0 c1 c2 c3 c4 c5 c6 c7 c8 c9 c10 c11 c12 c13 c14 c15
  obtain ⟨ax, ay, az, aw, aa, ab, ac, ad⟩ := okA.out
  obtain ⟨bx, by', bz, bw, ba, bb, bc, bd⟩ := okB.out
  obtain ⟨sx, hsx⟩ : ∃ s, A.x + B.x = s := ⟨_, rfl⟩
  obtain ⟨sy, hsy⟩ : ∃ s, A.y + B.y = s := ⟨_, rfl⟩
  obtain ⟨sz, hsz⟩ : ∃ s, A.z + B.z = s := ⟨_, rfl⟩
  obtain ⟨sw, hsw⟩ : ∃ s, A.w + B.w = s := ⟨_, rfl⟩
  obtain ⟨mx, hmx⟩ : ∃ s, m * A.x = s := ⟨_, rfl⟩
  obtain ⟨my, hmy⟩ : ∃ s, m * A.y = s := ⟨_, rfl⟩
  obtain ⟨mz, hmz⟩ : ∃ s, m * A.z = s := ⟨_, rfl⟩
  obtain ⟨mw, hmw⟩ : ∃ s, m * A.w = s := ⟨_, rfl⟩
  have qx := mul_bd m0 ax
  have qy := mul_bd m0 ay
  have qz := mul_bd m0 az
  have qw := mul_bd m0 (show -32768 ≤ A.w ∧ A.w ≤ 32768 by omega)
  have wsx : IntKind.i64.wrap (A.x + B.x) = sx := by rw [IntKind.wrap_i64]; omega
  have wsy : IntKind.i64.wrap (A.y + B.y) = sy := by rw [IntKind.wrap_i64]; omega
  have wsz : IntKind.i64.wrap (A.z + B.z) = sz := by rw [IntKind.wrap_i64]; omega
  have wsw : IntKind.i64.wrap (A.w + B.w) = sw := by rw [IntKind.wrap_i64]; omega
  have wmx : IntKind.i64.wrap (m * A.x) = mx := by rw [IntKind.wrap_i64]; omega
  have wmy : IntKind.i64.wrap (m * A.y) = my := by rw [IntKind.wrap_i64]; omega
  have wmz : IntKind.i64.wrap (m * A.z) = mz := by rw [IntKind.wrap_i64]; omega
  have wmw : IntKind.i64.wrap (m * A.w) = mw := by rw [IntKind.wrap_i64]; omega
  have smS := Lib.hid (show (⟨sx, sy, sz, sw, 0, 0, 0, 0⟩ : V).sm by constructor <;> simp only <;> omega)
  have smM := Lib.hid (show (⟨mx, my, mz, mw, 0, 0, 0, 0⟩ : V).sm by constructor <;> simp only <;> omega)
  have DS := Lib.hid (show ∀ p, dist p ⟨sx, sy, sz, sw, 0, 0, 0, 0⟩ = dist p A + dist p B by intro p; rw [← hsx, ← hsy, ← hsz, ← hsw]; exact dist_add p A B)
  have DM := Lib.hid (show ∀ p, dist p ⟨mx, my, mz, mw, 0, 0, 0, 0⟩ = m * dist p A by intro p; rw [← hmx, ← hmy, ← hmz, ← hmw]; exact dist_mul p m A)
  clear hsx hsy hsz hsw hmx hmy hmz hmw qx qy qz qw ax ay az aw aa ab ac ad bx by' bz bw ba bb bc bd
  obtain ⟨c0, c1, c2, c3, c4, c5, c6, c7⟩ := vB_cell A3.out
  go_wp2
  go_loopw [11] (fun i wr => ∃ j : Nat, j ≤ 5 ∧ i = .int .i64 j ∧ Below w.heap.size w wr ∧ wr.heap[w2.heap.size]? = some (vB 24 A) ∧ wr.heap[w3.heap.size]? = some (vB 24 B) ∧ wr.heap[w3.heap.size + 1]? = some (vB 24 ⟨sx, sy, sz, sw, 0, 0, 0, 0⟩) ∧ wr.heap[w3.heap.size + 1 + 1]? = some (vB 24 ⟨mx, my, mz, mw, 0, 0, 0, 0⟩))
    (fun i _ => 5 - (intOf i).toNat)
  case atStart =>
    have kz := K3.out.size
    exact ⟨0, by omega, rfl, (((K3.out.alloc kz _).alloc (by simp; omega) _).alloc (by simp; omega) _), vB_alloc _ (vB_alloc _ (vB_alloc _ A3.out)), vB_alloc _ (vB_alloc _ (new_at rfl)), vB_alloc _ (new_at (by simp)), new_at (by simp)⟩
  case round =>
    obtain ⟨j, hj, rfl, hbel, q1, q2, q3, q4⟩ := hrel
    have HBE := Lib.hid hbel
    have H1 := Lib.hid q1
    have H2 := Lib.hid q2
    have H3 := Lib.hid q3
    have H4 := Lib.hid q4
    clear hbel q1 q2 q3 q4 c0 c1 c2 c3 c4 c5 c6 c7
    by_cases hlt : j < 5
    · obtain ⟨dA, hdA⟩ : ∃ d, dist (j : Int) A = d := ⟨_, rfl⟩
      obtain ⟨dB, hdB⟩ : ∃ d, dist (j : Int) B = d := ⟨_, rfl⟩
      have hdS := DS.out (j : Int)
      have hdM := DM.out (j : Int)
      have bS := dist_bd (p := (j : Int)) smS.out
      have bM := dist_bd (p := (j : Int)) smM.out
      rw [hdS, hdA, hdB] at bS
      rw [hdM, hdA] at bM
      rw [hdA, hdB] at hdS
      rw [hdA] at hdM
      obtain ⟨dS, eS⟩ : ∃ d, dA + dB = d := ⟨_, rfl⟩
      obtain ⟨dM, eM⟩ : ∃ d, m * dA = d := ⟨_, rfl⟩
      have w1' : IntKind.i64.wrap (dA + dB) = dS := by rw [IntKind.wrap_i64]; omega
      have w2' : IntKind.i64.wrap (m * dA) = dM := by rw [IntKind.wrap_i64]; omega
      have CA := Lib.hid (dist8 (j : Int) A.x A.y A.z A.w A.a A.b A.c A.d dA okA.out.sm hdA)
      have CB := Lib.hid (dist8 (j : Int) B.x B.y B.z B.w B.a B.b B.c B.d dB okB.out.sm hdB)
      have CS := Lib.hid (dist8 (j : Int) sx sy sz sw 0 0 0 0 dS smS.out (by rw [hdS, eS]))
      have CM := Lib.hid (dist8 (j : Int) mx my mz mw 0 0 0 0 dM smM.out (by rw [hdM, eM]))
      clear hdA hdB hdS hdM bS bM eS eM
      have g1 := fun x : Grow wr => vB_cell (vB_grow H1.out x.below)
      have g2 := fun x : Grow wr => vB_cell (vB_grow H2.out x.below)
      have g3 := fun x : Grow wr => vB_cell (vB_grow H3.out x.below)
      have g4 := fun x : Grow wr => vB_cell (vB_grow H4.out x.below)
      have p1 : (j : Int) < 5 := by omega
      go_wp2
      have ne1 := Grow.ne wr
      refine wp_region_grow (by kernel_rfl) (by kernel_rfl) ?_
      repeat (go_big_quiet_step ((go_at_call 15; with_reducible first | exact Grow.calls (CA.out _) | exact Grow.calls (CB.out _) | exact Grow.calls (CS.out _) | exact Grow.calls (CM.out _))))
      refine wpQuiet_nil ?_
      rintro _ ⟨x, rfl⟩
      have BX := Lib.hid (bstep HBE.out HBE.out.size x.below)
      have G1 := Lib.hid (vB_grow H1.out x.below)
      have G2 := Lib.hid (vB_grow H2.out x.below)
      have G3 := Lib.hid (vB_grow H3.out x.below)
      have G4 := Lib.hid (vB_grow H4.out x.below)
      generalize x.w = Y at *
      clear g1 g2 g3 g4 ne1 x
      go_wp2
      go_roundw
      case rel => exact ⟨j + 1, by omega, by go_num, BX.out, G1.out, G2.out, G3.out, G4.out⟩
      case measure => simp [intOf]; omega
    · obtain rfl : j = 5 := by omega
      go_wp2_with fail
      with_reducible refine (dist8 0 0 0 3 4 0 0 0 0 7 (by constructor <;> decide) rfl _).mono ?_
      rintro e t1 ⟨rfl, hb⟩
      have T1 := Lib.hid (bstep HBE.out HBE.out.size hb)
      clear hb
      go_wp2_with fail
      with_reducible refine (dist8 2 3 0 0 4 0 0 0 0 13 (by constructor <;> decide) rfl _).mono ?_
      rintro e t2 ⟨rfl, hb⟩
      have T2 := Lib.hid (bstep T1.out T1.out.size hb)
      clear hb
      go_wp2_with fail
      with_reducible refine (dist8 4 0 3 0 4 0 0 0 0 13 (by constructor <;> decide) rfl _).mono ?_
      rintro e t3 ⟨rfl, hb⟩
      have T3 := Lib.hid (bstep T2.out T2.out.size hb)
      clear hb
      go_wp2
      go_ret
      exact ⟨rfl, T3.out⟩
end Go.Proofs.Ytjnmebdjgnenoaa
