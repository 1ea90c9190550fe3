/-
  The walk of glazierlaw04.VecSides.
-/
import Derived.Test.YtjnmebdjgnenoaaTwo
namespace Go.Proofs.Ytjnmebdjgnenoaa
open Go.RowKit
attribute [local go_sem ↓] Go.wp_at_zero Go.wp_at_succ

/-- A vertex within the greatest distance of the middle is inside of all planes. -/
theorem dist_in {p ix iy iz : Int} {A : V} (hx : -(4 * A.w) ≤ ix ∧ ix ≤ 4 * A.w) (hy : -(4 * A.w) ≤ iy ∧ iy ≤ 4 * A.w) (hz : -A.w ≤ iz ∧ iz ≤ A.w) : 0 ≤ dist p ⟨ix, iy, iz, A.w, A.a, A.b, A.c, A.d⟩ := by
  unfold dist
  simp only
  repeat' split
  all_goals omega

theorem between_none (x y z t a b c d p : Int) (h : (⟨x, y, z, t, a, b, c, d⟩ : V).sm) (w : World) :
    Calls Try.prog 11 #[.agg #[.int .i64 x, .int .i64 y, .int .i64 z, .int .i64 t, .int .i64 a, .int .i64 b, .int .i64 c, .int .i64 d], .agg #[.int .i64 x, .int .i64 y, .int .i64 z, .int .i64 t, .int .i64 a, .int .i64 b, .int .i64 c, .int .i64 d], .int .i64 p] w fun e w' => e = .returned (.tuple #[.agg #[.int .i64 0, .int .i64 0, .int .i64 0, .int .i64 0, .int .i64 0, .int .i64 0, .int .i64 0, .int .i64 0], .bool false]) ∧ Below w.heap.size w w' :=
  between_no ⟨x, y, z, t, a, b, c, d⟩ ⟨x, y, z, t, a, b, c, d⟩ p h h (by omega) w

set_option maxHeartbeats 8000000 in
theorem sides_walk (v : V) (w : World) :
    Calls Try.prog 5 #[.agg #[.int .i64 v.x, .int .i64 v.y, .int .i64 v.z, .int .i64 v.w, .int .i64 v.a, .int .i64 v.b, .int .i64 v.c, .int .i64 v.d]] w fun e w' => e = .returned (.bool true) ∧ Below w.heap.size w w' := by
  have HS := Lib.hid shown_any
  have HF := Lib.hid (fit_any v)
  obtain ⟨A, hA⟩ : ∃ f, fitV v = f := ⟨_, rfl⟩
  rw [hA] at HF
  have okA := Lib.hid (show A.ok by rw [← hA]; exact fitV_ok v)
  clear hA
  go_enter Try.func5, Try.ntmps5
  go_wp2_with fail
  with_reducible refine (HS.out _).mono ?_
  rintro e w1 ⟨rfl, hb⟩
  have k1 := bstep ((Below.refl w.heap.size w).alloc (Nat.le_refl _) (Obj.cells #[.int .i64 v.x, .int .i64 v.y, .int .i64 v.z, .int .i64 v.w, .int .i64 v.a, .int .i64 v.b, .int .i64 v.c, .int .i64 v.d] 24)) (by simp) hb
  have V1 : w1.heap[w.heap.size]? = some (vB 24 v) := vB_grow (new_at rfl) hb
  have K1 := Lib.hid k1
  clear hb k1
  obtain ⟨c0, c1, c2, c3, c4, c5, c6, c7⟩ := vB_cell V1
  clear V1
  go_wp2_with fail
  with_reducible refine (HF.out _).mono ?_
  rintro e w2 ⟨rfl, hb⟩
  have K2 := Lib.hid (bstep K1.out K1.out.size hb)
  clear hb c0 c1 c2 c3 c4 c5 c6 c7
  go_wp2
  obtain ⟨W, hW⟩ : ∃ W, W = w2.alloc (vB 24 A) := ⟨_, rfl⟩
  change Code.wp _ _ _ _ (w2.alloc (vB 24 A))
  rw [← hW]
  have A2 := Lib.hid (show W.heap[w2.heap.size]? = some (vB 24 A) by rw [hW]; exact new_at rfl)
  have KW := Lib.hid (show Below w.heap.size w W by rw [hW]; exact K2.out.alloc K2.out.size _)
  clear hW
  obtain ⟨ax, ay, az, aw, -, -, -, -⟩ := okA.out
  have CD := Lib.hid (fun p D (h : dist p A = D) => dist8 p A.x A.y A.z A.w A.a A.b A.c A.d D okA.out.sm h)
  obtain ⟨d1, e1⟩ : ∃ d, 4 * A.w + A.x = d := ⟨_, rfl⟩
  obtain ⟨d2, e2⟩ : ∃ d, 4 * A.w - A.x = d := ⟨_, rfl⟩
  obtain ⟨d3, e3⟩ : ∃ d, 4 * A.w + A.y = d := ⟨_, rfl⟩
  obtain ⟨d4, e4⟩ : ∃ d, 4 * A.w - A.y = d := ⟨_, rfl⟩
  obtain ⟨s8, e8⟩ : ∃ d, 8 * A.w = d := ⟨_, rfl⟩
  have C1 := Lib.hid (CD.out 1 d1 e1)
  have C2 := Lib.hid (CD.out 2 d2 e2)
  have C3 := Lib.hid (CD.out 3 d3 e3)
  have C4 := Lib.hid (CD.out 4 d4 e4)
  have C5 := Lib.hid (CD.out 5 0 rfl)
  have C6 := Lib.hid (CD.out (-1) 0 rfl)
  have x1 : IntKind.i64.wrap (d1 + d2) = s8 := by rw [IntKind.wrap_i64]; omega
  have x2 : IntKind.i64.wrap (d3 + d4) = s8 := by rw [IntKind.wrap_i64]; omega
  have x3 : IntKind.i64.wrap (8 * A.w) = s8 := by rw [IntKind.wrap_i64]; omega
  clear e1 e2 e3 e4 e8 CD
  have g1 := fun x : Grow W => vB_cell (vB_grow A2.out x.below)
  have ne1 := Grow.ne W
  refine wp_region_grow (by kernel_rfl) (by kernel_rfl) ?_
  repeat (go_big_quiet_step ((go_at_call 15; with_reducible first | exact Grow.calls (C1.out _) | exact Grow.calls (C2.out _) | exact Grow.calls (C3.out _) | exact Grow.calls (C4.out _) | exact Grow.calls (C5.out _) | exact Grow.calls (C6.out _))))
  refine wpQuiet_nil ?_
  rintro _ ⟨x, rfl⟩
  have KY := Lib.hid (bstep KW.out KW.out.size x.below)
  have AY := Lib.hid (vB_grow A2.out x.below)
  generalize x.w = Y at *
  clear g1 ne1 x x1 x2 x3 C1 C2 C3 C4 C5 C6
  obtain ⟨q, hq⟩ : ∃ q, 4 * A.w = q := ⟨_, rfl⟩
  obtain ⟨r, hr⟩ : ∃ r, q + 1 = r := ⟨_, rfl⟩
  obtain ⟨u, hu⟩ : ∃ u, A.w + 1 = u := ⟨_, rfl⟩
  have wq : IntKind.i64.wrap (4 * A.w) = q := by rw [IntKind.wrap_i64]; omega
  have wr1 : IntKind.i64.wrap (q + 1) = r := by rw [IntKind.wrap_i64]; omega
  have wu : IntKind.i64.wrap (A.w + 1) = u := by rw [IntKind.wrap_i64]; omega
  have tx := tmod_bd A.x r (by omega)
  have ty := tmod_bd A.y r (by omega)
  have tz := tmod_bd A.z u (by omega)
  obtain ⟨ix, hix⟩ : ∃ i, A.x.tmod r = i := ⟨_, rfl⟩
  obtain ⟨iy, hiy⟩ : ∃ i, A.y.tmod r = i := ⟨_, rfl⟩
  obtain ⟨iz, hiz⟩ : ∃ i, A.z.tmod u = i := ⟨_, rfl⟩
  rw [hix] at tx
  rw [hiy] at ty
  rw [hiz] at tz
  have r0 : r ≠ 0 := by omega
  have u0 : u ≠ 0 := by omega
  have r1 : 0 < r := by omega
  have u1 : 0 < u := by omega
  have DI := Lib.hid (show ∀ p, 0 ≤ dist p ⟨ix, iy, iz, A.w, A.a, A.b, A.c, A.d⟩ from fun p => dist_in (by omega) (by omega) (by omega))
  have smI := Lib.hid (show (⟨ix, iy, iz, A.w, A.a, A.b, A.c, A.d⟩ : V).sm by
    have o := okA.out.sm
    exact ⟨by simp only; omega, by simp only; omega, by simp only; omega, o.w, o.a, o.b, o.c, o.d⟩)
  have wx : IntKind.i64.wrap ix = ix := by rw [IntKind.wrap_i64]; omega
  have wy : IntKind.i64.wrap iy = iy := by rw [IntKind.wrap_i64]; omega
  have wz : IntKind.i64.wrap iz = iz := by rw [IntKind.wrap_i64]; omega
  clear hq hr hu tx ty tz
  obtain ⟨c0, c1, c2, c3, c4, c5, c6, c7⟩ := vB_cell AY.out
  have lY := vB_lt AY.out
  go_wp2
  go_loopw [6] (fun i wr => ∃ j : Nat, j ≤ 5 ∧ i = .int .i64 j ∧ Below w.heap.size w wr ∧ wr.heap[Y.heap.size]? = some (vB 24 ⟨ix, iy, iz, A.w, A.a, A.b, A.c, A.d⟩))
    (fun i _ => 5 - (intOf i).toNat)
  case atStart => exact ⟨0, by omega, rfl, KY.out.alloc KY.out.size _, new_at rfl⟩
  case round =>
    obtain ⟨j, hj, rfl, hbel, q1⟩ := hrel
    have HBE := Lib.hid hbel
    have H1 := Lib.hid q1
    clear hbel q1 c0 c1 c2 c3 c4 c5 c6 c7
    by_cases hlt : j < 5
    · obtain ⟨D, hD⟩ : ∃ d, dist (j : Int) ⟨ix, iy, iz, A.w, A.a, A.b, A.c, A.d⟩ = d := ⟨_, rfl⟩
      have hD0 : 0 ≤ D := by rw [← hD]; exact DI.out _
      have CI := Lib.hid (dist8 (j : Int) ix iy iz A.w A.a A.b A.c A.d D smI.out hD)
      clear hD
      have p1 : (j : Int) < 5 := by omega
      have dD : decide (D < 0) = false := by simpa using hD0
      obtain ⟨c0, c1, c2, c3, c4, c5, c6, c7⟩ := vB_cell H1.out
      go_wp2_with fail
      with_reducible refine (CI.out _).mono ?_
      rintro e t1 ⟨rfl, hb⟩
      have T1 := Lib.hid (bstep HBE.out HBE.out.size hb)
      have I1 := Lib.hid (vB_grow H1.out hb)
      clear hb c0 c1 c2 c3 c4 c5 c6 c7
      obtain ⟨c0, c1, c2, c3, c4, c5, c6, c7⟩ := vB_cell I1.out
      go_wp2_with fail
      with_reducible refine (between_none _ _ _ _ _ _ _ _ _ smI.out _).mono ?_
      rintro e t2 ⟨rfl, hb⟩
      have T2 := Lib.hid (bstep T1.out T1.out.size hb)
      have I2 := Lib.hid (vB_grow I1.out hb)
      clear hb c0 c1 c2 c3 c4 c5 c6 c7
      go_wp2
      go_roundw
      case rel => exact ⟨j + 1, by omega, by go_num, T2.out.alloc T2.out.size _, vB_alloc _ I2.out⟩
      case measure => simp [intOf]; omega
    · obtain rfl : j = 5 := by omega
      go_wp2
      go_ret
      exact ⟨rfl, HBE.out⟩
end Go.Proofs.Ytjnmebdjgnenoaa
