/-
  CoverBits' walk.
-/
import Derived.Test.YtgcoggejgolhgaaBitsP
import Derived.Lib.MinMax
namespace Go.Proofs.Ytgcoggejgolhgaa
open Go.RowKit Go.BigFrame
attribute [local go_sem ↓] Go.wp_at_zero Go.wp_at_succ

def BitsIn (w : World) (xs : List Int) (n i : Value) (wr : World) : Prop :=
  ∃ k : Nat, k ≤ xs.length ∧ n = .int .i64 (sumv (xs.take k)) ∧ i = .int .i64 k ∧ Below w.heap.size w wr

set_option maxRecDepth 100000 in
set_option maxHeartbeats 2000000 in
theorem bits_walk (m n e f : Int) (w : World) (hm0 : 0 ≤ m) (hm1 : m ≤ 255) (hn0 : 0 ≤ n) (hn1 : n ≤ 255) :
    Calls Try.prog 5 #[.int .u8 m, .int .u8 n, .agg #[.int .i64 e, .int .i64 f]] w fun e w' => e = .returned (.bool true) ∧ Below w.heap.size w w' := by
  have HSh := Lib.hid shown_any
  have hx' := tmod_bd e 1025 (by decide)
  have hy' := tmod_bd f 1025 (by decide)
  obtain ⟨x, ex⟩ : ∃ x, e.tmod 1025 = x := ⟨_, rfl⟩
  obtain ⟨y, ey⟩ : ∃ y, f.tmod 1025 = y := ⟨_, rfl⟩
  rw [ex] at hx'
  rw [ey] at hy'
  have hx : -1024 ≤ x ∧ x ≤ 1024 := by omega
  have hy : -1024 ≤ y ∧ y ≤ 1024 := by omega
  have s0 : ∀ w, Calls Try.prog 9 #[.int .i64 x, .int .i64 y, .int .i64 0] w fun e w' => e = .returned (.tuple #[.int .i64 (16 * x + 2), .int .i64 (16 * y + 6)]) ∧ w = w' := sample_any x y 0 hx hy
  obtain ⟨a0, ha0⟩ : ∃ a, 16 * x + 2 = a := ⟨_, rfl⟩
  obtain ⟨b0, hb0⟩ : ∃ b, 16 * y + 6 = b := ⟨_, rfl⟩
  rw [ha0, hb0] at s0
  replace s0 := Lib.hid s0
  have s1 : ∀ w, Calls Try.prog 9 #[.int .i64 x, .int .i64 y, .int .i64 1] w fun e w' => e = .returned (.tuple #[.int .i64 (16 * x + 6), .int .i64 (16 * y + 14)]) ∧ w = w' := sample_any x y 1 hx hy
  obtain ⟨a1, ha1⟩ : ∃ a, 16 * x + 6 = a := ⟨_, rfl⟩
  obtain ⟨b1, hb1⟩ : ∃ b, 16 * y + 14 = b := ⟨_, rfl⟩
  rw [ha1, hb1] at s1
  replace s1 := Lib.hid s1
  have s2 : ∀ w, Calls Try.prog 9 #[.int .i64 x, .int .i64 y, .int .i64 2] w fun e w' => e = .returned (.tuple #[.int .i64 (16 * x + 10), .int .i64 (16 * y + 2)]) ∧ w = w' := sample_any x y 2 hx hy
  obtain ⟨a2, ha2⟩ : ∃ a, 16 * x + 10 = a := ⟨_, rfl⟩
  obtain ⟨b2, hb2⟩ : ∃ b, 16 * y + 2 = b := ⟨_, rfl⟩
  rw [ha2, hb2] at s2
  replace s2 := Lib.hid s2
  have s3 : ∀ w, Calls Try.prog 9 #[.int .i64 x, .int .i64 y, .int .i64 3] w fun e w' => e = .returned (.tuple #[.int .i64 (16 * x + 14), .int .i64 (16 * y + 10)]) ∧ w = w' := sample_any x y 3 hx hy
  obtain ⟨a3, ha3⟩ : ∃ a, 16 * x + 14 = a := ⟨_, rfl⟩
  obtain ⟨b3, hb3⟩ : ∃ b, 16 * y + 10 = b := ⟨_, rfl⟩
  rw [ha3, hb3] at s3
  replace s3 := Lib.hid s3
  obtain ⟨X, hX⟩ : ∃ X, 16 * x = X := ⟨_, rfl⟩
  obtain ⟨Y, hY⟩ : ∃ Y, 16 * y = Y := ⟨_, rfl⟩
  have wX : IntKind.i64.wrap (16 * x) = X := by rw [hX, IntKind.wrap_i64]; omega
  have wY : IntKind.i64.wrap (16 * y) = Y := by rw [hY, IntKind.wrap_i64]; omega
  obtain ⟨X', hX'⟩ : ∃ X', X + 16 = X' := ⟨_, rfl⟩
  obtain ⟨Y', hY'⟩ : ∃ Y', Y + 16 = Y' := ⟨_, rfl⟩
  have wX' : IntKind.i64.wrap (X + 16) = X' := by rw [hX', IntKind.wrap_i64]; omega
  have wY' : IntKind.i64.wrap (Y + 16) = Y' := by rw [hY', IntKind.wrap_i64]; omega
  have p0 : ¬ a0 < X ∧ ¬ X' ≤ a0 ∧ ¬ b0 < Y ∧ ¬ Y' ≤ b0 := by omega
  replace p0 := Lib.hid p0
  have p1 : ¬ a1 < X ∧ ¬ X' ≤ a1 ∧ ¬ b1 < Y ∧ ¬ Y' ≤ b1 := by omega
  replace p1 := Lib.hid p1
  have p2 : ¬ a2 < X ∧ ¬ X' ≤ a2 ∧ ¬ b2 < Y ∧ ¬ Y' ≤ b2 := by omega
  replace p2 := Lib.hid p2
  have p3 : ¬ a3 < X ∧ ¬ X' ≤ a3 ∧ ¬ b3 < Y ∧ ¬ Y' ≤ b3 := by omega
  replace p3 := Lib.hid p3
  have q10 : ¬ a1 = a0 ∧ ¬ b1 = b0 := by omega
  replace q10 := Lib.hid q10
  have q20 : ¬ a2 = a0 ∧ ¬ b2 = b0 := by omega
  replace q20 := Lib.hid q20
  have q21 : ¬ a2 = a1 ∧ ¬ b2 = b1 := by omega
  replace q21 := Lib.hid q21
  have q30 : ¬ a3 = a0 ∧ ¬ b3 = b0 := by omega
  replace q30 := Lib.hid q30
  have q31 : ¬ a3 = a1 ∧ ¬ b3 = b1 := by omega
  replace q31 := Lib.hid q31
  have q32 : ¬ a3 = a2 ∧ ¬ b3 = b2 := by omega
  replace q32 := Lib.hid q32
  clear hX hY hX' hY' ha0 ha1 ha2 ha3 hb0 hb1 hb2 hb3 hx hy hx' hy'
  have hj' := tmod_bd n 4 (by decide)
  have hj0 := Int.tmod_nonneg 4 hn0
  obtain ⟨j, hj⟩ : ∃ j, n.tmod 4 = j := ⟨_, rfl⟩
  rw [hj] at hj' hj0
  obtain ⟨K, hK⟩ : ∃ K : Nat, 1 + j = (K : Int) := ⟨(1 + j).toNat, by omega⟩
  have wK : IntKind.i64.wrap (1 + j) = (K : Int) := by rw [hK, IntKind.wrap_i64]; omega
  have wn : IntKind.i64.wrap n = n := by rw [IntKind.wrap_i64]; omega
  have HG1 : ∀ w, Calls Try.prog 11 #[.int .u8 m, .int .i64 100] w (Gone w m 100) := fun w => gone_any m 100 hm0 hm1 (by omega) (by omega) w
  have HG2 := gone_any m K hm0 hm1 (by omega) (by omega)
  have HC := count_any m hm0 hm1
  have hl : (bl m 4).length = (ints m).length := by unfold ints; rw [List.length_map]
  have hn := ints_len m
  rw [hl] at HC
  unfold Gone at HG1 HG2
  rw [List.take_of_length_le (l := ints m) (i := 100) (by omega)] at HG1
  have ha := and15 m hm0 hm1
  have hsum := ints_sum m
  have hat := Lib.hid (fun (k : Nat) (h : k < (ints m).length) => ints_at m h)
  have htk := Lib.hid (fun (k : Nat) (h : k < ((ints m).take K).length) => take_at h)
  have hlk : ((ints m).take K).length = min K (ints m).length := List.length_take
  have hrw : IntKind.i64.wrap (m % 16) = m % 16 := by rw [IntKind.wrap_i64]; omega
  obtain ⟨R, hR⟩ : ∃ R, m % 16 = R := ⟨_, rfl⟩
  rw [hR] at ha hsum hrw
  have HA := Lib.hid ha
  have HSu := Lib.hid hsum
  have HRW := Lib.hid hrw
  generalize ints m = xs at *
  generalize xs.take K = ys at *
  have HLK := Lib.hid hlk
  replace HG1 := Lib.hid HG1
  replace HG2 := Lib.hid HG2
  replace HC := Lib.hid HC
  have hK4 := Lib.hid (show 1 ≤ K ∧ K ≤ 4 by omega)
  clear hl ha hsum hrw hlk hR hK hj' hj0 hn0 hn1 hm0 hm1
  have hminI : min (xs.length : Int) (K : Int) = (ys.length : Int) := by have := HLK.out; omega
  have HMin := Lib.hid hminI
  clear hminI
  go_enter Try.func5, Try.ntmps5
  go_wp2_with fail
  obtain ⟨X0, hX0⟩ : ∃ X0, X0 = w.alloc (Obj.cells #[.int .i64 e, .int .i64 f] 40) := ⟨_, rfl⟩
  rw [← hX0]
  have B0 := Lib.hid (show Below w.heap.size w X0 by rw [hX0]; exact (Below.refl _ _).alloc (Nat.le_refl _) _)
  have E0 := Lib.hid (show X0.heap[w.heap.size]? = some (.cells #[.int .i64 e, .int .i64 f] 40) by rw [hX0]; exact new_at rfl)
  have G0 := Lib.hid (show w.heap.size < X0.heap.size by rw [hX0]; simp)
  clear hX0
  with_reducible refine (HSh.out _).mono ?_
  rintro e' X1 ⟨rfl, hb⟩
  have B1 := Lib.hid (bstep B0.out B0.out.size hb)
  have E1 := Lib.hid ((hb.block _ G0.out).trans E0.out)
  have G1 := Lib.hid (show w.heap.size < X1.heap.size by have := hb.size; have := G0.out; omega)
  clear hb B0 E0 G0
  go_wp2_with fail
  with_reducible refine (HG1.out _).mono ?_
  rintro e' X2 ⟨s1, rfl, hO, hb⟩
  obtain ⟨A1, c1, rfl⟩ := own_form hO
  have O2 := Lib.hid hO
  have B2 := Lib.hid (bstep B1.out B1.out.size hb)
  have E2 := Lib.hid ((hb.block _ G1.out).trans E1.out)
  have G2 := Lib.hid (show w.heap.size < X2.heap.size by have := hb.size; have := G1.out; omega)
  clear hb hO B1 E1 G1
  go_wp2_with fail
  with_reducible refine (HG2.out _).mono ?_
  rintro e' X3 ⟨s2, rfl, hO, hb⟩
  obtain ⟨A2, c2, rfl⟩ := own_form hO
  have O3 := Lib.hid hO
  have O3' := Lib.hid (OwnS.keep O2.out hb)
  have B3 := Lib.hid (bstep B2.out B2.out.size hb)
  have E3 := Lib.hid ((hb.block _ G2.out).trans E2.out)
  clear hb hO B2 E2 G2 O2
  have e0 : X3.cell? ⟨w.heap.size, 0, none⟩ = some (.int .i64 e) := by simp [World.cell?, E3.out]
  have e1 : X3.cell? ⟨w.heap.size, 1, none⟩ = some (.int .i64 f) := by simp [World.cell?, E3.out]
  go_wp2_with fail
  with_reducible refine (HC.out _).mono ?_
  rintro e' X4 ⟨rfl, hb⟩
  have B4 := Lib.hid (bstep B3.out B3.out.size hb)
  have O4 := Lib.hid (OwnS.keep O3.out hb)
  have O4' := Lib.hid (OwnS.keep O3'.out hb)
  clear hb B3 O3 O3' E3 e0 e1
  have hmin := HMin.out
  go_wp2
  obtain ⟨A3, k3, e3, -, -, z3⟩ := O4'.out.sl
  obtain ⟨A4, k4, e4, -, -, z4⟩ := O4.out.sl
  cases e3
  cases e4
  have Z1 := Lib.hid z3
  have Z2 := Lib.hid z4
  clear z3 z4 O4 O4' hmin
  go_loopw [14, 15] (fun n i wr => BitsIn X4 xs n i wr) (fun _ i _ => xs.length - (intOf i).toNat)
  case atStart => exact ⟨0, by omega, by simp [sumv], rfl, Below.refl _ _⟩
  case round =>
    obtain ⟨k, hk, rfl, rfl, hB⟩ := hrel
    have HB := Lib.hid hB
    clear hB
    by_cases hlt : k < xs.length
    · obtain ⟨b, off, hA1, hbB, hcell⟩ := Z1.out.at hlt
      obtain ⟨h03, hup⟩ := hat.out k hlt
      have hnx := sumv_next hlt
      have hs := sumv_bd (xs.take k)
      have hlen : (xs.take k).length = k := by rw [List.length_take]; omega
      rw [hlen] at hs
      have hp2 := pow2_bd (xs.getD k 0)
      have hty := htk.out k
      have hwk : IntKind.i64.wrap ((k : Int) + 1) = (k : Int) + 1 := by rw [IntKind.wrap_i64]; omega
      have HT := Lib.hid hty
      have HU := Lib.hid hup
      have HN := Lib.hid hnx
      have h1 : wr.cell? ⟨b, off + k, none⟩ = some (.int .i64 (xs.getD k 0)) := (HB.out.cell (p := ⟨b, off + k, none⟩) hbB).trans hcell
      have HV := Lib.hid (shl_val (s := sumv (xs.take k)) h03 (by omega) (by omega))
      clear hty hup hnx hcell hs hlen hp2
      subst hA1
      have n0 : ¬ xs.getD k 0 < 0 := by omega
      have n3 : ¬ 3 < xs.getD k 0 := by omega
      have HTk := Lib.hid (show sumv (xs.take (k + 1)) = sumv (xs.take k) + pow2 (xs.getD k 0) from HN.out)
      obtain ⟨q, hq⟩ : ∃ q, xs.getD (k - 1) 0 = q := ⟨_, rfl⟩
      rw [hq] at HU
      have HQ := Lib.hid hq
      clear hq HN
      clear h03
      generalize xs.getD k 0 = p at *
      generalize sumv (xs.take k) = s at *
      rcases Nat.eq_zero_or_pos k with hpos | hpos
      · by_cases hky : k < ys.length
        · have hk1 : ¬ (0 : Int) < (k : Int) := by omega
          have hk2 : ¬ 0 < k := by omega
          clear hpos
          have hpy := HT.out hky
          obtain ⟨b2, off2, hA2, hbB2, hcell2⟩ := Z2.out.at hky
          rw [hpy] at hcell2
          subst hA2
          have h3 : wr.cell? ⟨b2, off2 + k, none⟩ = some (.int .i64 p) := (HB.out.cell (p := ⟨b2, off2 + k, none⟩) hbB2).trans hcell2
          clear hcell2 hpy
          go_wp2_with fail
          have d0 : decide (p < 0) = false := decide_eq_false (by omega)
          have d3 : decide (3 < p) = false := decide_eq_false (by omega)
          have dk : decide ((0 : Int) < (k : Int)) = false := decide_eq_false (by omega)
          have dy : decide ((k : Int) < (ys.length : Int)) = true := decide_eq_true (by omega)
          go_big_quiet (fail)
          clear d0 d3 dk dy
          have h1 := (show (wr.drewN nq).cell? ⟨b, off + k, none⟩ = some (.int .i64 p) from h1)
          go_wp2_with fail
          exact ⟨⟨k + 1, by omega, by rw [HV.out, HTk.out], by simp, below_draws HB.out nq⟩, by simp [intOf]; omega⟩
        · have hk1 : ¬ (0 : Int) < (k : Int) := by omega
          have hk2 : ¬ 0 < k := by omega
          clear hpos
          go_wp2_with fail
          have d0 : decide (p < 0) = false := decide_eq_false (by omega)
          have d3 : decide (3 < p) = false := decide_eq_false (by omega)
          have dk : decide ((0 : Int) < (k : Int)) = false := decide_eq_false (by omega)
          have dy : decide ((k : Int) < (ys.length : Int)) = false := decide_eq_false (by omega)
          go_big_quiet (fail)
          clear d0 d3 dk dy
          have h1 := (show (wr.drewN nq).cell? ⟨b, off + k, none⟩ = some (.int .i64 p) from h1)
          go_wp2_with fail
          exact ⟨⟨k + 1, by omega, by rw [HV.out, HTk.out], by simp, below_draws HB.out nq⟩, by simp [intOf]; omega⟩
      · by_cases hky : k < ys.length
        · have hk1 : (0 : Int) < (k : Int) := by omega
          obtain ⟨k', hk'⟩ : ∃ k', k - 1 = k' := ⟨_, rfl⟩
          have hw0 : IntKind.i64.wrap ((k : Int) - 1) = (k' : Int) := by rw [IntKind.wrap_i64]; omega
          have hl' : k' < xs.length := by omega
          have hup := HU.out hpos
          obtain ⟨b', off', hA', -, hcell⟩ := Z1.out.at hl'
          cases hA'
          have h2 : wr.cell? ⟨b, off + k', none⟩ = some (.int .i64 q) := by
            rw [HB.out.cell (p := ⟨b, off + k', none⟩) hbB, hcell, ← hk', HQ.out]
          have hup' : ¬ p ≤ q := by omega
          clear hcell hk' hup
          have hpy := HT.out hky
          obtain ⟨b2, off2, hA2, hbB2, hcell2⟩ := Z2.out.at hky
          rw [hpy] at hcell2
          subst hA2
          have h3 : wr.cell? ⟨b2, off2 + k, none⟩ = some (.int .i64 p) := (HB.out.cell (p := ⟨b2, off2 + k, none⟩) hbB2).trans hcell2
          clear hcell2 hpy
          go_wp2_with fail
          have d0 : decide (p < 0) = false := decide_eq_false (by omega)
          have d3 : decide (3 < p) = false := decide_eq_false (by omega)
          have dk : decide ((0 : Int) < (k : Int)) = true := decide_eq_true (by omega)
          have dq : decide (p ≤ q) = false := decide_eq_false (by omega)
          have dy : decide ((k : Int) < (ys.length : Int)) = true := decide_eq_true (by omega)
          go_big_quiet (fail)
          clear d0 d3 dk dy
          have h1 := (show (wr.drewN nq).cell? ⟨b, off + k, none⟩ = some (.int .i64 p) from h1)
          go_wp2_with fail
          exact ⟨⟨k + 1, by omega, by rw [HV.out, HTk.out], by simp, below_draws HB.out nq⟩, by simp [intOf]; omega⟩
        · have hk1 : (0 : Int) < (k : Int) := by omega
          obtain ⟨k', hk'⟩ : ∃ k', k - 1 = k' := ⟨_, rfl⟩
          have hw0 : IntKind.i64.wrap ((k : Int) - 1) = (k' : Int) := by rw [IntKind.wrap_i64]; omega
          have hl' : k' < xs.length := by omega
          have hup := HU.out hpos
          obtain ⟨b', off', hA', -, hcell⟩ := Z1.out.at hl'
          cases hA'
          have h2 : wr.cell? ⟨b, off + k', none⟩ = some (.int .i64 q) := by
            rw [HB.out.cell (p := ⟨b, off + k', none⟩) hbB, hcell, ← hk', HQ.out]
          have hup' : ¬ p ≤ q := by omega
          clear hcell hk' hup
          go_wp2_with fail
          have d0 : decide (p < 0) = false := decide_eq_false (by omega)
          have d3 : decide (3 < p) = false := decide_eq_false (by omega)
          have dk : decide ((0 : Int) < (k : Int)) = true := decide_eq_true (by omega)
          have dq : decide (p ≤ q) = false := decide_eq_false (by omega)
          have dy : decide ((k : Int) < (ys.length : Int)) = false := decide_eq_false (by omega)
          go_big_quiet (fail)
          clear d0 d3 dk dy
          have h1 := (show (wr.drewN nq).cell? ⟨b, off + k, none⟩ = some (.int .i64 p) from h1)
          go_wp2_with fail
          exact ⟨⟨k + 1, by omega, by rw [HV.out, HTk.out], by simp, below_draws HB.out nq⟩, by simp [intOf]; omega⟩
    · have hke : k = xs.length := by omega
      have hse : sumv (xs.take k) = R := by rw [hke, List.take_length]; exact HSu.out
      rw [hse]
      clear hse hke
      have v1 : IntKind.i64.wrap 1 = 1 := by decide
      have v2 : IntKind.i64.wrap 2 = 2 := by decide
      have v3 : IntKind.i64.wrap 3 = 3 := by decide
      have v4 : IntKind.i64.wrap 4 = 4 := by decide
      go_wp2_with fail
      refine wp_loop_rounds 5 ?_
      rw [rounds_succ]
      obtain ⟨z1, z2, z3, z4⟩ := p0.out
      go_wp2_with (go_at_call 9; (with_reducible refine (s0.out _).mono ?_); rintro e w' ⟨rfl, rfl⟩)
      clear z1 z2 z3 z4
      refine wp_loop_rounds 1 ?_
      rw [rounds_succ]
      go_wp2
      rw [rounds_succ]
      obtain ⟨z1, z2, z3, z4⟩ := p1.out
      go_wp2_with (go_at_call 9; (with_reducible refine (s1.out _).mono ?_); rintro e w' ⟨rfl, rfl⟩)
      clear z1 z2 z3 z4
      refine wp_loop_rounds 2 ?_
      rw [rounds_succ]
      obtain ⟨z1, z2⟩ := q10.out
      have z3 : (a1 == a0) = false := by simpa using z1
      have z4 : (b1 == b0) = false := by simpa using z2
      have z5 : decide (a1 = a0) = false := decide_eq_false z1
      have z6 : decide (b1 = b0) = false := decide_eq_false z2
      go_wp2_with (go_at_call 9; (with_reducible refine (s0.out _).mono ?_); rintro e w' ⟨rfl, rfl⟩)
      clear z1 z2 z3 z4 z5 z6
      rw [rounds_succ]
      go_wp2
      rw [rounds_succ]
      obtain ⟨z1, z2, z3, z4⟩ := p2.out
      go_wp2_with (go_at_call 9; (with_reducible refine (s2.out _).mono ?_); rintro e w' ⟨rfl, rfl⟩)
      clear z1 z2 z3 z4
      refine wp_loop_rounds 3 ?_
      rw [rounds_succ]
      obtain ⟨z1, z2⟩ := q20.out
      have z3 : (a2 == a0) = false := by simpa using z1
      have z4 : (b2 == b0) = false := by simpa using z2
      have z5 : decide (a2 = a0) = false := decide_eq_false z1
      have z6 : decide (b2 = b0) = false := decide_eq_false z2
      go_wp2_with (go_at_call 9; (with_reducible refine (s0.out _).mono ?_); rintro e w' ⟨rfl, rfl⟩)
      clear z1 z2 z3 z4 z5 z6
      rw [rounds_succ]
      obtain ⟨z1, z2⟩ := q21.out
      have z3 : (a2 == a1) = false := by simpa using z1
      have z4 : (b2 == b1) = false := by simpa using z2
      have z5 : decide (a2 = a1) = false := decide_eq_false z1
      have z6 : decide (b2 = b1) = false := decide_eq_false z2
      go_wp2_with (go_at_call 9; (with_reducible refine (s1.out _).mono ?_); rintro e w' ⟨rfl, rfl⟩)
      clear z1 z2 z3 z4 z5 z6
      rw [rounds_succ]
      go_wp2
      rw [rounds_succ]
      obtain ⟨z1, z2, z3, z4⟩ := p3.out
      go_wp2_with (go_at_call 9; (with_reducible refine (s3.out _).mono ?_); rintro e w' ⟨rfl, rfl⟩)
      clear z1 z2 z3 z4
      refine wp_loop_rounds 4 ?_
      rw [rounds_succ]
      obtain ⟨z1, z2⟩ := q30.out
      have z3 : (a3 == a0) = false := by simpa using z1
      have z4 : (b3 == b0) = false := by simpa using z2
      have z5 : decide (a3 = a0) = false := decide_eq_false z1
      have z6 : decide (b3 = b0) = false := decide_eq_false z2
      go_wp2_with (go_at_call 9; (with_reducible refine (s0.out _).mono ?_); rintro e w' ⟨rfl, rfl⟩)
      clear z1 z2 z3 z4 z5 z6
      rw [rounds_succ]
      obtain ⟨z1, z2⟩ := q31.out
      have z3 : (a3 == a1) = false := by simpa using z1
      have z4 : (b3 == b1) = false := by simpa using z2
      have z5 : decide (a3 = a1) = false := decide_eq_false z1
      have z6 : decide (b3 = b1) = false := decide_eq_false z2
      go_wp2_with (go_at_call 9; (with_reducible refine (s1.out _).mono ?_); rintro e w' ⟨rfl, rfl⟩)
      clear z1 z2 z3 z4 z5 z6
      rw [rounds_succ]
      obtain ⟨z1, z2⟩ := q32.out
      have z3 : (a3 == a2) = false := by simpa using z1
      have z4 : (b3 == b2) = false := by simpa using z2
      have z5 : decide (a3 = a2) = false := decide_eq_false z1
      have z6 : decide (b3 = b2) = false := decide_eq_false z2
      go_wp2_with (go_at_call 9; (with_reducible refine (s2.out _).mono ?_); rintro e w' ⟨rfl, rfl⟩)
      clear z1 z2 z3 z4 z5 z6
      rw [rounds_succ]
      go_wp2
      rw [rounds_succ]
      have za := HA.out
      have zr := HRW.out
      go_wp2
      go_ret
      exact ⟨by simp, bstep B4.out B4.out.size HB.out⟩
end Go.Proofs.Ytgcoggejgolhgaa
