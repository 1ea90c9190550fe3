/-
  The reference's MulDiv, Floor and Down.
-/
import Derived.Test.YtehkcnmjkgelkaaCFix
namespace Go.Proofs.Ytehkcnmjkgelkaa.C
open Go.RowKit
attribute [local go_sem ↓] Go.wp_at_zero Go.wp_at_succ

theorem rsize_any (n : Int) (w : World) (h0 : -9223372036854775808 ≤ n) (h1 : n ≤ 9223372036854775807) :
    Calls Try.prog 44 #[.int .i64 n] w fun e w' => e = .returned (.int .u64 (n.natAbs : Int)) ∧ w = w' := by
  by_cases h : n < 0
  · have e1 : IntKind.u64.wrap n = n + 18446744073709551616 := by rw [IntKind.wrap_u64]; omega
    have e2 : IntKind.u64.wrap (0 - (n + 18446744073709551616)) = (n.natAbs : Int) := by rw [IntKind.wrap_u64]; omega
    have e3 : IntKind.u64.wrap (-(n + 18446744073709551616)) = (n.natAbs : Int) := by rw [IntKind.wrap_u64]; omega
    go_enter Try.func44, Try.ntmps44
    go_wp2
    go_ret
    exact ⟨rfl, rfl⟩
  · have e1 : IntKind.u64.wrap n = (n.natAbs : Int) := by rw [IntKind.wrap_u64]; omega
    go_enter Try.func44, Try.ntmps44
    go_wp2
    go_ret
    exact ⟨rfl, rfl⟩

theorem told_any (m : Nat) (neg : Bool) (hm : m < 9223372036854775808) (w : World) :
    Calls Try.prog 45 #[.int .u64 0, .int .u64 (m : Int), .bool neg] w fun e w' => e = .returned (.tuple #[.int .i64 (if neg = true then -(m : Int) else m), .int .i64 0]) ∧ w = w' := by
  cases neg
  · have e1 : IntKind.i64.wrap (m : Int) = m := by rw [IntKind.wrap_i64]; omega
    go_enter Try.func45, Try.ntmps45
    go_wp2
    go_ret2
    exact ⟨rfl, rfl⟩
  · by_cases h0 : m = 0
    · subst h0
      go_enter Try.func45, Try.ntmps45
      go_wp2
      go_ret2
      exact ⟨rfl, rfl⟩
    · have e1 : IntKind.u64.wrap (-(m : Int)) = 18446744073709551616 - m := by rw [IntKind.wrap_u64]; omega
      have e1' : IntKind.u64.wrap (0 - (m : Int)) = 18446744073709551616 - m := by rw [IntKind.wrap_u64]; omega
      have e2 : IntKind.i64.wrap (18446744073709551616 - (m : Int)) = -m := by rw [IntKind.wrap_i64]; omega
      go_enter Try.func45, Try.ntmps45
      go_wp2
      go_ret2
      exact ⟨rfl, rfl⟩

theorem half_of (x k : Nat) : ∃ b, b < 2 ∧ x / 2 ^ k = 2 * (x / 2 ^ (k + 1)) + b ∧ ((x : Int) / 2 ^ k).tmod 2 = (b : Int) := by
  refine ⟨x / 2 ^ k % 2, by omega, ?_, ?_⟩
  · rw [Nat.pow_succ, ← Nat.div_div_eq_div_mul]
    omega
  · have e : ((x : Int) / 2 ^ k) = ((x / 2 ^ k : Nat) : Int) := by simp
    rw [e, Int.tmod_eq_emod_of_nonneg (Int.natCast_nonneg _)]
    rfl

set_option maxRecDepth 100000 in
set_option maxHeartbeats 1000000 in
theorem times_any (a b : Int) (x y : Nat) (ha0 : -9223372036854775808 ≤ a) (ha1 : a ≤ 9223372036854775807) (hb0 : 0 ≤ b) (hb1 : b ≤ 9223372036854775807) (hx : a.natAbs = x) (hy : b.natAbs = y) (m : Nat) (hm : x * y = m) (hm1 : m < 9223372036854775808) (g : Bool) (hg : (decide (a < 0) && decide (0 < m)) = g) (w : World) :
    Calls Try.prog 42 #[.int .i64 a, .int .i64 b] w fun e w' => e = .returned (.agg #[.int .u64 0, .int .u64 (m : Int), .bool g]) ∧ Below w.heap.size w w' := by
  have SA := Lib.hid (rsize_any a · ha0 ha1)
  have SB := Lib.hid (rsize_any b · (by omega) hb1)
  rw [hx] at SA
  rw [hy] at SB
  have hx1 : x ≤ 9223372036854775808 := by omega
  have hy1 : y ≤ 9223372036854775807 := by omega
  have HM := Lib.hid hm
  have HG := Lib.hid hg
  clear hx hy hm hg
  go_enter Try.func42, Try.ntmps42
  go_wp2_with (first
    | (go_at_call 44; with_reducible refine (SA.out _).mono ?_; rintro e w' ⟨rfl, rfl⟩)
    | (go_at_call 44; with_reducible refine (SB.out _).mono ?_; rintro e w' ⟨rfl, rfl⟩))
  obtain ⟨W, hW⟩ : ∃ W, W = w.alloc (Obj.cells #[.int .u64 0, .int .u64 0, .bool false] 74) := ⟨_, rfl⟩
  rw [← hW]
  have HW := Lib.hid hW
  clear hW
  go_loopw [9, 7, 8] (fun i h l wr => ∃ (j L : Nat), j ≤ 64 ∧ i = .int .i64 ((j : Int) - 1) ∧ h = .int .u64 0 ∧ l = .int .u64 (L : Int) ∧ x / 2 ^ j * y = L ∧ wr = W)
    (fun i _ _ _ => (intOf i + 1).toNat)
  case atStart =>
    refine ⟨64, 0, by omega, rfl, rfl, rfl, ?_, rfl⟩
    rw [Nat.div_eq_of_lt (by omega)]
    simp
  case round =>
    obtain ⟨j, L, hj, rfl, rfl, rfl, hL, hwr⟩ := hrel
    have HWR := Lib.hid hwr
    clear hwr
    by_cases hlt : 0 < j
    · obtain ⟨k, rfl⟩ : ∃ k, j = k + 1 := ⟨j - 1, by omega⟩
      obtain ⟨c, hc, hc1, hc2⟩ := half_of x k
      obtain ⟨M, hM⟩ : ∃ M, 2 * L = M := ⟨_, rfl⟩
      have hT : x / 2 ^ k * y = M + c * y := by rw [hc1, Nat.add_mul, Nat.mul_assoc, hL, hM]
      have hle : x / 2 ^ k * y ≤ m := by rw [← HM.out]; exact Nat.mul_le_mul_right _ (Nat.div_le_self _ _)
      have HT := Lib.hid hT
      have hLb : L < 9223372036854775808 := by omega
      have hMb : M < 9223372036854775808 := by
        rw [hT] at hle
        exact Nat.lt_of_le_of_lt (Nat.le_trans (Nat.le_add_right _ _) hle) hm1
      have e1 : (L : Int).tdiv 9223372036854775808 = 0 := by
        rw [Int.tdiv_eq_ediv_of_nonneg (by omega)]
        omega
      have e2 : IntKind.u64.wrap ((L : Int) * 2) = (M : Int) := by rw [IntKind.wrap_u64]; omega
      have i0 : (0 : Int) ≤ ((k + 1 : Nat) : Int) - 1 := by omega
      clear hL hM hc1 hT
      rcases (show c = 0 ∨ c = 1 by omega) with rfl | rfl
      · clear hle
        go_wp2
        go_roundw
        case rel => exact ⟨k, M, by omega, by go_num, rfl, rfl, by rw [HT.out]; simp, HWR.out⟩
        case measure => simp [intOf]
      · obtain ⟨S, hS⟩ : ∃ S, M + y = S := ⟨_, rfl⟩
        have hSb : S ≤ m := by rw [HT.out, Nat.one_mul, hS] at hle; exact hle
        have e4 : IntKind.u64.wrap ((M : Int) + (y : Int)) = (S : Int) := by rw [IntKind.wrap_u64]; omega
        have e5 : (M : Int) ≤ (S : Int) := by omega
        have HS := Lib.hid hS
        clear hle hS
        go_wp2
        go_roundw
        case rel => exact ⟨k, S, by omega, by go_num, rfl, rfl, by rw [HT.out, Nat.one_mul, HS.out], HWR.out⟩
        case measure => simp [intOf]
    · obtain rfl : j = 0 := by omega
      obtain rfl : L = m := by rw [← hL, ← HM.out]; simp
      obtain rfl := HWR.out
      obtain rfl := HW.out
      clear hL HW HWR
      have d2 : decide (b < 0) = false := by simpa using hb0
      have hB : ∀ o, Below w.heap.size w (w.alloc o) := fun o => (Below.refl _ _).alloc (Nat.le_refl _) o
      have HB := Lib.hid hB
      clear hB
      by_cases hs : a < 0
      · have d1 : decide (a < 0) = true := by simpa using hs
        by_cases h0 : L = 0
        · subst h0
          obtain rfl : g = false := by rw [← HG.out]; simp
          go_wp2
          exact bodyPost_ret (v := .agg #[.int .u64 0, .int .u64 0, .bool false]) (by simp [results, Try.results42, go_sem]) rfl ⟨rfl, HB.out _⟩
        · have h1 : 0 < L := by omega
          have h2 : decide (0 < L) = true := by simpa using h1
          obtain rfl : g = true := by rw [← HG.out, d1, h2]; rfl
          go_wp2
          exact bodyPost_ret (v := .agg #[.int .u64 0, .int .u64 (L : Int), .bool true]) (by simp [results, Try.results42, go_sem]) rfl ⟨rfl, HB.out _⟩
      · have d1 : decide (a < 0) = false := by simpa using hs
        obtain rfl : g = false := by rw [← HG.out, d1]; rfl
        go_wp2
        exact bodyPost_ret (v := .agg #[.int .u64 0, .int .u64 (L : Int), .bool false]) (by simp [results, Try.results42, go_sem]) rfl ⟨rfl, HB.out _⟩

set_option maxRecDepth 100000 in
set_option maxHeartbeats 2000000 in
theorem parts_any (n y q r : Nat) (neg : Bool) (hn : n < 9223372036854775808) (hy0 : 0 < y) (hy1 : y ≤ 9223372036854775807) (hq : n / y = q) (hr : n % y = r) (w : World) :
    Calls Try.prog 43 #[.agg #[.int .u64 0, .int .u64 (n : Int), .bool neg], .int .u64 (y : Int)] w fun e w' => e = .returned (.tuple #[.int .u64 0, .int .u64 (q : Int), .int .u64 (r : Int)]) ∧ Below w.heap.size w w' := by
  have HQ := Lib.hid hq
  have HR := Lib.hid hr
  clear hq hr
  go_enter Try.func43, Try.ntmps43
  go_wp2
  obtain ⟨W, hW⟩ : ∃ W, W = w.alloc (Obj.cells #[.int .u64 0, .int .u64 (n : Int), .bool neg] 74) := ⟨_, rfl⟩
  rw [← hW]
  have c0 : W.cell? ⟨w.heap.size, 0, none⟩ = some (.int .u64 0) := by rw [hW]; simp [go_sem]
  have c1 : W.cell? ⟨w.heap.size, 1, none⟩ = some (.int .u64 (n : Int)) := by rw [hW]; simp [go_sem]
  have HW := Lib.hid (show Below w.heap.size w W by rw [hW]; exact (Below.refl _ _).alloc (Nat.le_refl _) _)
  clear hW
  go_loopw [10, 7, 8, 9] (fun i h l t wr => ∃ (j A B : Nat), j ≤ 128 ∧ i = .int .i64 ((j : Int) - 1) ∧ h = .int .u64 0 ∧ l = .int .u64 (A : Int) ∧ t = .int .u64 (B : Int) ∧ n / 2 ^ j / y = A ∧ n / 2 ^ j % y = B ∧ wr = W)
    (fun i _ _ _ _ => (intOf i + 1).toNat)
  case atStart =>
    have e : n / 2 ^ 128 = 0 := Nat.div_eq_of_lt (by omega)
    exact ⟨128, 0, 0, by omega, rfl, rfl, rfl, rfl, by rw [e]; simp, by rw [e]; simp, rfl⟩
  case round =>
    obtain ⟨j, A, B, hj, rfl, rfl, rfl, rfl, hA, hB, rfl⟩ := hrel
    by_cases hlt : 0 < j
    · obtain ⟨k, rfl⟩ : ∃ k, j = k + 1 := ⟨j - 1, by omega⟩
      by_cases hk : 64 ≤ k
      · have e0 : n / 2 ^ k = 0 := Nat.div_eq_of_lt (Nat.lt_of_lt_of_le hn (Nat.le_trans (by decide : 9223372036854775808 ≤ 2 ^ 64) (Nat.pow_le_pow_right (by decide) hk)))
        have e1 : n / 2 ^ (k + 1) = 0 := by rw [Nat.pow_succ, ← Nat.div_div_eq_div_mul, e0]
        rw [e1] at hA hB
        obtain rfl : A = 0 := by rw [← hA]; simp
        obtain rfl : B = 0 := by rw [← hB]; simp
        have i0 : (0 : Int) ≤ ((k + 1 : Nat) : Int) - 1 := by omega
        have i1 : (63 : Int) < ((k + 1 : Nat) : Int) - 1 := by omega
        have i2 : IntKind.i64.wrap ((((k + 1 : Nat) : Int) - 1) - 64) = ((k - 64 : Nat) : Int) := by rw [IntKind.wrap_i64]; omega
        have i3 : IntKind.i64.wrap ((k : Int) - 64) = ((k - 64 : Nat) : Int) := by rw [IntKind.wrap_i64]; omega
        have E0 := Lib.hid e0
        clear hA hB e0 e1
        go_wp2
        go_roundw
        case rel => exact ⟨k, 0, 0, by omega, by go_num, rfl, rfl, rfl, by rw [E0.out]; simp, by rw [E0.out]; simp, trivial⟩
        case measure => simp [intOf]
      · obtain ⟨c, hc, hc1, hc2⟩ := half_of n k
        have hBy : B < y := by rw [← hB]; exact Nat.mod_lt _ hy0
        have hAn : A ≤ n := by rw [← hA]; exact Nat.le_trans (Nat.div_le_self _ _) (Nat.div_le_self _ _)
        have hdm := Nat.mod_add_div (n / 2 ^ (k + 1)) y
        rw [hA, hB] at hdm
        obtain ⟨B2, hB2⟩ : ∃ v, 2 * B = v := ⟨_, rfl⟩
        obtain ⟨T, hT⟩ : ∃ v, B2 + c = v := ⟨_, rfl⟩
        obtain ⟨A2, hA2⟩ : ∃ v, 2 * A = v := ⟨_, rfl⟩
        have hM : T + y * A2 = n / 2 ^ k := by
          rw [hc1, ← hdm, ← hT, ← hB2, ← hA2, Nat.mul_left_comm]
          omega
        have w1 : IntKind.u64.wrap ((B : Int) * 2) = (B2 : Int) := by rw [IntKind.wrap_u64]; omega
        have w2 : IntKind.u64.wrap ((B2 : Int) + (c : Int)) = (T : Int) := by rw [IntKind.wrap_u64]; omega
        have w3 : IntKind.u64.wrap ((A : Int) * 2) = (A2 : Int) := by rw [IntKind.wrap_u64]; omega
        have w4 : (A : Int).tdiv 9223372036854775808 = 0 := by
          rw [Int.tdiv_eq_ediv_of_nonneg (by omega)]
          omega
        have o1 : decide ((9223372036854775808 : Int) ≤ (B : Int)) = false := by simp; omega
        have i0 : (0 : Int) ≤ ((k + 1 : Nat) : Int) - 1 := by omega
        have i1 : ¬ (63 : Int) < ((k + 1 : Nat) : Int) - 1 := by omega
        have HM := Lib.hid hM
        by_cases hge : y ≤ T
        · obtain ⟨T3, hT3⟩ : ∃ v, T - y = v := ⟨_, rfl⟩
          obtain ⟨A3, hA3⟩ : ∃ v, A2 + 1 = v := ⟨_, rfl⟩
          have hu : n / 2 ^ k / y = A3 ∧ n / 2 ^ k % y = T3 := (Nat.div_mod_unique hy0).2 ⟨by rw [← hM, ← hA3, Nat.mul_add]; omega, by omega⟩
          have w5 : IntKind.u64.wrap ((T : Int) - (y : Int)) = (T3 : Int) := by rw [IntKind.wrap_u64]; omega
          have w6 : IntKind.u64.wrap ((A2 : Int) + 1) = (A3 : Int) := by rw [IntKind.wrap_u64]; omega
          have g1 : (y : Int) ≤ (T : Int) := by omega
          have HU := Lib.hid hu
          clear hA hB hM hdm hc1 hB2 hT hA2 hT3 hA3 hu
          go_wp2
          go_roundw
          case rel => exact ⟨k, A3, T3, by omega, by go_num, rfl, rfl, rfl, HU.out.1, HU.out.2, trivial⟩
          case measure => simp [intOf]
        · have hu : n / 2 ^ k / y = A2 ∧ n / 2 ^ k % y = T := (Nat.div_mod_unique hy0).2 ⟨hM, by omega⟩
          have g1 : (T : Int) < (y : Int) := by omega
          have HU := Lib.hid hu
          clear hA hB hM hdm hc1 hB2 hT hA2 hu
          go_wp2
          go_roundw
          case rel => exact ⟨k, A2, T, by omega, by go_num, rfl, rfl, rfl, HU.out.1, HU.out.2, trivial⟩
          case measure => simp [intOf]
    · obtain rfl : j = 0 := by omega
      obtain rfl : A = q := by rw [← hA, ← HQ.out]; simp
      obtain rfl : B = r := by rw [← hB, ← HR.out]; simp
      clear hA hB
      go_wp2
      exact bodyPost_ret (v := .tuple #[.int .u64 0, .int .u64 (A : Int), .int .u64 (B : Int)]) (by simp [results, Try.results43, go_sem]) rfl ⟨rfl, HW.out⟩

set_option maxRecDepth 100000 in
set_option maxHeartbeats 2000000 in
/-- glazierref01.MulDiv, where the product has one word: as fixed.MulDiv. -/
theorem rmuldiv_any (a b c : Int) (ha0 : -9223372036854775808 ≤ a) (ha1 : a ≤ 9223372036854775807) (hb0 : 0 ≤ b) (hb1 : b ≤ 9223372036854775807) (hc0 : 0 < c) (hc1 : c ≤ 9223372036854775807) (hm : a.natAbs * b.natAbs < 9223372036854775807) (w : World) :
    Calls Try.prog 19 #[.int .i64 a, .int .i64 b, .int .i64 c] w fun e w' => e = .returned (.tuple #[.int .i64 (a * b / c), .int .i64 0]) ∧ Below w.heap.size w w' := by
  obtain ⟨x, hx⟩ : ∃ x, a.natAbs = x := ⟨_, rfl⟩
  obtain ⟨y, hy⟩ : ∃ y, b.natAbs = y := ⟨_, rfl⟩
  obtain ⟨k, hk⟩ : ∃ k, c.natAbs = k := ⟨_, rfl⟩
  obtain ⟨m, hxy⟩ : ∃ m, x * y = m := ⟨_, rfl⟩
  obtain ⟨q, hq⟩ : ∃ q, m / k = q := ⟨_, rfl⟩
  obtain ⟨r, hr⟩ : ∃ r, m % k = r := ⟨_, rfl⟩
  have hq1 : q ≤ m := by rw [← hq]; exact Nat.div_le_self _ _
  have hr1 : r ≤ m := by rw [← hr]; exact Nat.mod_le _ _
  rw [hx, hy, hxy] at hm
  obtain ⟨g, hg⟩ : ∃ g, (decide (a < 0) && decide (0 < m)) = g := ⟨_, rfl⟩
  have SC := Lib.hid (fun w => (rsize_any c w (by omega) hc1).mono fun e w' (h : e = _ ∧ w = w') => show e = _ ∧ Below w.heap.size w w' from ⟨h.1, h.2 ▸ Below.refl _ _⟩)
  have TI := Lib.hid (times_any a b x y ha0 ha1 hb0 hb1 hx hy m hxy (by omega) g hg w)
  have PA := Lib.hid (parts_any m k q r g (by omega) (by omega) (by omega) hq hr)
  have NP := Lib.hid (show 0 ≤ a → (q : Int) = a * b / c from fun h => down_pos h hb0 hc0 (by rw [hx, hy, hxy]) hk hq hr)
  have NN := Lib.hid (show a < 0 → (r = 0 → -(q : Int) = a * b / c) ∧ (r ≠ 0 → -((q : Int) + 1) = a * b / c) from fun h => down_neg h hb0 hc0 (by rw [hx, hy, hxy]) hk hq hr)
  have ZZ := Lib.hid (show m = 0 → q = 0 ∧ r = 0 from fun h => by subst h; simp at hq hr; omega)
  rw [hk] at SC
  have HG := Lib.hid hg
  clear hx hy hk hxy hq hr hg
  generalize a * b / c = z at *
  have d3 : decide (c < 0) = false := by simp; omega
  have c0 : ¬ c = 0 := by omega
  go_enter Try.func19, Try.ntmps19
  go_wp2_with fail
  with_reducible refine (TI.out).mono ?_
  rintro e w1 ⟨rfl, hb⟩
  have K1 := Lib.hid hb
  clear hb TI
  cases g
  · have TL := Lib.hid (fun w => show Calls Try.prog 45 #[.int .u64 0, .int .u64 (q : Int), .bool false] w fun e w' => e = .returned (.tuple #[.int .i64 z, .int .i64 0]) ∧ w = w' by
      have k := told_any q false (by omega) w
      have hz : (q : Int) = z := by
        have hg := HG.out
        by_cases hs : a < 0
        · have h0 : m = 0 := by
            rw [Bool.and_eq_false_iff] at hg
            simp at hg
            omega
          obtain ⟨q0, r0⟩ := ZZ.out h0
          have := (NN.out hs).1 r0
          omega
        · exact NP.out (by omega)
      simp only [Bool.false_eq_true, if_false, hz] at k
      rw [hz]
      exact k)
    go_wp2
    obtain ⟨W, hW⟩ : ∃ W, W = w1.alloc (Obj.cells #[.int .u64 0, .int .u64 (m : Int), .bool false] 74) := ⟨_, rfl⟩
    rw [← hW]
    have c1 : W.cell? ⟨w1.heap.size, 0, none⟩ = some (.int .u64 0) := by rw [hW]; simp [go_sem]
    have c2 : W.cell? ⟨w1.heap.size, 1, none⟩ = some (.int .u64 (m : Int)) := by rw [hW]; simp [go_sem]
    have c3 : W.cell? ⟨w1.heap.size, 2, none⟩ = some (.bool false) := by rw [hW]; simp [go_sem]
    have KW := Lib.hid (show Below w.heap.size w W by rw [hW]; exact K1.out.alloc K1.out.size _)
    clear hW
    have g1 : ∀ x : Grow W, x.w.cell? ⟨w1.heap.size, 0, none⟩ = some (.int .u64 0) := fun x => x.cell c1
    have g2 : ∀ x : Grow W, x.w.cell? ⟨w1.heap.size, 1, none⟩ = some (.int .u64 (m : Int)) := fun x => x.cell c2
    have g3 : ∀ x : Grow W, x.w.cell? ⟨w1.heap.size, 2, none⟩ = some (.bool false) := fun x => x.cell c3
    have ne1 := Grow.ne W
    refine wp_region_grow (by kernel_rfl) (by kernel_rfl) ?_
    repeat (go_big_quiet_step (first | (go_at_call 44; with_reducible exact Grow.calls (SC.out _)) | (go_at_call 43; with_reducible exact Grow.calls (PA.out _))))
    refine wpQuiet_nil ?_
    rintro _ ⟨x, rfl⟩
    have KY := Lib.hid (bstep KW.out KW.out.size x.below)
    generalize x.w = Y at *
    clear g1 g2 g3 ne1 x c1 c2 c3
    go_wp2_with fail
    with_reducible refine (TL.out _).mono ?_
    rintro e t ⟨rfl, rfl⟩
    go_wp2
    go_ret2
    exact ⟨rfl, KY.out⟩
  · have hs : a < 0 ∧ 0 < m := by
      have hg := HG.out
      rw [Bool.and_eq_true] at hg
      simpa using hg
    obtain ⟨hs, hm0⟩ := hs
    obtain ⟨n0, n1⟩ := NN.out hs
    have N0 := Lib.hid n0
    have N1 := Lib.hid n1
    clear n0 n1
    by_cases h0 : r = 0
    · have TL := Lib.hid (fun w => show Calls Try.prog 45 #[.int .u64 0, .int .u64 (q : Int), .bool true] w fun e w' => e = .returned (.tuple #[.int .i64 z, .int .i64 0]) ∧ w = w' by
        have k := told_any q true (by omega) w
        simp only [if_true, N0.out h0] at k
        exact k)
      subst h0
      go_wp2
      obtain ⟨W, hW⟩ : ∃ W, W = w1.alloc (Obj.cells #[.int .u64 0, .int .u64 (m : Int), .bool true] 74) := ⟨_, rfl⟩
      rw [← hW]
      have c1 : W.cell? ⟨w1.heap.size, 0, none⟩ = some (.int .u64 0) := by rw [hW]; simp [go_sem]
      have c2 : W.cell? ⟨w1.heap.size, 1, none⟩ = some (.int .u64 (m : Int)) := by rw [hW]; simp [go_sem]
      have c3 : W.cell? ⟨w1.heap.size, 2, none⟩ = some (.bool true) := by rw [hW]; simp [go_sem]
      have KW := Lib.hid (show Below w.heap.size w W by rw [hW]; exact K1.out.alloc K1.out.size _)
      clear hW
      have g1 : ∀ x : Grow W, x.w.cell? ⟨w1.heap.size, 0, none⟩ = some (.int .u64 0) := fun x => x.cell c1
      have g2 : ∀ x : Grow W, x.w.cell? ⟨w1.heap.size, 1, none⟩ = some (.int .u64 (m : Int)) := fun x => x.cell c2
      have g3 : ∀ x : Grow W, x.w.cell? ⟨w1.heap.size, 2, none⟩ = some (.bool true) := fun x => x.cell c3
      have ne1 := Grow.ne W
      refine wp_region_grow (by kernel_rfl) (by kernel_rfl) ?_
      repeat (go_big_quiet_step (first | (go_at_call 44; with_reducible exact Grow.calls (SC.out _)) | (go_at_call 43; with_reducible exact Grow.calls (PA.out _))))
      refine wpQuiet_nil ?_
      rintro _ ⟨x, rfl⟩
      have KY := Lib.hid (bstep KW.out KW.out.size x.below)
      generalize x.w = Y at *
      clear g1 g2 g3 ne1 x c1 c2 c3
      go_wp2_with fail
      with_reducible refine (TL.out _).mono ?_
      rintro e t ⟨rfl, rfl⟩
      go_wp2
      go_ret2
      exact ⟨rfl, KY.out⟩
    · have TL := Lib.hid (fun w => show Calls Try.prog 45 #[.int .u64 0, .int .u64 ((q : Int) + 1), .bool true] w fun e w' => e = .returned (.tuple #[.int .i64 z, .int .i64 0]) ∧ w = w' by
        have k := told_any (q + 1) true (by omega) w
        simp only [if_true, Int.natCast_add, Int.natCast_one, N1.out h0] at k
        exact k)
      have hr0 : 0 < r := by omega
      have w6 : IntKind.u64.wrap ((q : Int) + 1) = (q : Int) + 1 := by rw [IntKind.wrap_u64]; omega
      go_wp2
      obtain ⟨W, hW⟩ : ∃ W, W = w1.alloc (Obj.cells #[.int .u64 0, .int .u64 (m : Int), .bool true] 74) := ⟨_, rfl⟩
      rw [← hW]
      have c1 : W.cell? ⟨w1.heap.size, 0, none⟩ = some (.int .u64 0) := by rw [hW]; simp [go_sem]
      have c2 : W.cell? ⟨w1.heap.size, 1, none⟩ = some (.int .u64 (m : Int)) := by rw [hW]; simp [go_sem]
      have c3 : W.cell? ⟨w1.heap.size, 2, none⟩ = some (.bool true) := by rw [hW]; simp [go_sem]
      have KW := Lib.hid (show Below w.heap.size w W by rw [hW]; exact K1.out.alloc K1.out.size _)
      clear hW
      have g1 : ∀ x : Grow W, x.w.cell? ⟨w1.heap.size, 0, none⟩ = some (.int .u64 0) := fun x => x.cell c1
      have g2 : ∀ x : Grow W, x.w.cell? ⟨w1.heap.size, 1, none⟩ = some (.int .u64 (m : Int)) := fun x => x.cell c2
      have g3 : ∀ x : Grow W, x.w.cell? ⟨w1.heap.size, 2, none⟩ = some (.bool true) := fun x => x.cell c3
      have ne1 := Grow.ne W
      refine wp_region_grow (by kernel_rfl) (by kernel_rfl) ?_
      repeat (go_big_quiet_step (first | (go_at_call 44; with_reducible exact Grow.calls (SC.out _)) | (go_at_call 43; with_reducible exact Grow.calls (PA.out _))))
      refine wpQuiet_nil ?_
      rintro _ ⟨x, rfl⟩
      have KY := Lib.hid (bstep KW.out KW.out.size x.below)
      generalize x.w = Y at *
      clear g1 g2 g3 ne1 x c1 c2 c3
      go_wp2_with fail
      with_reducible refine (TL.out _).mono ?_
      rintro e t ⟨rfl, rfl⟩
      go_wp2
      go_ret2
      exact ⟨rfl, KY.out⟩

theorem floor_any (a c : Int) (ha0 : -9223372036854775807 < a) (ha1 : a < 9223372036854775807) (hc0 : 0 < c) (hc1 : c ≤ 9223372036854775807) (w : World) :
    Calls Try.prog 65 #[.int .i64 a, .int .i64 c] w fun e w' => e = .returned (.tuple #[.int .i64 (a / c), .int .i64 0]) ∧ Below w.heap.size w w' := by
  have k := rmuldiv_any a 1 c (by omega) (by omega) (by omega) (by omega) hc0 hc1 (by simp; omega)
  rw [Int.mul_one] at k
  have RM := Lib.hid k
  clear k
  generalize a / c = z at *
  go_enter Try.func65, Try.ntmps65
  go_wp2_with fail
  with_reducible refine (RM.out _).mono ?_
  rintro e w1 ⟨rfl, hb⟩
  have K1 := Lib.hid hb
  clear hb
  go_wp2
  go_ret2
  exact ⟨rfl, K1.out⟩
theorem down_any (a c z : Int) (ha0 : -9223372036854775807 < a) (ha1 : a < 9223372036854775807) (hc0 : 0 < c) (hc1 : c ≤ 9223372036854775807) (hz : a / c = z) (w : World) :
    Calls Try.prog 47 #[.int .i64 a, .int .i64 c] w fun e w' => e = .returned (.int .i64 z) ∧ Below w.heap.size w w' := by
  have k := floor_any a c ha0 ha1 hc0 hc1
  rw [hz] at k
  have RM := Lib.hid k
  clear k hz
  go_enter Try.func47, Try.ntmps47
  go_wp2_with fail
  with_reducible refine (RM.out _).mono ?_
  rintro e w1 ⟨rfl, hb⟩
  have K1 := Lib.hid hb
  clear hb
  go_wp2
  go_ret
  exact ⟨rfl, K1.out⟩
end Go.Proofs.Ytehkcnmjkgelkaa.C
