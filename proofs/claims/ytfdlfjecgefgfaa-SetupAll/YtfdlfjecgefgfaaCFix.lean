/-
  The contracts of fixed.MulDiv and of what it calls, for numbers whose product fits.
-/
import Derived.Test.YtfdlfjecgefgfaaCCells
import Derived.Lib.Mul64
import Derived.Laws.Bits64b
namespace Go.Proofs.Ytfdlfjecgefgfaa.C
open Go.RowKit
attribute [local go_sem ↓] Go.wp_at_zero Go.wp_at_succ

theorem maskN (a : Nat) (ha : a < 18446744073709551616) : bits .and .u64 (a : Int) 4294967295 = ((a % 4294967296 : Nat) : Int) := by
  have h := bits_and_u64_nat a 4294967295 ha (by omega)
  have e : a &&& 4294967295 = a % 4294967296 := Nat.and_two_pow_sub_one_eq_mod a 32
  rw [e] at h
  exact h
theorem divN (a : Nat) : (a : Int) / 4294967296 = ((a / 4294967296 : Nat) : Int) := by omega
theorem mulN (a b : Nat) : (a : Int) * (b : Int) = ((a * b : Nat) : Int) := (Int.natCast_mul a b).symm
theorem addN (a b : Nat) : (a : Int) + (b : Int) = ((a + b : Nat) : Int) := (Int.natCast_add a b).symm
theorem wrapN (a : Nat) (ha : a < 18446744073709551616) : IntKind.u64.wrap (a : Int) = (a : Int) := by rw [IntKind.wrap_u64]; omega
theorem wrapM (a : Nat) : IntKind.u64.wrap (a : Int) = ((a % 18446744073709551616 : Nat) : Int) := by rw [IntKind.wrap_u64]; omega

set_option maxHeartbeats 1000000 in
theorem mul64_any (x y : Nat) (hx : x < 18446744073709551616) (hy : y < 18446744073709551616) (w : World) :
    Calls Try.prog 61 #[.int .u64 x, .int .u64 y] w fun e w' => e = .returned (.tuple #[.int .u64 ((x * y / 18446744073709551616 : Nat) : Int), .int .u64 ((x * y % 18446744073709551616 : Nat) : Int)]) ∧ w = w' := by
  obtain ⟨bd, bt, bw, hhi⟩ := Lib.mul64_hi x y hx hy
  have ba := Lib.half_mul_le (a := x / 4294967296) (b := y / 4294967296) (by omega) (by omega)
  have bb := Lib.half_mul_le (a := x / 4294967296) (b := y % 4294967296) (by omega) (by omega)
  have bc := Lib.half_mul_le (a := x % 4294967296) (b := y / 4294967296) (by omega) (by omega)
  have ba' : x / 4294967296 * (y / 4294967296) < 18446744073709551616 := by omega
  have bb' : x / 4294967296 * (y % 4294967296) < 18446744073709551616 := by omega
  have bc' : x % 4294967296 * (y / 4294967296) < 18446744073709551616 := by omega
  have bh1 : x / 4294967296 * (y / 4294967296) + (x / 4294967296 * (y % 4294967296) + x % 4294967296 * (y % 4294967296) / 4294967296) / 4294967296 < 18446744073709551616 := by omega
  have bh : x / 4294967296 * (y / 4294967296) + (x / 4294967296 * (y % 4294967296) + x % 4294967296 * (y % 4294967296) / 4294967296) / 4294967296 + ((x / 4294967296 * (y % 4294967296) + x % 4294967296 * (y % 4294967296) / 4294967296) % 4294967296 + x % 4294967296 * (y / 4294967296)) / 4294967296 < 18446744073709551616 := by omega
  go_enter Try.func61, Try.ntmps61
  go_wp2
  simp only [maskN x hx, maskN y hy, divN, mulN, addN, wrapN _ bd, wrapN _ bb', wrapN _ bt, maskN _ bt, wrapN _ bc', wrapN _ bw, wrapN _ ba', wrapN _ bh1, wrapN _ bh, wrapM (x * y)]
  rw [hhi]
  go_ret2
  exact ⟨rfl, rfl⟩

/-- A number without its sign. -/
theorem size_any (n : Int) (w : World) (h0 : -9223372036854775808 ≤ n) (h1 : n ≤ 9223372036854775807) :
    Calls Try.prog 62 #[.int .i64 n] w fun e w' => e = .returned (.int .u64 (n.natAbs : Int)) ∧ w = w' := by
  by_cases h : n < 0
  · have e1 : IntKind.u64.wrap n = n + 18446744073709551616 := by rw [IntKind.wrap_u64]; omega
    have e2 : IntKind.u64.wrap (-(n + 18446744073709551616)) = (n.natAbs : Int) := by rw [IntKind.wrap_u64]; omega
    go_enter Try.func62, Try.ntmps62
    go_wp2
    go_ret
    exact ⟨rfl, rfl⟩
  · have e1 : IntKind.u64.wrap n = (n.natAbs : Int) := by rw [IntKind.wrap_u64]; omega
    go_enter Try.func62, Try.ntmps62
    go_wp2
    go_ret
    exact ⟨rfl, rfl⟩

theorem mul64_small (x y m : Nat) (hx : x < 18446744073709551616) (hy : y < 18446744073709551616) (h : x * y = m) (hm : m < 9223372036854775808) (w : World) :
    Calls Try.prog 61 #[.int .u64 x, .int .u64 y] w fun e w' => e = .returned (.tuple #[.int .u64 0, .int .u64 (m : Int)]) ∧ w = w' := by
  have e1 : x * y / 18446744073709551616 = 0 := by omega
  have e2 : x * y % 18446744073709551616 = m := by omega
  have k := mul64_any x y hx hy w
  rw [e1, e2] at k
  exact k

theorem div64_zero (lo y q r : Nat) (hlo : lo < 18446744073709551616) (hy0 : 0 < y) (hy : y < 18446744073709551616) (hq : lo / y = q) (hr : lo % y = r) (w : World) :
    Calls Try.prog 63 #[.int .u64 0, .int .u64 (lo : Int), .int .u64 (y : Int)] w fun e w' => e = .returned (.tuple #[.int .u64 (q : Int), .int .u64 (r : Int)]) ∧ Below w.heap.size w w' := by
  have e1 : (lo : Int).tdiv (y : Int) = (q : Int) := by rw [← hq]; rfl
  have e2 : (lo : Int).tmod (y : Int) = (r : Int) := by rw [← hr]; rfl
  have q1 : q < 18446744073709551616 := by rw [← hq]; exact Nat.lt_of_le_of_lt (Nat.div_le_self _ _) hlo
  have q2 : r < 18446744073709551616 := by rw [← hr]; exact Nat.lt_of_le_of_lt (Nat.mod_le _ _) hlo
  have e3 : IntKind.u64.wrap (q : Int) = q := wrapN _ q1
  have e4 : IntKind.u64.wrap (r : Int) = r := wrapN _ q2
  clear hq hr
  go_enter Try.func63, Try.ntmps63
  go_wp2
  go_quiet (fail)
  go_wp2
  go_ret2
  exact ⟨rfl, ⟨rfl, rfl, rfl, Nat.le_refl _, fun _ _ => rfl⟩⟩

theorem signed_any (m : Nat) (neg : Bool) (hm : m < 9223372036854775808) (w : World) :
    Calls Try.prog 64 #[.int .u64 (m : Int), .bool neg] w fun e w' => e = .returned (.tuple #[.int .i64 (if neg = true then -(m : Int) else m), .int .i64 0]) ∧ w = w' := by
  cases neg
  · have e1 : IntKind.i64.wrap (m : Int) = m := by rw [IntKind.wrap_i64]; omega
    go_enter Try.func64, Try.ntmps64
    go_wp2
    go_ret2
    exact ⟨rfl, rfl⟩
  · by_cases h0 : m = 0
    · subst h0
      go_enter Try.func64, Try.ntmps64
      go_wp2
      go_ret2
      exact ⟨rfl, rfl⟩
    · have e1 : IntKind.u64.wrap (-(m : Int)) = 18446744073709551616 - m := by rw [IntKind.wrap_u64]; omega
      have e2 : IntKind.i64.wrap (18446744073709551616 - (m : Int)) = -m := by rw [IntKind.wrap_i64]; omega
      go_enter Try.func64, Try.ntmps64
      go_wp2
      go_ret2
      exact ⟨rfl, rfl⟩

theorem div_unique {n c q r : Int} (hc : 0 < c) (h : r + c * q = n) (h0 : 0 ≤ r) (h1 : r < c) : n / c = q :=
  ((Int.ediv_emod_unique hc).2 ⟨h, h0, h1⟩).1

theorem down_pos {a b c : Int} {m k q r : Nat} (ha : 0 ≤ a) (hb : 0 ≤ b) (hc : 0 < c) (hm : a.natAbs * b.natAbs = m) (hk : c.natAbs = k) (hq : m / k = q) (hr : m % k = r) : (q : Int) = a * b / c := by
  have e1 : (a.natAbs : Int) = a := by omega
  have e2 : (b.natAbs : Int) = b := by omega
  have e3 : (k : Int) = c := by omega
  have e4 : a * b = (m : Int) := by rw [← hm, Int.natCast_mul, e1, e2]
  have e5 := Nat.mod_add_div m k
  have e6 := Nat.mod_lt m (show 0 < k by omega)
  rw [hq, hr] at e5
  rw [hr] at e6
  have e7 : (r : Int) + c * q = (m : Int) := by rw [← e5, ← e3]; simp
  rw [e4]
  exact (div_unique hc e7 (by omega) (by omega)).symm

theorem down_neg {a b c : Int} {m k q r : Nat} (ha : a < 0) (hb : 0 ≤ b) (hc : 0 < c) (hm : a.natAbs * b.natAbs = m) (hk : c.natAbs = k) (hq : m / k = q) (hr : m % k = r) :
    (r = 0 → -(q : Int) = a * b / c) ∧ (r ≠ 0 → -((q : Int) + 1) = a * b / c) := by
  have e1 : (a.natAbs : Int) = -a := by omega
  have e2 : (b.natAbs : Int) = b := by omega
  have e3 : (k : Int) = c := by omega
  have e4 : a * b = -(m : Int) := by rw [← hm, Int.natCast_mul, e1, e2, Int.neg_mul, Int.neg_neg]
  have e5 := Nat.mod_add_div m k
  have e6 := Nat.mod_lt m (show 0 < k by omega)
  rw [hq, hr] at e5
  rw [hr] at e6
  have e7 : (r : Int) + c * q = (m : Int) := by rw [← e5, ← e3]; simp
  rw [e4]
  constructor
  · intro h
    refine (div_unique hc (r := 0) ?_ (by omega) hc).symm
    rw [Int.mul_neg]
    omega
  · intro h
    refine (div_unique hc (r := c - r) ?_ (by omega) (by omega)).symm
    rw [Int.mul_neg, Int.mul_add]
    omega

set_option maxHeartbeats 1000000 in
set_option maxRecDepth 100000 in
theorem muldiv_any (a b c : Int) (ha0 : -9223372036854775808 ≤ a) (ha1 : a ≤ 9223372036854775807) (hb0 : 0 ≤ b) (hb1 : b ≤ 9223372036854775807) (hc0 : 0 < c) (hc1 : c ≤ 9223372036854775807) (hm : a.natAbs * b.natAbs < 9223372036854775807) (w : World) :
    Calls Try.prog 57 #[.int .i64 a, .int .i64 b, .int .i64 c] w fun e w' => e = .returned (.tuple #[.int .i64 (a * b / c), .int .i64 0]) ∧ Below w.heap.size w w' := by
  obtain ⟨x, hx⟩ : ∃ x, a.natAbs = x := ⟨_, rfl⟩
  obtain ⟨y, hy⟩ : ∃ y, b.natAbs = y := ⟨_, rfl⟩
  obtain ⟨k, hk⟩ : ∃ k, c.natAbs = k := ⟨_, rfl⟩
  obtain ⟨m, hxy⟩ : ∃ m, x * y = m := ⟨_, rfl⟩
  obtain ⟨q, hq⟩ : ∃ q, m / k = q := ⟨_, rfl⟩
  obtain ⟨r, hr⟩ : ∃ r, m % k = r := ⟨_, rfl⟩
  have hq1 : q ≤ m := by rw [← hq]; exact Nat.div_le_self _ _
  rw [hx, hy, hxy] at hm
  have SA := Lib.hid (size_any a w ha0 ha1)
  have SB := Lib.hid (size_any b w (by omega) hb1)
  have SC := Lib.hid (size_any c w (by omega) hc1)
  have MU := Lib.hid (mul64_small x y m (by omega) (by omega) hxy (by omega) w)
  have DI := Lib.hid (div64_zero m k q r (by omega) (by omega) (by omega) hq hr w)
  have NP := Lib.hid (show 0 ≤ a → (q : Int) = a * b / c from fun h => down_pos h hb0 hc0 (by rw [hx, hy, hxy]) hk hq hr)
  have NN := Lib.hid (show a < 0 → (r = 0 → -(q : Int) = a * b / c) ∧ (r ≠ 0 → -((q : Int) + 1) = a * b / c) from fun h => down_neg h hb0 hc0 (by rw [hx, hy, hxy]) hk hq hr)
  rw [hx] at SA
  rw [hy] at SB
  rw [hk] at SC
  have hk0 : 0 < k := by omega
  have hk1 : k < 9223372036854775808 := by omega
  clear hx hy hk hxy hq hr
  generalize a * b / c = z at *
  by_cases hs : a < 0
  · obtain ⟨n0, n1⟩ := NN.out hs
    have N1 := Lib.hid n1
    have N0 := Lib.hid n0
    clear n0 n1 NN NP
    by_cases h0 : r = 0
    · go_enter Try.func57, Try.ntmps57
      go_wp2_with (first
        | (go_at_call 62; with_reducible refine (SA.out).mono ?_; rintro e w' ⟨rfl, rfl⟩)
        | (go_at_call 62; with_reducible refine (SB.out).mono ?_; rintro e w' ⟨rfl, rfl⟩)
        | (go_at_call 62; with_reducible refine (SC.out).mono ?_; rintro e w' ⟨rfl, rfl⟩)
        | (go_at_call 61; with_reducible refine (MU.out).mono ?_; rintro e w' ⟨rfl, rfl⟩)
        | (go_at_call 63; with_reducible refine (DI.out).mono ?_; rintro e w' ⟨rfl, hb⟩; have HB := Lib.hid hb; clear hb)
        | (go_at_call 64; with_reducible refine (signed_any q true (by omega) _).mono ?_; rintro e w' ⟨rfl, rfl⟩))
      go_ret2
      exact ⟨by rw [← N0.out h0]; rfl, HB.out⟩
    · have S1 : ∀ w, Calls Try.prog 64 #[.int .u64 ((q : Int) + 1), .bool true] w fun e w' => e = .returned (.tuple #[.int .i64 z, .int .i64 0]) ∧ w = w' := by
        intro w
        have k := signed_any (q + 1) true (by omega) w
        simp only [if_true, Int.natCast_add, Int.natCast_one, N1.out h0] at k
        exact k
      have HS := Lib.hid S1
      clear S1
      go_enter Try.func57, Try.ntmps57
      go_wp2_with (first
        | (go_at_call 62; with_reducible refine (SA.out).mono ?_; rintro e w' ⟨rfl, rfl⟩)
        | (go_at_call 62; with_reducible refine (SB.out).mono ?_; rintro e w' ⟨rfl, rfl⟩)
        | (go_at_call 62; with_reducible refine (SC.out).mono ?_; rintro e w' ⟨rfl, rfl⟩)
        | (go_at_call 61; with_reducible refine (MU.out).mono ?_; rintro e w' ⟨rfl, rfl⟩)
        | (go_at_call 63; with_reducible refine (DI.out).mono ?_; rintro e w' ⟨rfl, hb⟩; have HB := Lib.hid hb; clear hb)
        | (go_at_call 64; with_reducible refine (HS.out _).mono ?_; rintro e w' ⟨rfl, rfl⟩))
      go_ret2
      exact ⟨rfl, HB.out⟩
  · have n0 := Lib.hid (NP.out (by omega))
    have d1 : decide (a < 0) = false := by simpa using hs
    have d2 : decide (b < 0) = false := by simpa using hb0
    have d3 : decide (c < 0) = false := by simp; omega
    clear NN NP
    go_enter Try.func57, Try.ntmps57
    go_wp2_with (first
      | (go_at_call 62; with_reducible refine (SA.out).mono ?_; rintro e w' ⟨rfl, rfl⟩)
      | (go_at_call 62; with_reducible refine (SB.out).mono ?_; rintro e w' ⟨rfl, rfl⟩)
      | (go_at_call 62; with_reducible refine (SC.out).mono ?_; rintro e w' ⟨rfl, rfl⟩)
      | (go_at_call 61; with_reducible refine (MU.out).mono ?_; rintro e w' ⟨rfl, rfl⟩)
      | (go_at_call 63; with_reducible refine (DI.out).mono ?_; rintro e w' ⟨rfl, hb⟩; have HB := Lib.hid hb; clear hb)
      | (go_at_call 64; with_reducible refine (signed_any q false (by omega) _).mono ?_; rintro e w' ⟨rfl, rfl⟩))
    go_ret2
    exact ⟨by rw [← n0.out]; rfl, HB.out⟩
end Go.Proofs.Ytfdlfjecgefgfaa.C
