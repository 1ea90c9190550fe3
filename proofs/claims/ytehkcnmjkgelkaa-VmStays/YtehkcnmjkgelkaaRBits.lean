/-
  The contract of the reference's bits.
-/
import Derived.Test.YtehkcnmjkgelkaaRck
namespace Go.Proofs.Ytehkcnmjkgelkaa
open Go.RowKit C
attribute [local go_sem ↓] Go.wp_at_zero Go.wp_at_succ

def bitsN (both : Bool) (X Y : Nat) : Nat := if both then X &&& Y else X ||| Y
theorem mod_step (Z i : Nat) : Z % 2 ^ (i + 1) = Z % 2 ^ i + 2 ^ i * (if Z.testBit i then 1 else 0) := by
  rw [Nat.pow_succ, Nat.mod_mul]
  congr 2
  rw [Nat.testBit_eq_decide_div_mod_eq]
  by_cases h : Z / 2 ^ i % 2 = 1
  · rw [h]; rfl
  · have : Z / 2 ^ i % 2 = 0 := by omega
    rw [this]; rfl
theorem bitsN_test (both : Bool) (X Y i : Nat) : (bitsN both X Y).testBit i = if both then X.testBit i && Y.testBit i else X.testBit i || Y.testBit i := by
  unfold bitsN
  cases both
  · simp
  · simp
theorem test_bit {X i b : Nat} (h : ((X : Int) / 2 ^ i).tmod 2 = (b : Int)) : X.testBit i = decide (b = 1) := by
  have e : ((X : Int) / 2 ^ i).tmod 2 = ((X / 2 ^ i % 2 : Nat) : Int) := by
    rw [two_pow, ← Int.natCast_ediv, show (2 : Int) = ((2 : Nat) : Int) from rfl, ← Int.ofNat_tmod]
  rw [Nat.testBit_eq_decide_div_mod_eq]
  have : X / 2 ^ i % 2 = b := by rw [e] at h; exact Int.ofNat.inj h
  rw [this]
theorem lo_nat (a : Int) : (BitVec.ofInt 64 a).toNat % 4294967296 = (a % 4294967296).toNat := by
  rw [BitVec.toNat_ofInt]
  omega
theorem w32_mod {m n : Int} (h : m % 4294967296 = n % 4294967296) : w32 m = w32 n := by unfold w32; omega
theorem bits_w32 (both : Bool) (a b : Int) : w32 (bits (if both then .and else .or) .i64 a b) = w32 ((bitsN both (a % 4294967296).toNat (b % 4294967296).toNat : Nat) : Int) := by
  cases both
  · show w32 (IntKind.i64.wrap ((BitVec.ofInt 64 a ||| BitVec.ofInt 64 b).toNat : Int)) = w32 (((a % 4294967296).toNat ||| (b % 4294967296).toNat : Nat) : Int)
    rw [w32_i64]
    apply w32_mod
    rw [BitVec.toNat_or, ← lo_nat a, ← lo_nat b, ← Nat.or_mod_two_pow (n := 32)]
    omega
  · show w32 (IntKind.i64.wrap ((BitVec.ofInt 64 a &&& BitVec.ofInt 64 b).toNat : Int)) = w32 (((a % 4294967296).toNat &&& (b % 4294967296).toNat : Nat) : Int)
    rw [w32_i64]
    apply w32_mod
    rw [BitVec.toNat_and, ← lo_nat a, ← lo_nat b, ← Nat.and_mod_two_pow (n := 32)]
    omega
theorem bitsN_lt (both : Bool) {X Y : Nat} (hX : X < 2 ^ 32) (hY : Y < 2 ^ 32) : bitsN both X Y < 2 ^ 32 := by
  unfold bitsN
  cases both
  · exact Nat.or_lt_two_pow hX hY
  · exact Nat.and_lt_two_pow X hY
theorem bit_b (X k : Nat) : ∃ b : Nat, b < 2 ∧ ((X : Int) / 2 ^ k).tmod 2 = (b : Int) := by
  obtain ⟨b, h, -, e⟩ := half_of X k
  exact ⟨b, h, e⟩
theorem pow_le31 {k : Nat} (h : k ≤ 31) : 2 ^ k ≤ 2147483648 := by
  have := Nat.pow_le_pow_right (n := 2) (by decide) h
  exact this

theorem add_pow {k V : Nat} (h : 2 ^ k ≤ 2147483648) (hV : V < 9223372036854775808 - 2147483648) : wrap64 ((V : Int) + wrap64 (2 ^ k)) = ((V + 2 ^ k : Nat) : Int) := by
  rw [two_pow]
  generalize 2 ^ k = K at *
  unfold wrap64
  omega
set_option maxRecDepth 100000 in
set_option maxHeartbeats 4000000 in
theorem rbits_any (both : Bool) (a b : Int) (ha : I64 a) (hb : I64 b) (w : World) :
    Calls Try.prog 59 #[.int .i64 a, .int .i64 b, .bool both] w fun e w' => e = .returned (.int .i64 (w32 (bits (if both then .and else .or) .i64 a b))) ∧ w = w' := by
  rw [bits_w32]
  obtain ⟨X, hX⟩ : ∃ X, (a % 4294967296).toNat = X := ⟨_, rfl⟩
  obtain ⟨Y, hY⟩ : ∃ Y, (b % 4294967296).toNat = Y := ⟨_, rfl⟩
  have hX2 : X < 2 ^ 32 := by omega
  have hY2 : Y < 2 ^ 32 := by omega
  have hx : (IntKind.u64.wrap a).tmod 4294967296 = (X : Int) := by
    rw [IntKind.wrap_u64, Int.tmod_eq_emod_of_nonneg (by omega)]; omega
  have hy : (IntKind.u64.wrap b).tmod 4294967296 = (Y : Int) := by
    rw [IntKind.wrap_u64, Int.tmod_eq_emod_of_nonneg (by omega)]; omega
  rw [hX, hY]
  obtain ⟨Z, hZ⟩ : ∃ Z, bitsN both X Y = Z := ⟨_, rfl⟩
  have hZ2 : Z < 2 ^ 32 := hZ ▸ bitsN_lt both hX2 hY2
  have HT := Lib.hid (fun i => hZ ▸ bitsN_test both X Y i)
  have HS := Lib.hid (mod_step Z)
  have HX := Lib.hid (fun k => bit_b X k)
  have HY := Lib.hid (fun k => bit_b Y k)
  have HL := Lib.hid (fun (k : Nat) => Nat.mod_lt Z (show 0 < 2 ^ k from Nat.pos_of_ne_zero (by simp)))
  have HE := Lib.hid (show Z % 2 ^ 32 = Z from Nat.mod_eq_of_lt hZ2)
  have HW := Lib.hid (fun w' => rwrap32_any (Z : Int) (by unfold I64; omega) w')
  have HM := Lib.hid (Nat.mod_one Z)
  have HA := Lib.hid ha
  have HB := Lib.hid hb
  rw [hZ]
  clear ha hb hX hY hZ hZ2
  have hX3 : X < 4294967296 := hX2
  have hY3 : Y < 4294967296 := hY2
  clear hX2 hY2
  generalize w32 (Z : Int) = R at *
  go_enter Try.func59, Try.ntmps59
  go_wp2_with fail
  go_loopw [7, 10] (fun o i wr => ∃ k : Nat, k ≤ 32 ∧ i = .int .i64 k ∧ o = .int .i64 ((Z % 2 ^ k : Nat) : Int) ∧ wr = w) (fun _ i _ => 32 - (intOf i).toNat)
  case atStart => exact ⟨0, by omega, rfl, by rw [Nat.pow_zero, HM.out]; rfl, rfl⟩
  case round =>
    obtain ⟨k, hk, rfl, rfl, rfl⟩ := hrel
    by_cases hlt : k < 32
    · obtain ⟨p, hp, ep⟩ := HX.out k
      obtain ⟨q, hq, eq⟩ := HY.out k
      have tp := test_bit ep
      have tq := test_bit eq
      have hs := HS.out k
      rw [HT.out k, tp, tq] at hs
      have hl := HL.out k
      have hpw := pow_le31 (show k ≤ 31 by omega)
      have hlt' : (k : Int) < 32 := by omega
      clear tp tq
      have hp2 : p = 0 ∨ p = 1 := by omega
      have hq2 : q = 0 ∨ q = 1 := by omega
      have HSS := Lib.hid hs
      have HLL := Lib.hid hl
      generalize Z % 2 ^ k = V at *
      clear hs hl hp hq
      rcases hp2 with rfl | rfl
      all_goals rcases hq2 with rfl | rfl
      all_goals cases both
      all_goals go_wp2_with fail
      all_goals
        refine ⟨⟨k + 1, by omega, by simp, ?_, trivial⟩, by simp [intOf]; omega⟩
        have h := HSS.out
        simp at h
        first
          | (rw [h]; done)
          | (have hV : V < 2147483648 * 2 := by have := HLL.out; omega
             rw [add_pow hpw (by omega), h])
    · obtain rfl : k = 32 := by omega
      rw [HE.out]
      go_wp2_with (go_at_call 33; (with_reducible refine (HW.out _).mono ?_); rintro e w1 ⟨rfl, rfl⟩)
      go_ret
      exact ⟨rfl, rfl⟩
end Go.Proofs.Ytehkcnmjkgelkaa
