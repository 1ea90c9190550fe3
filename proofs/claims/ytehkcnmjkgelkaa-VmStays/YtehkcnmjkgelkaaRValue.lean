/-
  The contract of the reference's value.
-/
import Derived.Test.YtehkcnmjkgelkaaRBits
import Derived.Test.YtehkcnmjkgelkaaCRefA
namespace Go.Proofs.Ytehkcnmjkgelkaa
open Go.RowKit C
attribute [local go_sem ↓] Go.wp_at_zero Go.wp_at_succ

theorem div_in {a : Int} {k : Nat} (ha : I32 a) : I32 (a / 2 ^ k) := by
  have h2 : 0 < 2 ^ k := Nat.pos_of_ne_zero (by simp)
  rw [two_pow]
  generalize 2 ^ k = K at *
  obtain ⟨a0, a1⟩ := ha
  have hK : (1 : Int) ≤ (K : Int) := by omega
  constructor
  · refine (Int.le_ediv_iff_mul_le (by omega)).2 ?_
    have := Int.mul_le_mul_of_nonneg_left hK (show (0 : Int) ≤ 2147483648 by decide)
    omega
  · refine Int.le_trans (Int.ediv_le_ediv (by omega) a1) (Int.ediv_le_self _ (by decide))
theorem one_shl {k : Nat} (h : k ≤ 31) : wrap64 (2 ^ k) = 2 ^ k := by
  have := pow_le31 h
  rw [two_pow]
  generalize 2 ^ k = K at *
  unfold wrap64
  omega
theorem mul_shl {a : Int} {k : Nat} (ha : I32 a) (h : k ≤ 31) : wrap64 (a * 2 ^ k) = a * 2 ^ k := by
  have := shl_in ha h
  generalize a * 2 ^ k = m at *
  unfold wrap64
  omega
set_option maxRecDepth 100000 in
set_option maxHeartbeats 4000000 in
theorem value_any (x : In) (i n : Int) (hx : x.ok) (h1 : oneB x i n = true) (h12 : x.o ≠ 12) (h13 : x.o ≠ 13) (h14 : x.o ≠ 14) (a b : Int) (ha : I32 a) (hb : I32 b) (w : World) :
    Calls Try.prog 35 #[.agg #[.int .u8 x.o, .int .u8 x.d, .int .u8 x.a, .int .u8 x.b, .int .i64 x.n], .int .i64 a, .int .i64 b] w fun e w' => e = .returned (.int .i64 (w32 (rck x a b))) ∧ Below w.heap.size w w' := by
  obtain ⟨-, -, -, -, hc, hs, -, ho⟩ := one_in hx h1
  have h0 := hx.o.1
  clear hx h1
  obtain ⟨o, d, ra, rb, N⟩ := x
  dsimp only at *
  have HB := Lib.hid (fun o => new_below w o)
  have HAB := Lib.hid (And.intro ha hb)
  rcases ops h0 with rfl | rfl | rfl | rfl | rfl | rfl | rfl | rfl | rfl | rfl | rfl | rfl | rfl | rfl | rfl | e
  case inr.inr.inr.inr.inr.inr.inr.inr.inr.inr.inr.inr.inr.inr.inr => omega
  case inl =>
    have hr : rck ⟨0, d, ra, rb, N⟩ a b = N := by simp [rck]
    rw [hr]
    clear hr
    rw [w32_id (hc rfl)]
    go_enter Try.func35, Try.ntmps35
    go_wp2_with fail
    go_ret
    exact ⟨rfl, (HB.out _)⟩
  case inr.inl =>
    have hr : rck ⟨1, d, ra, rb, N⟩ a b = a := by simp [rck]
    rw [hr]
    clear hr
    rw [w32_id ha]
    go_enter Try.func35, Try.ntmps35
    go_wp2_with fail
    go_ret
    exact ⟨rfl, (HB.out _)⟩
  case inr.inr.inl =>
    have hr : rck ⟨2, d, ra, rb, N⟩ a b = a + b := by simp [rck]
    rw [hr]
    clear hr
    have g : IntKind.i64.wrap (a + b) = a + b := by rw [IntKind.wrap_i64]; omega
    have HW := Lib.hid (fun w' => rwrap32_any (a + b) (by unfold I64; omega) w')
    generalize w32 (a + b) = R at *
    go_enter Try.func35, Try.ntmps35
    go_wp2_with (go_at_call 33; (with_reducible refine (HW.out _).mono ?_); rintro e w2 ⟨rfl, rfl⟩)
    go_ret
    exact ⟨rfl, (HB.out _)⟩
  case inr.inr.inr.inl =>
    have hr : rck ⟨3, d, ra, rb, N⟩ a b = a - b := by simp [rck]
    rw [hr]
    clear hr
    have g : IntKind.i64.wrap (a - b) = a - b := by rw [IntKind.wrap_i64]; omega
    have HW := Lib.hid (fun w' => rwrap32_any (a - b) (by unfold I64; omega) w')
    generalize w32 (a - b) = R at *
    go_enter Try.func35, Try.ntmps35
    go_wp2_with (go_at_call 33; (with_reducible refine (HW.out _).mono ?_); rintro e w2 ⟨rfl, rfl⟩)
    go_ret
    exact ⟨rfl, (HB.out _)⟩
  case inr.inr.inr.inr.inl =>
    have hr : rck ⟨4, d, ra, rb, N⟩ a b = a * b / 256 := by simp [rck]
    rw [hr]
    clear hr
    have hm := mul_i32 ha hb
    have g : IntKind.i64.wrap (a * b) = a * b := by rw [IntKind.wrap_i64]; omega
    obtain ⟨m, hmm⟩ : ∃ m, a * b = m := ⟨_, rfl⟩
    rw [hmm] at hm g ⊢
    have HW := Lib.hid (fun w' => rwrap32_any (m / 256) (by unfold I64; omega) w')
    have HD := Lib.hid (fun w' => down_any m 256 (m / 256) (by omega) (by omega) (by decide) (by decide) rfl w')
    generalize w32 (m / 256) = R at *
    generalize m / 256 = z at *
    clear hm
    go_enter Try.func35, Try.ntmps35
    go_wp2_with (first | (go_at_call 47; (with_reducible refine (HD.out _).mono ?_); rintro e w1 ⟨rfl, hb⟩; have HB1 := Lib.hid hb; clear hb) | (go_at_call 33; (with_reducible refine (HW.out _).mono ?_); rintro e w2 ⟨rfl, rfl⟩))
    go_ret
    exact ⟨rfl, bstep (HB.out _) (HB.out _).size HB1.out⟩
  case inr.inr.inr.inr.inr.inl =>
    have hr : rck ⟨5, d, ra, rb, N⟩ a b = min a b := by simp [rck]
    rw [hr]
    clear hr
    rw [w32_id (show I32 (min a b) by unfold I32; omega)]
    go_enter Try.func35, Try.ntmps35
    go_wp2_with fail
    go_ret
    exact ⟨rfl, (HB.out _)⟩
  case inr.inr.inr.inr.inr.inr.inl =>
    have hr : rck ⟨6, d, ra, rb, N⟩ a b = max a b := by simp [rck]
    rw [hr]
    clear hr
    rw [w32_id (show I32 (max a b) by unfold I32; omega)]
    go_enter Try.func35, Try.ntmps35
    go_wp2_with fail
    go_ret
    exact ⟨rfl, (HB.out _)⟩
  case inr.inr.inr.inr.inr.inr.inr.inl =>
    have hr : rck ⟨7, d, ra, rb, N⟩ a b = bits .and .i64 a b := by simp [rck]
    rw [hr]
    clear hr
    have HW := Lib.hid (fun w' => (rbits_any true a b (by unfold I64; omega) (by unfold I64; omega) w'))
    simp only [if_true] at HW
    generalize w32 (bits .and .i64 a b) = R at *
    go_enter Try.func35, Try.ntmps35
    go_wp2_with (go_at_call 59; (with_reducible refine (HW.out _).mono ?_); rintro e w2 ⟨rfl, rfl⟩)
    go_ret
    exact ⟨rfl, (HB.out _)⟩
  case inr.inr.inr.inr.inr.inr.inr.inr.inl =>
    have hr : rck ⟨8, d, ra, rb, N⟩ a b = bits .or .i64 a b := by simp [rck]
    rw [hr]
    clear hr
    have HW := Lib.hid (fun w' => (rbits_any false a b (by unfold I64; omega) (by unfold I64; omega) w'))
    simp only [Bool.false_eq_true, if_false] at HW
    generalize w32 (bits .or .i64 a b) = R at *
    go_enter Try.func35, Try.ntmps35
    go_wp2_with (go_at_call 59; (with_reducible refine (HW.out _).mono ?_); rintro e w2 ⟨rfl, rfl⟩)
    go_ret
    exact ⟨rfl, (HB.out _)⟩
  case inr.inr.inr.inr.inr.inr.inr.inr.inr.inl =>
    obtain ⟨k, rfl⟩ : ∃ k : Nat, N = k := ⟨N.toNat, by omega⟩
    have hk : k ≤ 31 := by omega
    have hr : rck ⟨9, d, ra, rb, k⟩ a b = a * 2 ^ k := by simp [rck]
    rw [hr]
    clear hr
    have g := one_shl hk
    have g2 := mul_shl ha hk
    have hm := shl_in ha hk
    obtain ⟨m, hmm⟩ : ∃ m, a * 2 ^ k = m := ⟨_, rfl⟩
    rw [hmm] at g2 hm ⊢
    have HW := Lib.hid (fun w' => rwrap32_any m (by unfold I64; omega) w')
    generalize w32 m = R at *
    clear hm
    go_enter Try.func35, Try.ntmps35
    go_wp2_with (go_at_call 33; (with_reducible refine (HW.out _).mono ?_); rintro e w2 ⟨rfl, rfl⟩)
    go_ret
    exact ⟨rfl, (HB.out _)⟩
  case inr.inr.inr.inr.inr.inr.inr.inr.inr.inr.inl =>
    obtain ⟨k, rfl⟩ : ∃ k : Nat, N = k := ⟨N.toNat, by omega⟩
    have hk : k ≤ 31 := by omega
    have hr : rck ⟨10, d, ra, rb, k⟩ a b = a / 2 ^ k := by simp [rck]
    rw [hr]
    clear hr
    have g := one_shl hk
    have hq := div_in (k := k) ha
    have hp := pow_le31 hk
    have h2 : 0 < 2 ^ k := Nat.pos_of_ne_zero (by simp)
    rw [w32_id hq]
    have HD := Lib.hid (fun w' => down_any a (2 ^ k) (a / 2 ^ k) (by omega) (by omega) (by rw [two_pow]; omega) (by rw [two_pow]; omega) rfl w')
    generalize a / 2 ^ k = z at *
    clear hq hp h2
    go_enter Try.func35, Try.ntmps35
    go_wp2_with (go_at_call 47; (with_reducible refine (HD.out _).mono ?_); rintro e w1 ⟨rfl, hb⟩; have HB1 := Lib.hid hb; clear hb)
    go_ret
    exact ⟨rfl, bstep (HB.out _) (HB.out _).size HB1.out⟩
  case inr.inr.inr.inr.inr.inr.inr.inr.inr.inr.inr.inl =>
    by_cases hab : a < b
    · have hr : w32 (rck ⟨11, d, ra, rb, N⟩ a b) = 1 := by simp [rck, hab, w32]
      rw [hr]
      go_enter Try.func35, Try.ntmps35
      go_wp2_with fail
      go_ret
      exact ⟨rfl, HB.out _⟩
    · have hr : w32 (rck ⟨11, d, ra, rb, N⟩ a b) = 0 := by simp [rck, hab, w32]
      rw [hr]
      go_enter Try.func35, Try.ntmps35
      go_wp2_with fail
      go_ret
      exact ⟨rfl, HB.out _⟩
  all_goals omega
end Go.Proofs.Ytehkcnmjkgelkaa
