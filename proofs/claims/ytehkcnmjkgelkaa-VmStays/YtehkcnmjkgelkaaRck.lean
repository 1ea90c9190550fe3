/-
  The contracts of reckoned and next.
-/
import Derived.Test.YtehkcnmjkgelkaaRegs
import Derived.Lib.MinMax
namespace Go.Proofs.Ytehkcnmjkgelkaa
open Go.RowKit C
attribute [local go_sem ↓] Go.wp_at_zero Go.wp_at_succ

theorem mul_i32 {a b : Int} (ha : -2147483648 ≤ a ∧ a ≤ 2147483647) (hb : -2147483648 ≤ b ∧ b ≤ 2147483647) : -4611686018427387904 ≤ a * b ∧ a * b ≤ 4611686018427387904 := by
  have h : (a * b).natAbs ≤ 2147483648 * 2147483648 := by
    rw [Int.natAbs_mul]
    exact Nat.mul_le_mul (by omega) (by omega)
  omega
theorem two_pow (k : Nat) : (2 : Int) ^ k = ((2 ^ k : Nat) : Int) := by rw [Int.natCast_pow]; rfl
theorem shl_in {a : Int} {k : Nat} (ha : -2147483648 ≤ a ∧ a ≤ 2147483647) (hk : k ≤ 31) : -4611686018427387904 ≤ a * 2 ^ k ∧ a * 2 ^ k ≤ 4611686018427387904 := by
  have h2 : 2 ^ k ≤ 2 ^ 31 := Nat.pow_le_pow_right (by decide) hk
  have h : (a * 2 ^ k).natAbs ≤ 2147483648 * 2147483648 := by
    rw [two_pow, Int.natAbs_mul]
    exact Nat.mul_le_mul (by omega) (by rw [Int.natAbs_natCast]; exact h2)
  omega
abbrev I32 (n : Int) : Prop := -2147483648 ≤ n ∧ n ≤ 2147483647
set_option maxRecDepth 100000 in
set_option maxHeartbeats 4000000 in
theorem reckoned_any (x : In) (i n : Int) (hx : x.ok) (h1 : oneB x i n = true) (h12 : x.o ≠ 12) (h13 : x.o ≠ 13) (h14 : x.o ≠ 14) (a b : Int) (ha : I32 a) (hb : I32 b) (w : World) :
    Calls Try.prog 28 #[.agg #[.int .u8 x.o, .int .u8 x.d, .int .u8 x.a, .int .u8 x.b, .int .i64 x.n], .int .i64 a, .int .i64 b] w fun e w' => e = .returned (.int .i64 (rck x a b)) ∧ Below w.heap.size w w' := by
  obtain ⟨-, -, -, -, -, hs, -, ho⟩ := one_in hx h1
  have h0 := hx.o.1
  have hN := hx.n
  clear hx h1
  obtain ⟨o, d, ra, rb, N⟩ := x
  dsimp only at *
  have HB := Lib.hid (fun o => new_below w o)
  rcases ops h0 with rfl | rfl | rfl | rfl | rfl | rfl | rfl | rfl | rfl | rfl | rfl | rfl | rfl | rfl | rfl | e
  case inr.inr.inr.inr.inr.inr.inr.inr.inr.inr.inr.inr.inr.inr.inr => omega
  case inl =>
    go_enter Try.func28, Try.ntmps28
    go_wp2_with fail
    go_ret
    exact ⟨rfl, HB.out _⟩
  case inr.inl =>
    go_enter Try.func28, Try.ntmps28
    go_wp2_with fail
    go_ret
    exact ⟨rfl, HB.out _⟩
  case inr.inr.inl =>
    have g : IntKind.i64.wrap (a + b) = a + b := by rw [IntKind.wrap_i64]; omega
    go_enter Try.func28, Try.ntmps28
    go_wp2_with fail
    go_ret
    exact ⟨rfl, HB.out _⟩
  case inr.inr.inr.inl =>
    have g : IntKind.i64.wrap (a - b) = a - b := by rw [IntKind.wrap_i64]; omega
    go_enter Try.func28, Try.ntmps28
    go_wp2_with fail
    go_ret
    exact ⟨rfl, HB.out _⟩
  case inr.inr.inr.inr.inl =>
    have hm := mul_i32 ha hb
    have g : IntKind.i64.wrap (a * b) = a * b := by rw [IntKind.wrap_i64]; omega
    have g2 : IntKind.i64.wrap (a * b / 256) = a * b / 256 := by rw [IntKind.wrap_i64]; omega
    go_enter Try.func28, Try.ntmps28
    go_wp2_with fail
    go_ret
    exact ⟨rfl, HB.out _⟩
  case inr.inr.inr.inr.inr.inl =>
    go_enter Try.func28, Try.ntmps28
    go_wp2_with fail
    go_ret
    exact ⟨rfl, HB.out _⟩
  case inr.inr.inr.inr.inr.inr.inl =>
    go_enter Try.func28, Try.ntmps28
    go_wp2_with fail
    go_ret
    exact ⟨rfl, HB.out _⟩
  case inr.inr.inr.inr.inr.inr.inr.inl =>
    go_enter Try.func28, Try.ntmps28
    go_wp2_with fail
    go_ret
    exact ⟨rfl, HB.out _⟩
  case inr.inr.inr.inr.inr.inr.inr.inr.inl =>
    go_enter Try.func28, Try.ntmps28
    go_wp2_with fail
    go_ret
    exact ⟨rfl, HB.out _⟩
  case inr.inr.inr.inr.inr.inr.inr.inr.inr.inl =>
    obtain ⟨k, rfl⟩ : ∃ k : Nat, N = k := ⟨N.toNat, by omega⟩
    have hk : k ≤ 31 := by omega
    have g : wrap64 (a * 2 ^ k) = a * 2 ^ k := by
      have := shl_in ha hk
      generalize a * 2 ^ k = m at *
      unfold wrap64; omega
    have hr : rck ⟨9, d, ra, rb, k⟩ a b = a * 2 ^ k := by simp [rck]
    rw [hr]
    go_enter Try.func28, Try.ntmps28
    go_wp2_with fail
    go_ret
    exact ⟨rfl, HB.out _⟩
  case inr.inr.inr.inr.inr.inr.inr.inr.inr.inr.inl =>
    obtain ⟨k, rfl⟩ : ∃ k : Nat, N = k := ⟨N.toNat, by omega⟩
    have hk : k ≤ 31 := by omega
    go_enter Try.func28, Try.ntmps28
    go_wp2_with fail
    go_ret
    exact ⟨rfl, HB.out _⟩
  case inr.inr.inr.inr.inr.inr.inr.inr.inr.inr.inr.inl =>
    by_cases hab : a < b
    · have e : rck ⟨11, d, ra, rb, N⟩ a b = 1 := if_pos hab
      rw [e]
      go_enter Try.func28, Try.ntmps28
      go_wp2_with fail
      go_ret
      exact ⟨rfl, HB.out _⟩
    · have e : rck ⟨11, d, ra, rb, N⟩ a b = 0 := if_neg hab
      rw [e]
      go_enter Try.func28, Try.ntmps28
      go_wp2_with fail
      go_ret
      exact ⟨rfl, HB.out _⟩
  all_goals omega
theorem next_any (x : In) (k : Nat) (n : Int) (hx : x.ok) (h1 : oneB x k n = true) (hn : n ≤ 32) (a : Int) (w : World) :
    Calls Try.prog 29 #[.agg #[.int .u8 x.o, .int .u8 x.d, .int .u8 x.a, .int .u8 x.b, .int .i64 x.n], .int .i64 k, .int .i64 a] w fun e w' => e = .returned (.int .i64 (nxt x k a)) ∧ Below w.heap.size w w' := by
  obtain ⟨-, -, -, -, -, -, h12, -⟩ := one_in hx h1
  have hkn : (k : Int) < n := (of_decide_eq_true h1).2.2.1
  have h0 := hx.o.1
  have HT := Lib.hid (fun w => target_any x k (by omega) (by intro e; have := h12 e; omega) w)
  clear hx h1
  have hg : ((nxt x k a : Nat) : Int) = if x.o = 12 ∧ a ≠ 0 then tgt x k else k + 1 := by
    unfold nxt tgt
    split
    · rename_i h
      rw [if_pos h.1]
      have := h12 h.1
      omega
    · omega
  rw [hg]
  have g : IntKind.i64.wrap ((k : Int) + 1) = k + 1 := by rw [IntKind.wrap_i64]; omega
  have HB := Lib.hid (fun o => new_below w o)
  have et : ¬ x.o = 12 → tgt x k = k + 1 := fun h => by unfold tgt; rw [if_neg h]
  have HE := Lib.hid et
  clear h12 hg et
  by_cases e : x.o = 12
  · by_cases ea : a = 0
    · rw [if_neg (by intro h; exact h.2 ea), e, ea]
      clear HT HE
      obtain ⟨o, d, r1, r2, N⟩ := x
      go_enter Try.func29, Try.ntmps29
      go_wp2_with fail
      go_ret
      exact ⟨rfl, HB.out _⟩
    · rw [if_pos ⟨e, ea⟩]
      have ea' : (a == 0) = false := by simpa using ea
      have e1 : (x.o == 12) = true := by simpa using e
      clear HE e
      generalize tgt x k = T at *
      go_enter Try.func29, Try.ntmps29
      go_wp2_with (go_at_call 57; (with_reducible refine (HT.out _).mono ?_); rintro e w1 ⟨rfl, hb⟩; have HB1 := Lib.hid hb; clear hb)
      go_ret
      exact ⟨rfl, bstep (HB.out _) (HB.out _).size HB1.out⟩
  · rw [if_neg (by intro h; exact e h.1), ← HE.out e]
    have e' : (x.o == 12) = false := by simpa using e
    clear HE
    generalize tgt x k = T at *
    go_enter Try.func29, Try.ntmps29
    go_wp2_with (go_at_call 57; (with_reducible refine (HT.out _).mono ?_); rintro e w1 ⟨rfl, hb⟩; have HB1 := Lib.hid hb; clear hb)
    go_ret
    exact ⟨rfl, bstep (HB.out _) (HB.out _).size HB1.out⟩
end Go.Proofs.Ytehkcnmjkgelkaa
