/-
  The contracts of the small functions of package wire, at this seat's translation.
-/
import Derived.Test.YtopncdeafbpenaaRows
import Derived.Test.YtopncdeafbpenaaPure
import Derived.WalkKit
import Derived.WalkSpells
import Derived.Below
import Derived.Deep.QuietTactic
import Derived.BigQuiet
import Derived.Lib.Hide
import Derived.Laws.BitsAllLaws
import Derived.Laws.BitsLemmas
import Derived.Laws.Bits64b
namespace Go.Proofs.Ytopncdeafbpenaa
open Go.RowKit

theorem ret_int {k : IntKind} {a b : Int} (h : a = b) : Ending.returned (.int k a) = .returned (.int k b) := by rw [h]

theorem folded_any (n : Int) (w : World) (h0 : -9223372036854775808 ≤ n) (h1 : n ≤ 9223372036854775807) :
    Calls Try.prog 26 #[.int .i64 n] w fun e w' => e = .returned (.int .u64 (fold n : Nat)) ∧ w = w' := by
  by_cases h : n < 0
  · go_enter Try.func26, Try.ntmps26
    go_wp2
    go_ret
    exact ⟨ret_int (by unfold fold; rw [if_pos h]; omega), rfl⟩
  · go_enter Try.func26, Try.ntmps26
    go_wp2
    go_ret
    exact ⟨ret_int (by unfold fold; rw [if_neg (by omega)]; omega), rfl⟩

theorem unfolded_any (u : Nat) (w : World) (h : u < 18446744073709551616) :
    Calls Try.prog 25 #[.int .u64 (u : Int)] w fun e w' => e = .returned (.int .i64 (unf u)) ∧ w = w' := by
  by_cases hu : u % 2 = 1
  · go_enter Try.func25, Try.ntmps25
    go_wp2
    go_ret
    exact ⟨ret_int (by unfold unf; rw [if_pos hu]; omega), rfl⟩
  · go_enter Try.func25, Try.ntmps25
    go_wp2
    go_ret
    exact ⟨ret_int (by unfold unf; rw [if_neg hu]; omega), rfl⟩

def Sl (k : IntKind) (w : World) (B : Nat) (A : Option Addr) (xs : List Int) : Prop :=
  xs ≠ [] → ∃ b off, A = some ⟨b, off, none⟩ ∧ b < B ∧ ∀ j, j < xs.length → w.cell? ⟨b, off + j, none⟩ = some (.int k (xs.getD j 0))

theorem Sl.at {k : IntKind} {w : World} {B : Nat} {A : Option Addr} {xs : List Int} (h : Sl k w B A xs) {j : Nat} (hj : j < xs.length) :
    ∃ b off, A = some ⟨b, off, none⟩ ∧ b < B ∧ w.cell? ⟨b, off + j, none⟩ = some (.int k (xs.getD j 0)) := by
  obtain ⟨b, off, e, hb, hc⟩ := h (by rintro rfl; simp at hj)
  exact ⟨b, off, e, hb, hc j hj⟩

theorem pow_128 (k : Nat) : 2 ^ (7 * k) = 128 ^ k := by rw [Nat.pow_mul]

theorem or_parts (v q k : Nat) (hv : v < 18446744073709551616) :
    ∃ z : Nat, bits BinOp.or .u64 (v : Int) (IntKind.u64.wrap ((q : Int) * 2 ^ (7 * k))) = (z : Int) ∧ z < 18446744073709551616 ∧ (v < 128 ^ k → q * 128 ^ k < 18446744073709551616 → z = v + q * 128 ^ k) := by
  have e : IntKind.u64.wrap ((q : Int) * 2 ^ (7 * k)) = ((q * 128 ^ k % 18446744073709551616 : Nat) : Int) := by
    rw [IntKind.wrap_u64, ← pow_128, Int.natCast_emod, Int.natCast_mul, Int.natCast_pow]
    rfl
  rw [e]
  have hlt : q * 128 ^ k % 18446744073709551616 < 18446744073709551616 := Nat.mod_lt _ (by decide)
  refine ⟨v ||| (q * 128 ^ k % 18446744073709551616), bits_or_u64_nat _ _ hv hlt, Nat.or_lt_two_pow (n := 64) hv hlt, fun h1 h2 => ?_⟩
  rw [Nat.mod_eq_of_lt h2, ← pow_128, Nat.or_comm, Nat.mul_comm q, ← Nat.two_pow_add_eq_or_of_lt (by rw [pow_128]; exact h1)]
  omega

theorem drop_at {xs : List Int} {k : Nat} {p : Int} (hk : k < xs.length) (hp : xs.getD k 0 = p) : xs.drop k = p :: xs.drop (k + 1) := by
  rw [List.drop_eq_getElem_cons hk, ← hp, List.getD_eq_getElem?_getD, List.getElem?_eq_getElem hk]; rfl

theorem ret_pair {q : Int × Nat} {a b : Int} {s : Nat} (h : q = (a, s)) (hb : b = (s : Int)) : Ending.returned (.tuple #[.int .i64 a, .int .i64 b]) = .returned (.tuple #[.int .i64 q.1, .int .i64 (q.2 : Nat)]) := by rw [h, hb]

theorem small_part {p : Int} {k : Nat} (h0 : 0 ≤ p) (h1 : p < 128) (hk : k < 10) (hl : k = 9 → p ≤ 1) : p.toNat * 128 ^ k < 18446744073709551616 := by
  rcases ten_cases hk with rfl | rfl | rfl | rfl | rfl | rfl | rfl | rfl | rfl | rfl <;> simp only [Nat.reducePow] <;> omega
theorem small_sum {v q k : Nat} (hv : v < 128 ^ k) (hq : q < 128) : v + q * 128 ^ k < 128 ^ (k + 1) := by
  rw [pow_parts, Nat.mul_comm (128 ^ k) 128]
  have := Nat.mul_le_mul_right (128 ^ k) (show q + 1 ≤ 128 by omega)
  rw [Nat.add_mul] at this; omega
theorem small_more {q k : Nat} (hq : q < 128) (hk : k < 9) : q * 128 ^ k < 18446744073709551616 := by
  rcases ten_cases (k := k) (by omega) with rfl | rfl | rfl | rfl | rfl | rfl | rfl | rfl | rfl | rfl <;> simp only [Nat.reducePow] <;> omega

/-- What the loop of first knows at its k-th part. -/
def At (xs : List Int) (k v : Nat) : Prop := (k ≤ 9 → v < 128 ^ k) ∧ first xs = scan k v (xs.drop k)
theorem At.start (xs : List Int) : At xs 0 0 := ⟨fun _ => by decide, rfl⟩
theorem At.more {xs : List Int} {k v z : Nat} {p : Int} (h : At xs k v) (hk : k < 10) (hl : k < xs.length) (hp : xs.getD k 0 = p) (h1 : p ≤ 255) (h2 : 128 ≤ p)
    (hz : v < 128 ^ k → (p % 128).toNat * 128 ^ k < 18446744073709551616 → z = v + (p % 128).toNat * 128 ^ k) : At xs (k + 1) z := by
  obtain ⟨ha, hb⟩ := h
  have hpp : (p % 128).toNat = p.toNat % 128 := by omega
  rw [hpp] at hz
  rw [drop_at hl hp, scan_more hk h2] at hb
  by_cases h9 : k = 9
  · subst h9
    exact ⟨fun h => by omega, by rw [hb, scan_ten _ _ (by omega), scan_ten _ _ (by omega)]⟩
  · have e := hz (ha (by omega)) (small_more (by omega) (by omega))
    refine ⟨fun _ => ?_, by rw [hb, e]⟩
    rw [e]; exact small_sum (ha (by omega)) (by omega)
theorem At.bad {xs : List Int} {k v : Nat} {p : Int} (h : At xs k v) (hk : k < 10) (hl : k < xs.length) (hp : xs.getD k 0 = p) (h1 : p < 128) (h2 : (0 < k ∧ p = 0) ∨ (k = 9 ∧ 1 < p)) : first xs = (0, 0) := by
  rw [h.2, drop_at hl hp, scan_bad hk h1 h2]
theorem At.good {xs : List Int} {k v z : Nat} {p : Int} (h : At xs k v) (hk : k < 10) (hl : k < xs.length) (hp : xs.getD k 0 = p) (h0 : 0 ≤ p) (h1 : p < 128) (h2 : ¬ ((0 < k ∧ p = 0) ∨ (k = 9 ∧ 1 < p)))
    (hz : v < 128 ^ k → (p % 128).toNat * 128 ^ k < 18446744073709551616 → z = v + (p % 128).toNat * 128 ^ k) : first xs = (unf z, k + 1) := by
  have hpp : (p % 128).toNat = p.toNat := by omega
  rw [hpp] at hz
  rw [h.2, drop_at hl hp, scan_good hk h1 h2, hz (h.1 (by omega)) (small_part h0 h1 hk (by omega))]
theorem At.ends {xs : List Int} {k v : Nat} (h : At xs k v) (hk : 10 ≤ k ∨ xs.length ≤ k) : first xs = (0, 0) := by
  rw [h.2]
  rcases hk with hk | hk
  · exact scan_ten _ _ hk _
  · rw [List.drop_eq_nil_of_le hk]; rfl

set_option maxHeartbeats 1000000 in
theorem first_any (A : Option Addr) (c : Nat) (xs : List Int) (B : Nat) (w : World) (hs : Sl .u8 w B A xs) (hb : Byt xs) (hc : xs.length ≤ c) (hm : xs.length ≤ 9223372036854775807) :
    Calls Try.prog 20 #[.slice A xs.length c] w fun e w' => e = .returned (.tuple #[.int .i64 (first xs).1, .int .i64 ((first xs).2 : Nat)]) ∧ w = w' := by
  have HS := Lib.hid hs
  have HB := Lib.hid hb
  clear hs hb
  rcases Nat.lt_or_ge 10 xs.length with hbig | hsmall
  all_goals
    go_enter Try.func20, Try.ntmps20
    go_wp2
    go_loop [4, 13] (fun u i => ∃ k v : Nat, k ≤ 10 ∧ k ≤ xs.length ∧ v < 18446744073709551616 ∧ i = .int .i64 k ∧ u = .int .u64 v ∧ At xs k v) (fun _ i => 10 - (intOf i).toNat)
    case atStart => exact ⟨0, 0, by omega, by omega, by decide, rfl, rfl, At.start xs⟩
    case round =>
      obtain ⟨k, v, hk, hkl, hv, rfl, rfl, hAt⟩ := hrel
      have HA := Lib.hid hAt
      clear hAt
      by_cases hlt : k < 10 ∧ k < xs.length
      · obtain ⟨hlt, hlx⟩ := hlt
        obtain ⟨b, off, rfl, _, hcell⟩ := HS.out.at (j := k) (by omega)
        have hpb := HB.out.get k
        generalize hp : xs.getD k 0 = p at hcell hpb
        obtain ⟨hp0, hp1⟩ := hpb
        have HP := Lib.hid hp
        clear hp
        obtain ⟨z, hor, hz, hzz⟩ := or_parts v (p % 128).toNat k hv
        rw [show (((p % 128).toNat : Nat) : Int) = p % 128 by omega] at hor
        have HZ := Lib.hid hzz
        clear hzz
        go_wp2_with (go_at_call 25; refine (unfolded_any _ _ (by omega)).mono ?_; rintro e w' ⟨rfl, rfl⟩)
        all_goals first
          | (go_round
             case rel => exact ⟨k + 1, z, by omega, by omega, hz, by go_num, rfl, HA.out.more hlt hlx HP.out hp1 (by omega) HZ.out⟩
             case measure => simp [intOf]; omega)
          | (go_ret2; exact ⟨ret_pair (HA.out.bad hlt hlx HP.out (by omega) (by omega)) (by simp), rfl⟩)
          | (go_ret2; exact ⟨ret_pair (HA.out.good hlt hlx HP.out hp0 (by omega) (by omega) HZ.out) (by omega), rfl⟩)
          | (have hd : p = 0 ∨ 1 < p := by simpa using ‹(p == 0) = true ∨ 1 < p›
             go_ret2; exact ⟨ret_pair (HA.out.bad hlt hlx HP.out (by omega) (by omega)) (by simp), rfl⟩)
      · go_wp2
        go_ret2
        exact ⟨ret_pair (HA.out.ends (by omega)) (by simp), rfl⟩
end Go.Proofs.Ytopncdeafbpenaa
