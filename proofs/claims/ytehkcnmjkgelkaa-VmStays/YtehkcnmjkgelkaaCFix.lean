/-
  What a quotient is, rounded down.
-/
import Derived.Test.YtehkcnmjkgelkaaBase
namespace Go.Proofs.Ytehkcnmjkgelkaa.C
open Go.RowKit
attribute [local go_sem ↓] Go.wp_at_zero Go.wp_at_succ

theorem div_unique {n c q r : Int} (hc : 0 < c) (h : r + c * q = n) (h0 : 0 ≤ r) (h1 : r < c) : n / c = q :=
  ((Int.ediv_emod_unique hc).2 ⟨h, h0, h1⟩).1
theorem down_pos {a b c : Int} {m k q r : Nat} (ha : 0 ≤ a) (hb : 0 ≤ b) (hc : 0 < c) (hm : a.natAbs * b.natAbs = m) (hk : c.natAbs = k) (hq : m / k = q) (hr : m % k = r) : (q : Int) = a * b / c := by
  have e1 : (a.natAbs : Int) = a := by omega
  have e2 : (b.natAbs : Int) = b := by omega
  have e3 : (k : Int) = c := by omega
  have e4 : a * b = (m : Int) := by rw [← hm, Int.natCast_mul, e1, e2]
  have e5 := Nat.mod_add_div m k
  have e6 := Nat.mod_lt m (show 0 < k by omega)
  rw [hq, hr] at e5
  rw [hr] at e6
  have e7 : (r : Int) + c * q = (m : Int) := by rw [← e5, ← e3]; simp
  rw [e4]
  exact (div_unique hc e7 (by omega) (by omega)).symm
theorem down_neg {a b c : Int} {m k q r : Nat} (ha : a < 0) (hb : 0 ≤ b) (hc : 0 < c) (hm : a.natAbs * b.natAbs = m) (hk : c.natAbs = k) (hq : m / k = q) (hr : m % k = r) :
    (r = 0 → -(q : Int) = a * b / c) ∧ (r ≠ 0 → -((q : Int) + 1) = a * b / c) := by
  have e1 : (a.natAbs : Int) = -a := by omega
  have e2 : (b.natAbs : Int) = b := by omega
  have e3 : (k : Int) = c := by omega
  have e4 : a * b = -(m : Int) := by rw [← hm, Int.natCast_mul, e1, e2, Int.neg_mul, Int.neg_neg]
  have e5 := Nat.mod_add_div m k
  have e6 := Nat.mod_lt m (show 0 < k by omega)
  rw [hq, hr] at e5
  rw [hr] at e6
  have e7 : (r : Int) + c * q = (m : Int) := by rw [← e5, ← e3]; simp
  rw [e4]
  constructor
  · intro h
    refine (div_unique hc (r := 0) ?_ (by omega) hc).symm
    rw [Int.mul_neg]
    omega
  · intro h
    refine (div_unique hc (r := c - r) ?_ (by omega) (by omega)).symm
    rw [Int.mul_neg, Int.mul_add]
    omega
end Go.Proofs.Ytehkcnmjkgelkaa.C
