/-
  Points as seven numbers; on which side of an edge a place is, which edges have what lies on them, what is inside: as functions on numbers.
-/
import Derived.Test.YtfdlfjecgefgfaaRows
import Derived.WalkKit
import Derived.WalkSpells
import Derived.Below
import Derived.Deep.RegionHeld3
import Derived.Deep.DrawnRows
import Derived.Deep.QuietTactic
import Derived.BigQuiet
import Derived.Lib.Hide
namespace Go.Proofs.Ytfdlfjecgefgfaa
open Go.RowKit
attribute [local go_sem ↓] Go.wp_at_zero Go.wp_at_succ

/-- A point: X, Y, Z and the four attributes. -/
structure P where
  x : Int
  y : Int
  z : Int
  a : Int
  b : Int
  c : Int
  d : Int
  deriving DecidableEq

/-- A place within 2^16. -/
structure P.sm (v : P) : Prop where
  x : -65536 ≤ v.x ∧ v.x ≤ 65536
  y : -65536 ≤ v.y ∧ v.y ≤ 65536

/-- On which side of the edge from a to b the place x, y is. -/
def crs (a b : P) (x y : Int) : Int := (b.x - a.x) * (y - a.y) - (b.y - a.y) * (x - a.x)
/-- Whether the edge has what lies on it. -/
def fst (a b : P) : Bool := decide (b.y < a.y) || (decide (b.y = a.y) && decide (a.x < b.x))
def wth (a b : P) (x y : Int) : Bool := decide (0 < crs a b x y) || (decide (crs a b x y = 0) && fst a b)
def area (a b c : P) : Int := crs a b c.x c.y
def inn (a b c : P) (x y : Int) : Bool := decide (0 < area a b c) && (wth a b x y && (wth b c x y && wth c a x y))

theorem mul_bd {m n B C : Int} (hm0 : -B ≤ m) (hm1 : m ≤ B) (hn0 : -C ≤ n) (hn1 : n ≤ C) : -(B * C) ≤ m * n ∧ m * n ≤ B * C := by
  have hB : 0 ≤ B := by omega
  have hC : 0 ≤ C := by omega
  have h1 : 0 ≤ (B - m) * (C - n) := Int.mul_nonneg (by omega) (by omega)
  have h2 : 0 ≤ (B + m) * (C + n) := Int.mul_nonneg (by omega) (by omega)
  have h3 : 0 ≤ (B - m) * (C + n) := Int.mul_nonneg (by omega) (by omega)
  have h4 : 0 ≤ (B + m) * (C - n) := Int.mul_nonneg (by omega) (by omega)
  simp only [Int.mul_add, Int.add_mul, Int.mul_sub, Int.sub_mul] at h1 h2 h3 h4
  generalize m * n = k at *
  generalize B * C = D at *
  generalize B * n = E at *
  generalize m * C = F at *
  omega

theorem crs_parts {a b : P} {x y : Int} (ha : a.sm) (hb : b.sm) (hx0 : -65536 ≤ x) (hx1 : x ≤ 65536) (hy0 : -65536 ≤ y) (hy1 : y ≤ 65536) :
    (-17179869184 ≤ (b.x - a.x) * (y - a.y) ∧ (b.x - a.x) * (y - a.y) ≤ 17179869184) ∧ (-17179869184 ≤ (b.y - a.y) * (x - a.x) ∧ (b.y - a.y) * (x - a.x) ≤ 17179869184) := by
  obtain ⟨⟨a0, a1⟩, ⟨a2, a3⟩⟩ := ha
  obtain ⟨⟨b0, b1⟩, ⟨b2, b3⟩⟩ := hb
  exact ⟨mul_bd (B := 131072) (C := 131072) (by omega) (by omega) (by omega) (by omega), mul_bd (B := 131072) (C := 131072) (by omega) (by omega) (by omega) (by omega)⟩
theorem crs_bd {a b : P} {x y : Int} (ha : a.sm) (hb : b.sm) (hx0 : -65536 ≤ x) (hx1 : x ≤ 65536) (hy0 : -65536 ≤ y) (hy1 : y ≤ 65536) :
    -34359738368 ≤ crs a b x y ∧ crs a b x y ≤ 34359738368 := by
  have h := crs_parts ha hb hx0 hx1 hy0 hy1
  unfold crs
  omega
end Go.Proofs.Ytfdlfjecgefgfaa
