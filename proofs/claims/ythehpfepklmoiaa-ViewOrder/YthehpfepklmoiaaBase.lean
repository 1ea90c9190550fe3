/-
  Vertices as eight numbers.
-/
import Derived.Test.YthehpfepklmoiaaRows
import Derived.WalkKit
import Derived.WalkSpells
import Derived.Below
import Derived.Deep.RegionHeld3
import Derived.Deep.DrawnRows
import Derived.Deep.QuietTactic
import Derived.BigQuiet
import Derived.Lib.Hide
namespace Go.Proofs.Ythehpfepklmoiaa
open Go.RowKit
attribute [local go_sem ↓] Go.wp_at_zero Go.wp_at_succ

/-- A vertex: X, Y, Z, W and the four attributes. -/
structure V where
  x : Int
  y : Int
  z : Int
  w : Int
  a : Int
  b : Int
  c : Int
  d : Int
  deriving DecidableEq

def within (n m : Int) : Prop := -m ≤ n ∧ n ≤ m
/-- Numbers up to 2^20 without their sign. -/
structure V.sm (v : V) : Prop where
  x : -1048576 ≤ v.x ∧ v.x ≤ 1048576
  y : -1048576 ≤ v.y ∧ v.y ≤ 1048576
  z : -1048576 ≤ v.z ∧ v.z ≤ 1048576
  w : -1048576 ≤ v.w ∧ v.w ≤ 1048576
  a : -1048576 ≤ v.a ∧ v.a ≤ 1048576
  b : -1048576 ≤ v.b ∧ v.b ≤ 1048576
  c : -1048576 ≤ v.c ∧ v.c ≤ 1048576
  d : -1048576 ≤ v.d ∧ v.d ≤ 1048576

end Go.Proofs.Ythehpfepklmoiaa
