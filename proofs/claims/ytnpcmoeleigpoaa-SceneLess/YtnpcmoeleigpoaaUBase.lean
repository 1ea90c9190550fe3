/-
  Vertices as eight numbers, and the contracts of vec's functions that take them apart and together, at this seat's translation.
-/
import Derived.Test.YtnpcmoeleigpoaaRows
import Derived.WalkKit
import Derived.WalkSpells
import Derived.Below
import Derived.Deep.RegionHeld3
import Derived.Deep.DrawnRows
import Derived.Deep.QuietTactic
import Derived.BigQuiet
import Derived.Lib.Hide
namespace Go.Proofs.Ytnpcmoeleigpoaa.U
open Go.RowKit
attribute [local go_sem ↓] Go.wp_at_zero Go.wp_at_succ

/-- A vertex: X, Y, Z, W and the four attributes. -/
structure V where
  x : Int
  y : Int
  z : Int
  w : Int
  a : Int
  b : Int
  c : Int
  d : Int
  deriving DecidableEq

def within (n m : Int) : Prop := -m ≤ n ∧ n ≤ m
/-- Numbers up to 2^20 without their sign. -/
structure V.sm (v : V) : Prop where
  x : -1048576 ≤ v.x ∧ v.x ≤ 1048576
  y : -1048576 ≤ v.y ∧ v.y ≤ 1048576
  z : -1048576 ≤ v.z ∧ v.z ≤ 1048576
  w : -1048576 ≤ v.w ∧ v.w ≤ 1048576
  a : -1048576 ≤ v.a ∧ v.a ≤ 1048576
  b : -1048576 ≤ v.b ∧ v.b ≤ 1048576
  c : -1048576 ≤ v.c ∧ v.c ≤ 1048576
  d : -1048576 ≤ v.d ∧ v.d ≤ 1048576

def dist (p : Int) (v : V) : Int :=
  if p = 0 then v.z + v.w else if p = 1 then 4 * v.w + v.x else if p = 2 then 4 * v.w - v.x else if p = 3 then 4 * v.w + v.y else if p = 4 then 4 * v.w - v.y else 0

theorem apart_any (v : V) (w : World) :
    Calls Try.prog 45 #[.agg #[.int .i64 v.x, .int .i64 v.y, .int .i64 v.z, .int .i64 v.w, .int .i64 v.a, .int .i64 v.b, .int .i64 v.c, .int .i64 v.d]] w fun e w' => e = .returned (.agg #[.int .i64 v.x, .int .i64 v.y, .int .i64 v.z, .int .i64 v.w, .int .i64 v.a, .int .i64 v.b, .int .i64 v.c, .int .i64 v.d]) ∧ Below w.heap.size w w' := by
  have hb : ∀ o o', Below w.heap.size w ((w.alloc o).alloc o') := fun o o' => ((Below.refl _ _).alloc (Nat.le_refl _) o).alloc (by simp) o'
  have HB := Lib.hid hb
  clear hb
  go_enter Try.func45, Try.ntmps45
  go_wp2
  exact bodyPost_ret (v := .agg #[.int .i64 v.x, .int .i64 v.y, .int .i64 v.z, .int .i64 v.w, .int .i64 v.a, .int .i64 v.b, .int .i64 v.c, .int .i64 v.d]) (by simp [results, Try.results45, go_sem]) rfl ⟨rfl, HB.out _ _⟩

end Go.Proofs.Ytnpcmoeleigpoaa.U
