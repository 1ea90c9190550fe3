/-
  What comparing two arrays of numbers, or two points, comes to in the model.
-/
import Derived.Test.YtfdlfjecgefgfaaCEq
import Derived.Laws.StructEq
namespace Go.Proofs.Ytfdlfjecgefgfaa.C
open Go.RowKit

/-- Two points are the same. -/
def sameP (u v : P) : Bool := decide (u = v)
theorem sameP_self (u : P) : sameP u u = true := by simp [sameP]

theorem eqlA (w : World) (a b c d a' b' c' d' : Int) : (Op.equalIn 9999 23 (.agg #[.int .i64 a, .int .i64 b, .int .i64 c, .int .i64 d]) (.agg #[.int .i64 a', .int .i64 b', .int .i64 c', .int .i64 d'])).run Try.prog w = .ok ([a, b, c, d] == [a', b', c', d']) w :=
  run_equalIn_ints (P := Try.prog) w 9997 23 3 4 Try.underlying23 Try.underlying3 Try.sizeOf3 [a, b, c, d] [a', b', c', d'] rfl rfl
theorem eqlP (w : World) (x0 x1 x2 x3 x4 x5 x6 y0 y1 y2 y3 y4 y5 y6 : Int) : (binOp .eql 37 (.agg #[.int .i64 x0, .int .i64 x1, .int .i64 x2, .int .i64 x3, .int .i64 x4, .int .i64 x5, .int .i64 x6]) (.agg #[.int .i64 y0, .int .i64 y1, .int .i64 y2, .int .i64 y3, .int .i64 y4, .int .i64 y5, .int .i64 y6])).run Try.prog w = .ok (.bool (sameP ((⟨x0, x1, x2, x3, x4, x5, x6⟩ : P)) ⟨y0, y1, y2, y3, y4, y5, y6⟩)) w := by
  have u3 := Try.underlying3
  unfold sameP
  have hS : Try.prog.underlying 37 = some (.struct (Try.prog.fieldsOf 37)) := by kernel_rfl
  have hp : Try.prog.stoodInHeld 37 = false := by kernel_rfl
  have h22 := eqlA w
  rw [run_eql_struct, show (10000 : Nat) = 9999 + 1 from rfl, run_equalIn_agg w 9999 37 _ _ hS hp]
  simp only [Program.fieldsOf, Try.underlying37]
  go_simp

  by_cases h0 : x0 = y0
  · by_cases h1 : x1 = y1
    · by_cases h2 : x2 = y2
      · by_cases h3 : x3 = y3
        · by_cases h4 : x4 = y4
          · by_cases h5 : x5 = y5
            · by_cases h6 : x6 = y6 <;> simp [h0, h1, h2, h3, h4, h5, h6]
            · simp [h0, h1, h2, h3, h4, h5]
          · simp [h0, h1, h2, h3, h4]
        · simp [h0, h1, h2, h3]
      · simp [h0, h1, h2]
    · simp [h0, h1]
  · simp [h0]
/-- Two arrays of four numbers are the same. -/
def sameA (a b c d a' b' c' d' : Int) : Bool := [a, b, c, d] == [a', b', c', d']
theorem sameA_self (a b c d : Int) : sameA a b c d a b c d = true := by simp [sameA]
theorem eqlAA (w : World) (a b c d a' b' c' d' : Int) : (binOp .eql 23 (.agg #[.int .i64 a, .int .i64 b, .int .i64 c, .int .i64 d]) (.agg #[.int .i64 a', .int .i64 b', .int .i64 c', .int .i64 d'])).run Try.prog w = .ok (.bool (sameA a b c d a' b' c' d')) w := by
  have h := run_equalIn_ints (P := Try.prog) w 9998 23 3 4 Try.underlying23 Try.underlying3 Try.sizeOf3 [a, b, c, d] [a', b', c', d'] rfl rfl
  rw [run_eql_struct]
  simp only [List.map_cons, List.map_nil] at h
  rw [show (10000 : Nat) = 9998 + 2 from rfl, h, Result.andThen_ok]
  rfl
theorem guardP : Try.prog.eqGuardType Try.prog.depth 37 = false := by kernel_rfl
theorem guardA : Try.prog.eqGuardType Try.prog.depth 23 = false := by kernel_rfl
end Go.Proofs.Ytfdlfjecgefgfaa.C
