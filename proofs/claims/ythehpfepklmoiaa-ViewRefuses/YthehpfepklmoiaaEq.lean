/-
  What comparing two arrays of numbers, or two points, comes to in the model.
-/
import Derived.Test.YthehpfepklmoiaaCells
import Derived.Laws.StructEq
namespace Go.Proofs.Ythehpfepklmoiaa
open Go.RowKit

/-- A point: X, Y, Z and the four attributes. -/
structure P where
  x : Int
  y : Int
  z : Int
  a : Int
  b : Int
  c : Int
  d : Int
  deriving DecidableEq
/-- Two points are the same. -/
def sameP (u v : P) : Bool := decide (u = v)
theorem sameP_self (u : P) : sameP u u = true := by simp [sameP]

theorem all_range_ints : ∀ (xs ys : List Int), xs.length = ys.length → ((List.range xs.length).all fun i => xs.getD i 0 == ys.getD i 0) = (xs == ys)
  | [], [], _ => rfl
  | x :: xs, y :: ys, h => by
    have ih := all_range_ints xs ys (by simpa using h)
    rw [List.length_cons, List.range_succ_eq_map, List.all_cons, List.all_map]
    simp only [List.getD_cons_zero, Function.comp_def, List.getD_cons_succ, ih]
    simp [List.cons_beq_cons]
  | [], _ :: _, h => by simp at h
  | _ :: _, [], h => by simp at h

theorem run_equalIn_ints {P : Program} (w : World) (d : Nat) (t e : TypeId) (n : Nat) (ht : P.underlying t = some (.array n e)) (he : P.underlying e = some (.int .i64)) (hsz : ∀ w, (sizeOf e).run P w = .ok 1 w)
    (xs ys : List Int) (hx : xs.length = n) (hy : ys.length = n) :
    (Op.equalIn (d + 2) t (.agg (xs.map fun k => Value.int .i64 k).toArray) (.agg (ys.map fun k => Value.int .i64 k).toArray)).run P w = .ok (xs == ys) w := by
  rw [← all_range_ints xs ys (hx.trans hy.symm), hx, List.range_eq_range', Op.equalIn]
  simp only [Sem.run_bind, run_underlying ht, Result.andThen_ok, hsz, Std.Legacy.Range.forIn_eq_forIn_range', Std.Legacy.Range.size, Nat.sub_zero, Nat.add_sub_cancel, Nat.div_one]
  have hl : ∀ i ∈ List.range' 0 n 1, i < n := fun i hi => by simpa using (List.mem_range'_1.1 hi).2
  generalize List.range' 0 n 1 = l at hl ⊢
  induction l with
  | nil => simp
  | cons i l ih =>
    have hi : i < n := hl i (by simp)
    have px : (part e (xs.map fun k => Value.int .i64 k).toArray (i * 1)).run P w = .ok (.int .i64 (xs.getD i 0)) w := by
      simp [part, isAgg, run_underlying he, List.getD, List.getElem?_eq_getElem (show i < xs.length by omega)]
    have py : (part e (ys.map fun k => Value.int .i64 k).toArray (i * 1)).run P w = .ok (.int .i64 (ys.getD i 0)) w := by
      simp [part, isAgg, run_underlying he, List.getD, List.getElem?_eq_getElem (show i < ys.length by omega)]
    have pe : (Op.equalIn (d + 1) e (.int .i64 (xs.getD i 0)) (.int .i64 (ys.getD i 0))).run P w = .ok (xs.getD i 0 == ys.getD i 0) w := run_equalIn_int w d e .i64 .i64 _ _ he
    simp only [List.forIn_cons, Sem.run_bind, px, py, pe, Result.andThen_ok, List.all_cons]
    cases hb : (xs.getD i 0 == ys.getD i 0)
    · simp
    · simp only [Bool.not_true, Bool.false_eq_true, if_false, Sem.run_pure, Result.andThen_ok, Bool.true_and]
      exact ih fun j hj => hl j (by simp [hj])

theorem eqlA (w : World) (a b c d a' b' c' d' : Int) : (Op.equalIn 9999 25 (.agg #[.int .i64 a, .int .i64 b, .int .i64 c, .int .i64 d]) (.agg #[.int .i64 a', .int .i64 b', .int .i64 c', .int .i64 d'])).run Try.prog w = .ok ([a, b, c, d] == [a', b', c', d']) w :=
  run_equalIn_ints (P := Try.prog) w 9997 25 3 4 Try.underlying25 Try.underlying3 Try.sizeOf3 [a, b, c, d] [a', b', c', d'] rfl rfl
theorem eqlP (w : World) (x0 x1 x2 x3 x4 x5 x6 y0 y1 y2 y3 y4 y5 y6 : Int) : (binOp .eql 30 (.agg #[.int .i64 x0, .int .i64 x1, .int .i64 x2, .int .i64 x3, .int .i64 x4, .int .i64 x5, .int .i64 x6]) (.agg #[.int .i64 y0, .int .i64 y1, .int .i64 y2, .int .i64 y3, .int .i64 y4, .int .i64 y5, .int .i64 y6])).run Try.prog w = .ok (.bool (sameP ((⟨x0, x1, x2, x3, x4, x5, x6⟩ : P)) ⟨y0, y1, y2, y3, y4, y5, y6⟩)) w := by
  have u3 := Try.underlying3
  unfold sameP
  have hS : Try.prog.underlying 30 = some (.struct (Try.prog.fieldsOf 30)) := by kernel_rfl
  have hp : Try.prog.stoodInHeld 30 = false := by kernel_rfl
  have h22 := eqlA w
  rw [run_eql_struct, show (10000 : Nat) = 9999 + 1 from rfl, run_equalIn_agg w 9999 30 _ _ hS hp]
  simp only [Program.fieldsOf, Try.underlying30]
  go_simp

  by_cases h0 : x0 = y0
  · by_cases h1 : x1 = y1
    · by_cases h2 : x2 = y2
      · by_cases h3 : x3 = y3
        · by_cases h4 : x4 = y4
          · by_cases h5 : x5 = y5
            · by_cases h6 : x6 = y6 <;> simp [h0, h1, h2, h3, h4, h5, h6]
            · simp [h0, h1, h2, h3, h4, h5]
          · simp [h0, h1, h2, h3, h4]
        · simp [h0, h1, h2, h3]
      · simp [h0, h1, h2]
    · simp [h0, h1]
  · simp [h0]
/-- Two arrays of four numbers are the same. -/
def sameA (a b c d a' b' c' d' : Int) : Bool := [a, b, c, d] == [a', b', c', d']
theorem sameA_self (a b c d : Int) : sameA a b c d a b c d = true := by simp [sameA]
theorem eqlAA (w : World) (a b c d a' b' c' d' : Int) : (binOp .eql 25 (.agg #[.int .i64 a, .int .i64 b, .int .i64 c, .int .i64 d]) (.agg #[.int .i64 a', .int .i64 b', .int .i64 c', .int .i64 d'])).run Try.prog w = .ok (.bool (sameA a b c d a' b' c' d')) w := by
  have h := run_equalIn_ints (P := Try.prog) w 9998 25 3 4 Try.underlying25 Try.underlying3 Try.sizeOf3 [a, b, c, d] [a', b', c', d'] rfl rfl
  rw [run_eql_struct]
  simp only [List.map_cons, List.map_nil] at h
  rw [show (10000 : Nat) = 9998 + 2 from rfl, h, Result.andThen_ok]
  rfl
theorem guardP : Try.prog.eqGuardType Try.prog.depth 30 = false := by kernel_rfl
theorem guardA : Try.prog.eqGuardType Try.prog.depth 25 = false := by kernel_rfl
structure V.ok (v : V) : Prop where
  x : -32768 ≤ v.x ∧ v.x ≤ 32768
  y : -32768 ≤ v.y ∧ v.y ≤ 32768
  z : -32768 ≤ v.z ∧ v.z ≤ 32768
  w : 1 ≤ v.w ∧ v.w ≤ 32768
  a : -4096 ≤ v.a ∧ v.a ≤ 4096
  b : -4096 ≤ v.b ∧ v.b ≤ 4096
  c : -4096 ≤ v.c ∧ v.c ≤ 4096
  d : -4096 ≤ v.d ∧ v.d ≤ 4096
theorem V.ok.sm {v : V} (h : v.ok) : v.sm := by
  obtain ⟨hx, hy, hz, hw, ha, hb, hc, hd⟩ := h
  exact ⟨by omega, by omega, by omega, by omega, by omega, by omega, by omega, by omega⟩
end Go.Proofs.Ythehpfepklmoiaa
