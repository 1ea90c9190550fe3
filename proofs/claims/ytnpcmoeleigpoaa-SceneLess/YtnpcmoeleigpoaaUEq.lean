/-
  What comparing two arrays of numbers, or two vertices, comes to in the model.
-/
import Derived.Test.YtnpcmoeleigpoaaUCells
import Derived.Laws.StructEq
namespace Go.Proofs.Ytnpcmoeleigpoaa.U
open Go.RowKit

/-- Two vertices are the same. -/
def sameV (u v : V) : Bool := decide (u = v)
set_option maxRecDepth 100000 in
theorem sameV_self (u : V) : sameV u u = true := by simp [sameV]

set_option maxRecDepth 100000 in
theorem all_range_ints : ∀ (xs ys : List Int), xs.length = ys.length → ((List.range xs.length).all fun i => xs.getD i 0 == ys.getD i 0) = (xs == ys)
  | [], [], _ => rfl
  | x :: xs, y :: ys, h => by
    have ih := all_range_ints xs ys (by simpa using h)
    rw [List.length_cons, List.range_succ_eq_map, List.all_cons, List.all_map]
    simp only [List.getD_cons_zero, Function.comp_def, List.getD_cons_succ, ih]
    simp [List.cons_beq_cons]
  | [], _ :: _, h => by simp at h
  | _ :: _, [], h => by simp at h

set_option maxRecDepth 100000 in
theorem run_equalIn_ints {P : Program} (w : World) (d : Nat) (t e : TypeId) (n : Nat) (ht : P.underlying t = some (.array n e)) (he : P.underlying e = some (.int .i64)) (hsz : ∀ w, (sizeOf e).run P w = .ok 1 w)
    (xs ys : List Int) (hx : xs.length = n) (hy : ys.length = n) :
    (Op.equalIn (d + 2) t (.agg (xs.map fun k => Value.int .i64 k).toArray) (.agg (ys.map fun k => Value.int .i64 k).toArray)).run P w = .ok (xs == ys) w := by
  rw [← all_range_ints xs ys (hx.trans hy.symm), hx, List.range_eq_range', Op.equalIn]
  simp only [Sem.run_bind, run_underlying ht, Result.andThen_ok, hsz, Std.Legacy.Range.forIn_eq_forIn_range', Std.Legacy.Range.size, Nat.sub_zero, Nat.add_sub_cancel, Nat.div_one]
  have hl : ∀ i ∈ List.range' 0 n 1, i < n := fun i hi => by simpa using (List.mem_range'_1.1 hi).2
  generalize List.range' 0 n 1 = l at hl ⊢
  induction l with
  | nil => simp
  | cons i l ih =>
    have hi : i < n := hl i (by simp)
    have px : (part e (xs.map fun k => Value.int .i64 k).toArray (i * 1)).run P w = .ok (.int .i64 (xs.getD i 0)) w := by
      simp [part, isAgg, run_underlying he, List.getD, List.getElem?_eq_getElem (show i < xs.length by omega)]
    have py : (part e (ys.map fun k => Value.int .i64 k).toArray (i * 1)).run P w = .ok (.int .i64 (ys.getD i 0)) w := by
      simp [part, isAgg, run_underlying he, List.getD, List.getElem?_eq_getElem (show i < ys.length by omega)]
    have pe : (Op.equalIn (d + 1) e (.int .i64 (xs.getD i 0)) (.int .i64 (ys.getD i 0))).run P w = .ok (xs.getD i 0 == ys.getD i 0) w := run_equalIn_int w d e .i64 .i64 _ _ he
    simp only [List.forIn_cons, Sem.run_bind, px, py, pe, Result.andThen_ok, List.all_cons]
    cases hb : (xs.getD i 0 == ys.getD i 0)
    · simp
    · simp only [Bool.not_true, Bool.false_eq_true, if_false, Sem.run_pure, Result.andThen_ok, Bool.true_and]
      exact ih fun j hj => hl j (by simp [hj])

set_option maxRecDepth 100000 in
theorem eql36 (w : World) (x0 x1 x2 x3 x4 x5 x6 x7 y0 y1 y2 y3 y4 y5 y6 y7 : Int) : (binOp .eql 85 (.agg #[.int .i64 x0, .int .i64 x1, .int .i64 x2, .int .i64 x3, .int .i64 x4, .int .i64 x5, .int .i64 x6, .int .i64 x7]) (.agg #[.int .i64 y0, .int .i64 y1, .int .i64 y2, .int .i64 y3, .int .i64 y4, .int .i64 y5, .int .i64 y6, .int .i64 y7])).run Try.prog w = .ok (.bool (sameV ((⟨x0, x1, x2, x3, x4, x5, x6, x7⟩ : V)) ⟨y0, y1, y2, y3, y4, y5, y6, y7⟩)) w := by
  have h := run_equalIn_ints (P := Try.prog) w 9998 85 3 8 Try.underlying85 Try.underlying3 Try.sizeOf3 [x0, x1, x2, x3, x4, x5, x6, x7] [y0, y1, y2, y3, y4, y5, y6, y7] rfl rfl
  rw [run_eql_struct]
  simp only [List.map_cons, List.map_nil] at h
  rw [show (10000 : Nat) = 9998 + 2 from rfl, h, Result.andThen_ok]
  congr 2
  rw [Bool.eq_iff_iff]
  simp [sameV]
set_option maxRecDepth 100000 in
theorem eqlA (w : World) (a b c d a' b' c' d' : Int) : (Op.equalIn 9999 48 (.agg #[.int .i64 a, .int .i64 b, .int .i64 c, .int .i64 d]) (.agg #[.int .i64 a', .int .i64 b', .int .i64 c', .int .i64 d'])).run Try.prog w = .ok ([a, b, c, d] == [a', b', c', d']) w :=
  run_equalIn_ints (P := Try.prog) w 9997 48 3 4 Try.underlying48 Try.underlying3 Try.sizeOf3 [a, b, c, d] [a', b', c', d'] rfl rfl
set_option maxRecDepth 100000 in
theorem guard36 : Try.prog.eqGuardType Try.prog.depth 85 = false := by kernel_rfl
end Go.Proofs.Ytnpcmoeleigpoaa.U
