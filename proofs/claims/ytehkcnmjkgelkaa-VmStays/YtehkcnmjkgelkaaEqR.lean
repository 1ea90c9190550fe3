/-
  == of two arrays of eight numbers; Run, whole.
-/
import Derived.Test.YtehkcnmjkgelkaaVGood
import Derived.Test.YtehkcnmjkgelkaaRBad
import Derived.Laws.StructEq
namespace Go.Proofs.Ytehkcnmjkgelkaa
open Go.RowKit C

theorem all_range_ints : ∀ (xs ys : List Int), xs.length = ys.length → ((List.range xs.length).all fun i => xs.getD i 0 == ys.getD i 0) = (xs == ys)
  | [], [], _ => rfl
  | x :: xs, y :: ys, h => by
    have ih := all_range_ints xs ys (by simpa using h)
    rw [List.length_cons, List.range_succ_eq_map, List.all_cons, List.all_map]
    simp only [List.getD_cons_zero, Function.comp_def, List.getD_cons_succ, ih]
    simp [List.cons_beq_cons]
  | [], _ :: _, h => by simp at h
  | _ :: _, [], h => by simp at h
theorem run_equalIn_ints {P : Program} (w : World) (d : Nat) (t e : TypeId) (n : Nat) (ht : P.underlying t = some (.array n e)) (he : P.underlying e = some (.int .i64)) (hsz : ∀ w, (sizeOf e).run P w = .ok 1 w)
    (xs ys : List Int) (hx : xs.length = n) (hy : ys.length = n) :
    (Op.equalIn (d + 2) t (.agg (xs.map fun k => Value.int .i64 k).toArray) (.agg (ys.map fun k => Value.int .i64 k).toArray)).run P w = .ok (xs == ys) w := by
  rw [← all_range_ints xs ys (hx.trans hy.symm), hx, List.range_eq_range', Op.equalIn]
  simp only [Sem.run_bind, run_underlying ht, Result.andThen_ok, hsz, Std.Legacy.Range.forIn_eq_forIn_range', Std.Legacy.Range.size, Nat.sub_zero, Nat.add_sub_cancel, Nat.div_one]
  have hl : ∀ i ∈ List.range' 0 n 1, i < n := fun i hi => by simpa using (List.mem_range'_1.1 hi).2
  generalize List.range' 0 n 1 = l at hl ⊢
  induction l with
  | nil => simp
  | cons i l ih =>
    have hi : i < n := hl i (by simp)
    have px : (part e (xs.map fun k => Value.int .i64 k).toArray (i * 1)).run P w = .ok (.int .i64 (xs.getD i 0)) w := by
      simp [part, isAgg, run_underlying he, List.getD, List.getElem?_eq_getElem (show i < xs.length by omega)]
    have py : (part e (ys.map fun k => Value.int .i64 k).toArray (i * 1)).run P w = .ok (.int .i64 (ys.getD i 0)) w := by
      simp [part, isAgg, run_underlying he, List.getD, List.getElem?_eq_getElem (show i < ys.length by omega)]
    have pe : (Op.equalIn (d + 1) e (.int .i64 (xs.getD i 0)) (.int .i64 (ys.getD i 0))).run P w = .ok (xs.getD i 0 == ys.getD i 0) w := run_equalIn_int w d e .i64 .i64 _ _ he
    simp only [List.forIn_cons, Sem.run_bind, px, py, pe, Result.andThen_ok, List.all_cons]
    cases hb : (xs.getD i 0 == ys.getD i 0)
    · simp
    · simp only [Bool.not_true, Bool.false_eq_true, if_false, Sem.run_pure, Result.andThen_ok, Bool.true_and]
      exact ih fun j hj => hl j (by simp [hj])
theorem eqlR {L M : List Int} (hL : L.length = 8) (hM : M.length = 8) (w : World) : (binOp .eql 26 (.agg (regC L)) (.agg (regC M))).run Try.prog w = .ok (.bool (L == M)) w := by
  have h := run_equalIn_ints (P := Try.prog) w 9998 26 3 8 Try.underlying26 Try.underlying3 Try.sizeOf3 L M hL hM
  rw [run_eql_struct]
  unfold regC
  rw [show (10000 : Nat) = 9998 + 2 from rfl, h, Result.andThen_ok]
theorem neqR {L M : List Int} (hL : L.length = 8) (hM : M.length = 8) (w : World) : (binOp .neq 26 (.agg (regC L)) (.agg (regC M))).run Try.prog w = .ok (.bool (!(L == M))) w := by
  have h := run_equalIn_ints (P := Try.prog) w 9998 26 3 8 Try.underlying26 Try.underlying3 Try.sizeOf3 L M hL hM
  rw [run_neq_struct]
  unfold regC
  rw [show (10000 : Nat) = 9998 + 2 from rfl, h]
  rfl
theorem guardR : Try.prog.eqGuardType Try.prog.depth 26 = false := by kernel_rfl

/-- What Run tells: the registers, how many instructions were done, the error. -/
def runQ (l : List In) (t : Tx) (R : List Int) : List Int × Nat × Int :=
  if chkT l t = 0 then ((fin l t l.length 0 (R.map w32) 0).1, (fin l t l.length 0 (R.map w32) 0).2, 0) else (zero8, 0, chkT l t)
theorem chkT_ok {l : List In} {t : Tx} (h : chkT l t = 0) : chk l = 0 := by
  unfold chkT at h
  rcases chk_ways l with e | e
  · exact e
  · rw [if_pos (by omega)] at h; omega
theorem chkT_of {l : List In} {t : Tx} (h : chk l = 0) (h2 : l.any tex = false ∨ t.right = true) : chkT l t = 0 := by
  unfold chkT
  rw [if_neg (by omega), if_neg]
  rintro ⟨e, f⟩
  rcases h2 with h2 | h2 <;> simp_all
theorem runQ_ok {l : List In} {t : Tx} {R : List Int} (h : chkT l t = 0) : runQ l t R = ((fin l t l.length 0 (R.map w32) 0).1, (fin l t l.length 0 (R.map w32) 0).2, 0) := if_pos h
theorem runQ_reg {l : List In} {t : Tx} {R : List Int} (h : R.length = 8) : Reg (runQ l t R).1 := by
  unfold runQ
  split
  · exact fin_reg _ _ _ (map_reg h)
  · exact zero8_reg
theorem runQ_len {l : List In} {t : Tx} {R : List Int} (h : R.length = 8) : (runQ l t R).1.length = 8 := (runQ_reg h).1
/-- The answer of Run as a value. -/
def runV (x : List Int × Nat × Int) : Value := .tuple #[.agg (regC x.1), .int .i64 x.2.1, .int .i64 x.2.2]
theorem run_any (l : List In) (A : Option Addr) (c : Nat) (t : Tx) (B : Option Addr) (kc : Nat) (r0 r1 r2 r3 r4 r5 r6 r7 : Int) (hok : ∀ x ∈ l, x.ok) (ht : t.ok) (w : World) (he : Es EI w w.heap.size A l) (hp : Es EC w w.heap.size B t.px) :
    Calls Try.prog 11 #[.slice A l.length c, .agg #[.int .i64 t.w, .int .i64 t.h, .slice B t.px.length kc], .agg #[.int .i64 r0, .int .i64 r1, .int .i64 r2, .int .i64 r3, .int .i64 r4, .int .i64 r5, .int .i64 r6, .int .i64 r7]] w fun e w' => e = .returned (runV (runQ l t [r0, r1, r2, r3, r4, r5, r6, r7])) ∧ Below w.heap.size w w' := by
  unfold runQ
  by_cases h : chkT l t = 0
  · rw [if_pos h]
    exact run_good l A c t B kc r0 r1 r2 r3 r4 r5 r6 r7 hok ht w he hp h (chkT_ok h)
  · rw [if_neg h]
    exact run_bad l A c t B kc r0 r1 r2 r3 r4 r5 r6 r7 hok w he h
end Go.Proofs.Ytehkcnmjkgelkaa
