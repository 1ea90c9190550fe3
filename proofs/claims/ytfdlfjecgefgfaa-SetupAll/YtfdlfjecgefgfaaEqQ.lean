/-
  A part is the same as itself, in the model; the reference's Same.
-/
import Derived.Test.YtfdlfjecgefgfaaBig
import Derived.Test.YtfdlfjecgefgfaaCEq
import Derived.Laws.StructEq
namespace Go.Proofs.Ytfdlfjecgefgfaa
open Go.RowKit
attribute [local go_sem ↓] Go.wp_at_zero Go.wp_at_succ

theorem selfA (w : World) (a b c d : Int) : (Op.equalIn 9997 23 (.agg #[.int .i64 a, .int .i64 b, .int .i64 c, .int .i64 d]) (.agg #[.int .i64 a, .int .i64 b, .int .i64 c, .int .i64 d])).run Try.prog w = .ok true w := by
  have h := C.run_equalIn_ints (P := Try.prog) w 9995 23 3 4 Try.underlying23 Try.underlying3 Try.sizeOf3 [a, b, c, d] [a, b, c, d] rfl rfl
  simpa using h
theorem selfP (w : World) (x0 x1 x2 x3 x4 x5 x6 : Int) : (Op.equalIn 9998 37 (.agg #[.int .i64 x0, .int .i64 x1, .int .i64 x2, .int .i64 x3, .int .i64 x4, .int .i64 x5, .int .i64 x6]) (.agg #[.int .i64 x0, .int .i64 x1, .int .i64 x2, .int .i64 x3, .int .i64 x4, .int .i64 x5, .int .i64 x6])).run Try.prog w = .ok true w := by
  have u3 := Try.underlying3
  have hS : Try.prog.underlying 37 = some (.struct (Try.prog.fieldsOf 37)) := by kernel_rfl
  have hp : Try.prog.stoodInHeld 37 = false := by kernel_rfl
  have h22 := selfA w
  rw [show (9998 : Nat) = 9997 + 1 from rfl, run_equalIn_agg w 9997 37 _ _ hS hp]
  simp only [Program.fieldsOf, Try.underlying37]
  go_simp
theorem part37 (w : World) (a b c : P) : (part 37 #[.int .i64 a.x, .int .i64 a.y, .int .i64 a.z, .int .i64 a.a, .int .i64 a.b, .int .i64 a.c, .int .i64 a.d, .int .i64 b.x, .int .i64 b.y, .int .i64 b.z, .int .i64 b.a, .int .i64 b.b, .int .i64 b.c, .int .i64 b.d, .int .i64 c.x, .int .i64 c.y, .int .i64 c.z, .int .i64 c.a, .int .i64 c.b, .int .i64 c.c, .int .i64 c.d] (0 * 7)).run Try.prog w = .ok (.agg #[.int .i64 a.x, .int .i64 a.y, .int .i64 a.z, .int .i64 a.a, .int .i64 a.b, .int .i64 a.c, .int .i64 a.d]) w ∧ (part 37 #[.int .i64 a.x, .int .i64 a.y, .int .i64 a.z, .int .i64 a.a, .int .i64 a.b, .int .i64 a.c, .int .i64 a.d, .int .i64 b.x, .int .i64 b.y, .int .i64 b.z, .int .i64 b.a, .int .i64 b.b, .int .i64 b.c, .int .i64 b.d, .int .i64 c.x, .int .i64 c.y, .int .i64 c.z, .int .i64 c.a, .int .i64 c.b, .int .i64 c.c, .int .i64 c.d] (1 * 7)).run Try.prog w = .ok (.agg #[.int .i64 b.x, .int .i64 b.y, .int .i64 b.z, .int .i64 b.a, .int .i64 b.b, .int .i64 b.c, .int .i64 b.d]) w ∧ (part 37 #[.int .i64 a.x, .int .i64 a.y, .int .i64 a.z, .int .i64 a.a, .int .i64 a.b, .int .i64 a.c, .int .i64 a.d, .int .i64 b.x, .int .i64 b.y, .int .i64 b.z, .int .i64 b.a, .int .i64 b.b, .int .i64 b.c, .int .i64 b.d, .int .i64 c.x, .int .i64 c.y, .int .i64 c.z, .int .i64 c.a, .int .i64 c.b, .int .i64 c.c, .int .i64 c.d] (2 * 7)).run Try.prog w = .ok (.agg #[.int .i64 c.x, .int .i64 c.y, .int .i64 c.z, .int .i64 c.a, .int .i64 c.b, .int .i64 c.c, .int .i64 c.d]) w :=
  ⟨by kernel_rfl, by kernel_rfl, by kernel_rfl⟩
theorem selfT (w : World) (a b c : P) : (Op.equalIn 9999 38 (.agg #[.int .i64 a.x, .int .i64 a.y, .int .i64 a.z, .int .i64 a.a, .int .i64 a.b, .int .i64 a.c, .int .i64 a.d, .int .i64 b.x, .int .i64 b.y, .int .i64 b.z, .int .i64 b.a, .int .i64 b.b, .int .i64 b.c, .int .i64 b.d, .int .i64 c.x, .int .i64 c.y, .int .i64 c.z, .int .i64 c.a, .int .i64 c.b, .int .i64 c.c, .int .i64 c.d]) (.agg #[.int .i64 a.x, .int .i64 a.y, .int .i64 a.z, .int .i64 a.a, .int .i64 a.b, .int .i64 a.c, .int .i64 a.d, .int .i64 b.x, .int .i64 b.y, .int .i64 b.z, .int .i64 b.a, .int .i64 b.b, .int .i64 b.c, .int .i64 b.d, .int .i64 c.x, .int .i64 c.y, .int .i64 c.z, .int .i64 c.a, .int .i64 c.b, .int .i64 c.c, .int .i64 c.d])).run Try.prog w = .ok true w := by
  obtain ⟨p0, p1, p2⟩ := part37 w a b c
  have hsz : ∀ w, (sizeOf 37).run Try.prog w = .ok 7 w := Try.sizeOf37
  rw [show (9999 : Nat) = 9998 + 1 from rfl, Op.equalIn]
  simp only [Sem.run_bind, run_underlying Try.underlying38, Result.andThen_ok, hsz, Std.Legacy.Range.forIn_eq_forIn_range', Std.Legacy.Range.size, Nat.sub_zero, Nat.add_sub_cancel, Nat.div_one]
  rw [show List.range' 0 3 1 = [0, 1, 2] from rfl]
  simp only [List.forIn_cons, List.forIn_nil, Sem.run_bind, p0, p1, p2, selfP, Result.andThen_ok, Bool.not_true, Bool.false_eq_true, if_false, Sem.run_pure]
theorem part40 (w : World) (n : Int) (a b c : P) : (part 3 #[.int .i64 n, .int .i64 a.x, .int .i64 a.y, .int .i64 a.z, .int .i64 a.a, .int .i64 a.b, .int .i64 a.c, .int .i64 a.d, .int .i64 b.x, .int .i64 b.y, .int .i64 b.z, .int .i64 b.a, .int .i64 b.b, .int .i64 b.c, .int .i64 b.d, .int .i64 c.x, .int .i64 c.y, .int .i64 c.z, .int .i64 c.a, .int .i64 c.b, .int .i64 c.c, .int .i64 c.d] 0).run Try.prog w = .ok (.int .i64 n) w ∧ (part 38 #[.int .i64 n, .int .i64 a.x, .int .i64 a.y, .int .i64 a.z, .int .i64 a.a, .int .i64 a.b, .int .i64 a.c, .int .i64 a.d, .int .i64 b.x, .int .i64 b.y, .int .i64 b.z, .int .i64 b.a, .int .i64 b.b, .int .i64 b.c, .int .i64 b.d, .int .i64 c.x, .int .i64 c.y, .int .i64 c.z, .int .i64 c.a, .int .i64 c.b, .int .i64 c.c, .int .i64 c.d] 1).run Try.prog w = .ok (.agg #[.int .i64 a.x, .int .i64 a.y, .int .i64 a.z, .int .i64 a.a, .int .i64 a.b, .int .i64 a.c, .int .i64 a.d, .int .i64 b.x, .int .i64 b.y, .int .i64 b.z, .int .i64 b.a, .int .i64 b.b, .int .i64 b.c, .int .i64 b.d, .int .i64 c.x, .int .i64 c.y, .int .i64 c.z, .int .i64 c.a, .int .i64 c.b, .int .i64 c.c, .int .i64 c.d]) w :=
  ⟨by kernel_rfl, by kernel_rfl⟩
theorem selfQ (w : World) (n : Int) (a b c : P) : (Op.equalIn 10000 40 (.agg #[.int .i64 n, .int .i64 a.x, .int .i64 a.y, .int .i64 a.z, .int .i64 a.a, .int .i64 a.b, .int .i64 a.c, .int .i64 a.d, .int .i64 b.x, .int .i64 b.y, .int .i64 b.z, .int .i64 b.a, .int .i64 b.b, .int .i64 b.c, .int .i64 b.d, .int .i64 c.x, .int .i64 c.y, .int .i64 c.z, .int .i64 c.a, .int .i64 c.b, .int .i64 c.c, .int .i64 c.d]) (.agg #[.int .i64 n, .int .i64 a.x, .int .i64 a.y, .int .i64 a.z, .int .i64 a.a, .int .i64 a.b, .int .i64 a.c, .int .i64 a.d, .int .i64 b.x, .int .i64 b.y, .int .i64 b.z, .int .i64 b.a, .int .i64 b.b, .int .i64 b.c, .int .i64 b.d, .int .i64 c.x, .int .i64 c.y, .int .i64 c.z, .int .i64 c.a, .int .i64 c.b, .int .i64 c.c, .int .i64 c.d])).run Try.prog w = .ok true w := by
  have hS : Try.prog.underlying 40 = some (.struct (Try.prog.fieldsOf 40)) := by kernel_rfl
  have hp : Try.prog.stoodInHeld 40 = false := by kernel_rfl
  obtain ⟨p0, p1⟩ := part40 w n a b c
  have e3 := run_equalIn_int (P := Try.prog) w 9998 3 .i64 .i64 n n Try.underlying3
  have e38 := selfT w a b c
  rw [show (10000 : Nat) = 9999 + 1 from rfl, run_equalIn_agg w 9999 40 _ _ hS hp]
  simp only [Program.fieldsOf, Try.underlying40]
  simp [Op.eqFields, p0, p1, e38, e3]
theorem guardQ : Try.prog.eqGuardType Try.prog.depth 40 = false := by kernel_rfl
section
variable {ops : Array Oper} {rest : List Oper} {o : Oper} {k : Act} {X : World} {S : Act → Prop} {g e : Nat} {n : Int} {a b c : P}
theorem quiet_midQ (x : Operand) (ho : o.op = .load 40 x) (hw : Region.wanted o (yielded ops k.tmps) = true) (hx : k.eval x = .pointer (some ⟨g, e, none⟩)) (hr : X.rangeAt g e [.int .i64 n, .int .i64 a.x, .int .i64 a.y, .int .i64 a.z, .int .i64 a.a, .int .i64 a.b, .int .i64 a.c, .int .i64 a.d, .int .i64 b.x, .int .i64 b.y, .int .i64 b.z, .int .i64 b.a, .int .i64 b.b, .int .i64 b.c, .int .i64 b.d, .int .i64 c.x, .int .i64 c.y, .int .i64 c.z, .int .i64 c.a, .int .i64 c.b, .int .i64 c.c, .int .i64 c.d]) (hg : g < X.heap.size)
    (h : wpQuiet Try.prog ops (fun w' => ∃ x : Grow X, w' = x.w) S rest (k.put o.dst (.agg #[.int .i64 n, .int .i64 a.x, .int .i64 a.y, .int .i64 a.z, .int .i64 a.a, .int .i64 a.b, .int .i64 a.c, .int .i64 a.d, .int .i64 b.x, .int .i64 b.y, .int .i64 b.z, .int .i64 b.a, .int .i64 b.b, .int .i64 b.c, .int .i64 b.d, .int .i64 c.x, .int .i64 c.y, .int .i64 c.z, .int .i64 c.a, .int .i64 c.b, .int .i64 c.c, .int .i64 c.d]))) : wpQuiet Try.prog ops (fun w' => ∃ x : Grow X, w' = x.w) S (o :: rest) k :=
  BigFrame.wpQuiet_want hw fun K hK => ⟨.agg #[.int .i64 n, .int .i64 a.x, .int .i64 a.y, .int .i64 a.z, .int .i64 a.a, .int .i64 a.b, .int .i64 a.c, .int .i64 a.d, .int .i64 b.x, .int .i64 b.y, .int .i64 b.z, .int .i64 b.a, .int .i64 b.b, .int .i64 b.c, .int .i64 b.d, .int .i64 c.x, .int .i64 c.y, .int .i64 c.z, .int .i64 c.a, .int .i64 c.b, .int .i64 c.c, .int .i64 c.d], fun w hw => by
    obtain ⟨y, rfl⟩ := hw
    unfold Oper.quietAt
    have hl := run_loadAt_mid (P := Try.prog) y.w g e 40 [.int .i64 n, .int .i64 a.x, .int .i64 a.y, .int .i64 a.z, .int .i64 a.a, .int .i64 a.b, .int .i64 a.c, .int .i64 a.d, .int .i64 b.x, .int .i64 b.y, .int .i64 b.z, .int .i64 b.a, .int .i64 b.b, .int .i64 b.c, .int .i64 b.d, .int .i64 c.x, .int .i64 c.y, .int .i64 c.z, .int .i64 c.a, .int .i64 c.b, .int .i64 c.c, .int .i64 c.d] _ (range_below hr y.below hg) Try.underlying40 rfl (by kernel_rfl)
    simp [execOp, ho, hx, hl, Result.andThen]
    exact ⟨rfl, rfl⟩, hK _ h⟩
theorem quiet_neqQ (x y : Operand) (ho : o.op = .binOp .neq 40 x y 40) (hw : Region.wanted o (yielded ops k.tmps) = true) (hx : k.eval x = .agg #[.int .i64 n, .int .i64 a.x, .int .i64 a.y, .int .i64 a.z, .int .i64 a.a, .int .i64 a.b, .int .i64 a.c, .int .i64 a.d, .int .i64 b.x, .int .i64 b.y, .int .i64 b.z, .int .i64 b.a, .int .i64 b.b, .int .i64 b.c, .int .i64 b.d, .int .i64 c.x, .int .i64 c.y, .int .i64 c.z, .int .i64 c.a, .int .i64 c.b, .int .i64 c.c, .int .i64 c.d]) (hy : k.eval y = .agg #[.int .i64 n, .int .i64 a.x, .int .i64 a.y, .int .i64 a.z, .int .i64 a.a, .int .i64 a.b, .int .i64 a.c, .int .i64 a.d, .int .i64 b.x, .int .i64 b.y, .int .i64 b.z, .int .i64 b.a, .int .i64 b.b, .int .i64 b.c, .int .i64 b.d, .int .i64 c.x, .int .i64 c.y, .int .i64 c.z, .int .i64 c.a, .int .i64 c.b, .int .i64 c.c, .int .i64 c.d])
    (h : wpQuiet Try.prog ops (fun w' => ∃ x : Grow X, w' = x.w) S rest (k.put o.dst (.bool false))) : wpQuiet Try.prog ops (fun w' => ∃ x : Grow X, w' = x.w) S (o :: rest) k :=
  BigFrame.wpQuiet_want hw fun K hK => ⟨.bool false, fun w hw => by
    unfold Oper.quietAt
    have hl := selfQ w n a b c
    have hq : (binOp .neq 40 (.agg #[.int .i64 n, .int .i64 a.x, .int .i64 a.y, .int .i64 a.z, .int .i64 a.a, .int .i64 a.b, .int .i64 a.c, .int .i64 a.d, .int .i64 b.x, .int .i64 b.y, .int .i64 b.z, .int .i64 b.a, .int .i64 b.b, .int .i64 b.c, .int .i64 b.d, .int .i64 c.x, .int .i64 c.y, .int .i64 c.z, .int .i64 c.a, .int .i64 c.b, .int .i64 c.c, .int .i64 c.d]) (.agg #[.int .i64 n, .int .i64 a.x, .int .i64 a.y, .int .i64 a.z, .int .i64 a.a, .int .i64 a.b, .int .i64 a.c, .int .i64 a.d, .int .i64 b.x, .int .i64 b.y, .int .i64 b.z, .int .i64 b.a, .int .i64 b.b, .int .i64 b.c, .int .i64 b.d, .int .i64 c.x, .int .i64 c.y, .int .i64 c.z, .int .i64 c.a, .int .i64 c.b, .int .i64 c.c, .int .i64 c.d])).run Try.prog w = .ok (.bool false) w := by
      rw [run_neq_struct, hl, Result.andThen_ok]
      rfl
    simp only [execOp, ho, hx, hy, Sem.run_bind, run_eqGuard_agg _ _ _ _ _ _ _ guardQ, hq, Result.andThen_ok, Sem.run_pure]
    exact ⟨rfl, rfl⟩, hK _ h⟩
end
set_option maxRecDepth 100000 in
set_option maxHeartbeats 2000000 in
theorem same_any (A A' : Option Addr) (c c' : Nat) (xs : List Q) (w : World) (hs : Es EQ w w.heap.size A xs) (hs' : Es EQ w w.heap.size A' xs) (hl : xs.length ≤ 100000) :
    Calls Try.prog 12 #[.slice A xs.length c, .slice A' xs.length c'] w fun e w' => e = .returned (.bool true) ∧ Below w.heap.size w w' := by
  have HS := Lib.hid hs
  have HT := Lib.hid hs'
  clear hs hs'
  generalize hn : xs.length = n at *
  have HN := Lib.hid hn
  clear hn
  go_enter Try.func12, Try.ntmps12
  go_wp2
  go_loopw [5] (fun i wr => ∃ t : Nat, t ≤ n ∧ i = .int .i64 t ∧ Below w.heap.size w wr) (fun i _ => n - (intOf i).toNat)
  case atStart => exact ⟨0, by omega, rfl, Below.refl _ _⟩
  case round =>
    obtain ⟨t, ht, rfl, hb⟩ := hrel
    have HB := Lib.hid hb
    clear hb
    by_cases hlt : t < n
    · obtain ⟨q, hq⟩ : ∃ q, xs[t]? = some q := ⟨_, List.getElem?_eq_getElem (show t < xs.length by rw [HN.out]; exact hlt)⟩
      obtain ⟨b, off, rfl, hbB, hat⟩ := HS.out.at hq
      obtain ⟨b', off', rfl, hbB', hat'⟩ := HT.out.at hq
      have R1 := Lib.hid (show wr.rangeAt b (off + t * 22) [.int .i64 q.n, .int .i64 q.a.x, .int .i64 q.a.y, .int .i64 q.a.z, .int .i64 q.a.a, .int .i64 q.a.b, .int .i64 q.a.c, .int .i64 q.a.d, .int .i64 q.b.x, .int .i64 q.b.y, .int .i64 q.b.z, .int .i64 q.b.a, .int .i64 q.b.b, .int .i64 q.b.c, .int .i64 q.b.d, .int .i64 q.c.x, .int .i64 q.c.y, .int .i64 q.c.z, .int .i64 q.c.a, .int .i64 q.c.b, .int .i64 q.c.c, .int .i64 q.c.d] from hat.below HB.out hbB)
      have R2 := Lib.hid (show wr.rangeAt b' (off' + t * 22) [.int .i64 q.n, .int .i64 q.a.x, .int .i64 q.a.y, .int .i64 q.a.z, .int .i64 q.a.a, .int .i64 q.a.b, .int .i64 q.a.c, .int .i64 q.a.d, .int .i64 q.b.x, .int .i64 q.b.y, .int .i64 q.b.z, .int .i64 q.b.a, .int .i64 q.b.b, .int .i64 q.b.c, .int .i64 q.b.d, .int .i64 q.c.x, .int .i64 q.c.y, .int .i64 q.c.z, .int .i64 q.c.a, .int .i64 q.c.b, .int .i64 q.c.c, .int .i64 q.c.d] from hat'.below HB.out hbB')
      have z1 : b < wr.heap.size := by have := HB.out.size; omega
      have z2 : b' < wr.heap.size := by have := HB.out.size; omega
      have hti : (t : Int) < (n : Int) := by omega
      have ne1 := Grow.ne wr
      clear hat hat' hq
      go_wp2_with fail
      refine wp_region_grow (by kernel_rfl) (by kernel_rfl) ?_
      repeat (first | (refine quiet_midQ (n := q.n) (a := q.a) (b := q.b) (c := q.c) (.tmp 19) rfl rfl rfl R1.out z1 ?_; simp only [Act.put, List.setIfInBounds_toArray, List.set_cons_zero, List.set_cons_succ]) | (refine quiet_midQ (n := q.n) (a := q.a) (b := q.b) (c := q.c) (.tmp 23) rfl rfl rfl R2.out z2 ?_; simp only [Act.put, List.setIfInBounds_toArray, List.set_cons_zero, List.set_cons_succ]) | (refine quiet_neqQ (n := q.n) (a := q.a) (b := q.b) (c := q.c) (.tmp 20) (.tmp 24) rfl rfl rfl rfl ?_; simp only [Act.put, List.setIfInBounds_toArray, List.set_cons_zero, List.set_cons_succ]) | (go_big_quiet_step (fail)))
      refine wpQuiet_nil ?_
      rintro _ ⟨x, rfl⟩
      have BX := Lib.hid (bstep HB.out HB.out.size x.below)
      generalize x.w = w5 at *
      go_wp2
      go_roundw
      case rel => exact ⟨t + 1, by omega, by go_num, BX.out⟩
      case measure => simp [intOf]; omega
    · go_wp2
      go_ret
      exact ⟨rfl, HB.out⟩
end Go.Proofs.Ytfdlfjecgefgfaa
