/-
  The contract of the example at the head of all statements.
-/
import Derived.Test.YtgcoggejgolhgaaTurned
import Derived.Test.YtgcoggejgolhgaaMask
namespace Go.Proofs.Ytgcoggejgolhgaa
open Go.RowKit
attribute [local go_sem ↓] Go.wp_at_zero Go.wp_at_succ

def e1 : P := ⟨16, 0, 0, 0, 0, 0, 0⟩
def e2 : P := ⟨0, 16, 0, 0, 0, 0, 0⟩
theorem built0 {o : Oper} {ops : Array Oper} {rest : List Oper} {k : Act} {w : World} {Q : Exit → Act → World → Prop} (v : P) (l : List (Nat × Operand)) (ho : o.op = .build 24 l.toArray) (hw : Region.wanted o (yielded ops k.tmps) = true)
    (hf : Try.prog.built 24 ((l.toArray.map fun (i, x) => (i, k.eval x)).toList) = some #[.int .i64 v.x, .int .i64 v.y, .int .i64 v.z, .int .i64 v.a, .int .i64 v.b, .int .i64 v.c, .int .i64 v.d])
    (h : wpList Try.prog ops Q rest (k.put o.dst (.agg #[.int .i64 v.x, .int .i64 v.y, .int .i64 v.z, .int .i64 v.a, .int .i64 v.b, .int .i64 v.c, .int .i64 v.d])) w) : wpList Try.prog ops Q (o :: rest) k w :=
  BigFrame.wpList_want hw fun _ hK => by
    refine wp_build 24 _ ho (by rw [hf]; rfl) ?_
    rw [hf]
    exact hK _ _ h

theorem eqIn50 (w : World) (d : Nat) (f : Fn) (a b : Array Value) : (Op.equalIn (d + 1) 50 (.func f a b) .nilFunc).run Try.prog w = .ok false w := by
  simp [Op.equalIn, run_underlying Try.underlying50]
theorem neq50 (w : World) (f : Fn) (a b : Array Value) : (binOp .neq 50 (.func f a b) .nilFunc).run Try.prog w = .ok (.bool true) w := by
  simp only [binOp]
  simp [Op.equal, Op.maxDepth, eqIn50 w 9999]
theorem eql50 (w : World) (f : Fn) (a b : Array Value) : (binOp .eql 50 (.func f a b) .nilFunc).run Try.prog w = .ok (.bool false) w := by
  simp only [binOp]
  simp [Op.equal, Op.maxDepth, eqIn50 w 9999]

set_option maxRecDepth 100000 in
set_option maxHeartbeats 1000000 in
theorem shown_any (w : World) : Calls Try.prog 7 #[] w fun e w' => e = .returned (.bool true) ∧ Below w.heap.size w w' := by
  have z0 : zP.sm := by constructor <;> decide
  have z1 : e1.sm := by constructor <;> decide
  have z2 : e2.sm := by constructor <;> decide
  have H1 := Lib.hid (fun w => mask_any zP e1 e2 0 0 z0 z1 z2 (by decide) (by decide) w)
  have H2 := Lib.hid (fun w => count_any 5 (by decide) (by decide) w)
  have H3 := Lib.hid (fun w => bits_any 5 w)
  have hne := neq50
  rw [show mask zP e1 e2 0 0 = 5 by decide] at H1
  rw [show (bl 5 4).length = 2 by decide] at H2
  clear z0 z1 z2
  go_enter Try.func7, Try.ntmps7
  go_wp2_with (first | (refine built0 zP [] rfl rfl (by kernel_rfl) ?_) | (refine built0 e1 [(0, .const (.int .i64 16))] rfl rfl (by kernel_rfl) ?_) | (refine built0 e2 [(1, .const (.int .i64 16))] rfl rfl (by kernel_rfl) ?_) | (refine wp_buildT (a := zP) (b := e1) (c := e2) _ _ _ rfl rfl rfl rfl rfl ?_))
  with_reducible refine (H1.out _).mono ?_
  rintro e w1 ⟨rfl, hb⟩
  have K1 := Lib.hid hb
  clear hb
  go_wp2_with fail
  with_reducible refine (H2.out _).mono ?_
  rintro e w2 ⟨rfl, hb⟩
  have K2 := Lib.hid (bstep K1.out K1.out.size hb)
  clear hb
  go_wp2_with fail
  with_reducible refine (H3.out _).mono ?_
  rintro e w3 ⟨rfl, rfl⟩
  go_wp2
  go_ret
  exact ⟨rfl, K2.out.alloc K2.out.size _⟩
end Go.Proofs.Ytgcoggejgolhgaa
