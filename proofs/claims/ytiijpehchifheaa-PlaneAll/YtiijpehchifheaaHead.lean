/-
  The contracts of the example at the head of all statements, of the statements' three small numbers, of the least and the greatest of three, and of plane.held.
-/
import Derived.Test.YtiijpehchifheaaAt
namespace Go.Proofs.Ytiijpehchifheaa
open Go.RowKit
attribute [local go_sem ↓] Go.wp_at_zero Go.wp_at_succ

def e1 : P := ⟨16, 0, 0, 0, 0, 0, 0⟩
def e2 : P := ⟨0, 16, 0, 0, 0, 0, 0⟩
theorem built0 {o : Oper} {ops : Array Oper} {rest : List Oper} {k : Act} {w : World} {Q : Exit → Act → World → Prop} (v : P) (l : List (Nat × Operand)) (ho : o.op = .build 24 l.toArray) (hw : Region.wanted o (yielded ops k.tmps) = true)
    (hf : Try.prog.built 24 ((l.toArray.map fun (i, x) => (i, k.eval x)).toList) = some #[.int .i64 v.x, .int .i64 v.y, .int .i64 v.z, .int .i64 v.a, .int .i64 v.b, .int .i64 v.c, .int .i64 v.d])
    (h : wpList Try.prog ops Q rest (k.put o.dst (.agg #[.int .i64 v.x, .int .i64 v.y, .int .i64 v.z, .int .i64 v.a, .int .i64 v.b, .int .i64 v.c, .int .i64 v.d])) w) : wpList Try.prog ops Q (o :: rest) k w :=
  BigFrame.wpList_want hw fun _ hK => by
    refine wp_build 24 _ ho (by rw [hf]; rfl) ?_
    rw [hf]
    exact hK _ _ h

set_option maxRecDepth 100000 in
set_option maxHeartbeats 1000000 in
theorem shown_any (w : World) : Calls Try.prog 9 #[] w fun e w' => e = .returned (.bool true) ∧ Below w.heap.size w w' := by
  have z0 : zP.ok := by constructor <;> decide
  have z1 : e1.ok := by constructor <;> decide
  have z2 : e2.ok := by constructor <;> decide
  have H1 := Lib.hid (fun w => at_any zP e1 e2 0 16 32 8 4 16 z0 z1 z2 (by constructor <;> decide) (by constructor <;> decide) (by constructor <;> decide) (by constructor <;> decide) (by constructor <;> decide) (by decide) w)
  clear z0 z1 z2
  go_enter Try.func9, Try.ntmps9
  go_wp2_with (first | (refine built0 zP [] rfl rfl (by kernel_rfl) ?_) | (refine built0 e1 [(0, .const (.int .i64 16))] rfl rfl (by kernel_rfl) ?_) | (refine built0 e2 [(1, .const (.int .i64 16))] rfl rfl (by kernel_rfl) ?_) | (refine wp_buildT (a := zP) (b := e1) (c := e2) _ _ _ rfl rfl rfl rfl rfl ?_))
  with_reducible refine (H1.out _).mono ?_
  rintro e w1 ⟨rfl, hb⟩
  have K1 := Lib.hid hb
  clear hb
  go_wp2
  go_ret
  exact ⟨rfl, K1.out⟩

def sm (n : Int) : Int := n.tmod 1073741825
theorem sm_bd (n : Int) : -1073741824 ≤ sm n ∧ sm n ≤ 1073741824 := by
  have h := tmod_bd n 1073741825 (by decide)
  unfold sm
  omega
theorem sm_ask (n : Int) : Ask (sm n) := by
  have h := sm_bd n
  unfold Ask
  omega
set_option maxHeartbeats 2000000 in
theorem lawsmall_any (l m n : Int) (w : World) :
    Calls Try.prog 11 #[.agg #[.int .i64 l, .int .i64 m, .int .i64 n]] w fun e w' => e = .returned (.agg #[.int .i64 (sm l), .int .i64 (sm m), .int .i64 (sm n)]) ∧ Below w.heap.size w w' := by
  have hb : ∀ o o' o'', Below w.heap.size w (((w.alloc o).alloc o').alloc o'') := fun o o' o'' => (((Below.refl _ _).alloc (Nat.le_refl _) o).alloc (by simp) o').alloc (by simp; omega) o''
  have HB := Lib.hid hb
  clear hb
  go_enter Try.func11, Try.ntmps11
  go_wp2
  refine wp_loop_rounds 4 ?_
  rw [rounds_succ]
  go_wp2
  rw [rounds_succ]
  go_wp2
  rw [rounds_succ]
  go_wp2
  rw [rounds_succ]
  go_wp2
  refine bodyPost_ret (v := .agg #[.int .i64 (sm l), .int .i64 (sm m), .int .i64 (sm n)]) (by simp [results, Try.results11, go_sem, sm]) rfl ⟨rfl, ?_⟩
  exact HB.out _ _ _

theorem run_min3 (w : World) (ts : Array TypeId) (t : TypeId) (x y z : Int) :
    (Builtin.min_ ts t #[.int .i64 x, .int .i64 y, .int .i64 z]).run Try.prog w = .ok (.int .i64 (min x (min y z))) w := by
  have e : ∀ x y : Int, (if y < x then y else x) = min x y := by
    intro x y
    rw [Int.min_def]
    split <;> split <;> omega
  simp [Builtin.min_, Builtin.min2, e]
theorem run_max3 (w : World) (ts : Array TypeId) (t : TypeId) (x y z : Int) :
    (Builtin.max_ ts t #[.int .i64 x, .int .i64 y, .int .i64 z]).run Try.prog w = .ok (.int .i64 (max x (max y z))) w := by
  have e : ∀ x y : Int, (if y > x then y else x) = max x y := by
    intro x y
    rw [Int.max_def]
    split <;> split <;> omega
  simp [Builtin.max_, Builtin.max2, e]
attribute [local go_sem high] run_min3 run_max3

theorem below_drewN {B n : Nat} {a b : World} (h : Below B a b) : Below B a (b.drewN n) := h.trans ⟨rfl, rfl, rfl, Nat.le_refl _, fun _ _ => rfl⟩
set_option maxHeartbeats 1000000 in
theorem held_any (z l m n : Int) (w : World) :
    Calls Try.prog 27 #[.int .i64 z, .agg #[.int .i64 l, .int .i64 m, .int .i64 n]] w fun e w' => e = .returned (.int .i64 (hld z l m n)) ∧ Below w.heap.size w w' := by
  have HK := Lib.hid fun o => ((Below.refl w.heap.size w).alloc (Nat.le_refl _) o)
  unfold hld
  go_enter Try.func27, Try.ntmps27
  go_wp2_with fail
  go_quiet (fail)
  go_wp2
  go_ret
  exact ⟨rfl, below_drewN (HK.out _)⟩
end Go.Proofs.Ytiijpehchifheaa
