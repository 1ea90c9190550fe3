/-
  The contract of the example at the head of all statements.
-/
import Derived.Test.YtoocphkpmlgipaaTurned
namespace Go.Proofs.Ytoocphkpmlgipaa
open Go.RowKit
attribute [local go_sem ↓] Go.wp_at_zero Go.wp_at_succ

def e1 : P := ⟨16, 0, 0, 0, 0, 0, 0⟩
def e2 : P := ⟨0, 16, 0, 0, 0, 0, 0⟩
theorem built0 {o : Oper} {ops : Array Oper} {rest : List Oper} {k : Act} {w : World} {Q : Exit → Act → World → Prop} (v : P) (l : List (Nat × Operand)) (ho : o.op = .build 24 l.toArray) (hw : Region.wanted o (yielded ops k.tmps) = true)
    (hf : Try.prog.built 24 ((l.toArray.map fun (i, x) => (i, k.eval x)).toList) = some #[.int .i64 v.x, .int .i64 v.y, .int .i64 v.z, .int .i64 v.a, .int .i64 v.b, .int .i64 v.c, .int .i64 v.d])
    (h : wpList Try.prog ops Q rest (k.put o.dst (.agg #[.int .i64 v.x, .int .i64 v.y, .int .i64 v.z, .int .i64 v.a, .int .i64 v.b, .int .i64 v.c, .int .i64 v.d])) w) : wpList Try.prog ops Q (o :: rest) k w :=
  BigFrame.wpList_want hw fun _ hK => by
    refine wp_build 24 _ ho (by rw [hf]; rfl) ?_
    rw [hf]
    exact hK _ _ h

set_option maxRecDepth 100000 in
set_option maxHeartbeats 1000000 in
theorem shown_any (w : World) : Calls Try.prog 9 #[] w fun e w' => e = .returned (.bool true) ∧ Below w.heap.size w w' := by
  have z0 : zP.sm := by constructor <;> decide
  have z1 : e1.sm := by constructor <;> decide
  have z2 : e2.sm := by constructor <;> decide
  have H1 := Lib.hid (fun w => in_any zP e1 e2 0 0 z0 z1 z2 (by decide) (by decide) (by decide) (by decide) w)
  have H2 := Lib.hid (fun w => in_any zP e1 e2 16 0 z0 z1 z2 (by decide) (by decide) (by decide) (by decide) w)
  have H3 := Lib.hid (fun w => in_any zP e1 e2 8 8 z0 z1 z2 (by decide) (by decide) (by decide) (by decide) w)
  have H4 := Lib.hid (fun w => area_any zP e1 e2 z0 z1 z2 w)
  rw [show inn zP e1 e2 0 0 = true by decide] at H1
  rw [show inn zP e1 e2 16 0 = false by decide] at H2
  rw [show inn zP e1 e2 8 8 = false by decide] at H3
  rw [show area zP e1 e2 = 256 by decide] at H4
  clear z0 z1 z2
  go_enter Try.func9, Try.ntmps9
  go_wp2_with (first | (refine built0 zP [] rfl rfl (by kernel_rfl) ?_) | (refine built0 e1 [(0, .const (.int .i64 16))] rfl rfl (by kernel_rfl) ?_) | (refine built0 e2 [(1, .const (.int .i64 16))] rfl rfl (by kernel_rfl) ?_) | (refine wp_buildT (a := zP) (b := e1) (c := e2) _ _ _ rfl rfl rfl rfl rfl ?_) | (refine wp_newT (a := zP) (b := e1) (c := e2) _ rfl rfl rfl rfl rfl rfl rfl rfl ?_) | (refine wp_loadT (a := zP) (b := e1) (c := e2) _ rfl rfl rfl (new_at rfl) ?_))
  with_reducible refine (H1.out _).mono ?_
  rintro e w1 ⟨rfl, hb⟩
  have K1 := Lib.hid (bstep ((Below.refl w.heap.size w).alloc (Nat.le_refl _) _) (by simp) hb)
  have T1 := Lib.hid (show w1.heap[w.heap.size]? = some (tB zP e1 e2) from tB_grow (new_at rfl) hb)
  clear hb
  go_wp2_with (refine wp_loadT (a := zP) (b := e1) (c := e2) _ rfl rfl rfl T1.out ?_)
  with_reducible refine (H2.out _).mono ?_
  rintro e w2 ⟨rfl, hb⟩
  have K2 := Lib.hid (bstep K1.out K1.out.size hb)
  have T2 := Lib.hid (tB_grow T1.out hb)
  clear hb T1
  go_wp2_with (refine wp_loadT (a := zP) (b := e1) (c := e2) _ rfl rfl rfl T2.out ?_)
  with_reducible refine (H3.out _).mono ?_
  rintro e w3 ⟨rfl, hb⟩
  have K3 := Lib.hid (bstep K2.out K2.out.size hb)
  have T3 := Lib.hid (tB_grow T2.out hb)
  clear hb T2
  go_wp2_with (refine wp_loadT (a := zP) (b := e1) (c := e2) _ rfl rfl rfl T3.out ?_)
  with_reducible refine (H4.out _).mono ?_
  rintro e w4 ⟨rfl, hb⟩
  have K4 := Lib.hid (bstep K3.out K3.out.size hb)
  have T4 := Lib.hid (tB_grow T3.out hb)
  clear hb T3
  go_wp2
  go_ret
  exact ⟨rfl, K4.out⟩
end Go.Proofs.Ytoocphkpmlgipaa
