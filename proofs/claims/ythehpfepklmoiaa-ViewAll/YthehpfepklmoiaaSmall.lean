/-
  The contract of glazierref04.Small.
-/
import Derived.Test.YthehpfepklmoiaaFit
namespace Go.Proofs.Ythehpfepklmoiaa
open Go.RowKit
attribute [local go_sem ↓] Go.wp_at_zero Go.wp_at_succ

def smallV (v : V) : V := ⟨v.x.tmod 1048577, v.y.tmod 1048577, v.z.tmod 1048577, v.w.tmod 1048577, v.a.tmod 1048577, v.b.tmod 1048577, v.c.tmod 1048577, v.d.tmod 1048577⟩
theorem smallV_sm (v : V) : (smallV v).sm := by
  have hx := tmod_bd v.x 1048577 (by decide)
  have hy := tmod_bd v.y 1048577 (by decide)
  have hz := tmod_bd v.z 1048577 (by decide)
  have hw := tmod_bd v.w 1048577 (by decide)
  have ha := tmod_bd v.a 1048577 (by decide)
  have hb := tmod_bd v.b 1048577 (by decide)
  have hc := tmod_bd v.c 1048577 (by decide)
  have hd := tmod_bd v.d 1048577 (by decide)
  refine ⟨?_, ?_, ?_, ?_, ?_, ?_, ?_, ?_⟩ <;> simp only [smallV] <;> omega

set_option maxHeartbeats 2000000 in
theorem small_any (v : V) (w : World) :
    Calls Try.prog 10 #[.agg #[.int .i64 v.x, .int .i64 v.y, .int .i64 v.z, .int .i64 v.w, .int .i64 v.a, .int .i64 v.b, .int .i64 v.c, .int .i64 v.d]] w fun e w' => e = .returned (.agg #[.int .i64 (smallV v).x, .int .i64 (smallV v).y, .int .i64 (smallV v).z, .int .i64 (smallV v).w, .int .i64 (smallV v).a, .int .i64 (smallV v).b, .int .i64 (smallV v).c, .int .i64 (smallV v).d]) ∧ Below w.heap.size w w' := by
  have hb : ∀ o o' o'', Below w.heap.size w (((w.alloc o).alloc o').alloc o'') := fun o o' o'' => (((Below.refl _ _).alloc (Nat.le_refl _) o).alloc (by simp) o').alloc (by simp; omega) o''
  have HB := Lib.hid hb
  clear hb
  go_enter Try.func10, Try.ntmps10
  go_wp2
  refine wp_loop_rounds 5 ?_
  rw [rounds_succ]
  go_wp2
  rw [rounds_succ]
  go_wp2
  rw [rounds_succ]
  go_wp2
  rw [rounds_succ]
  go_wp2
  rw [rounds_succ]
  go_wp2
  refine bodyPost_ret (v := .agg #[.int .i64 (smallV v).x, .int .i64 (smallV v).y, .int .i64 (smallV v).z, .int .i64 (smallV v).w, .int .i64 (smallV v).a, .int .i64 (smallV v).b, .int .i64 (smallV v).c, .int .i64 (smallV v).d]) (by simp [results, Try.results10, go_sem, smallV]) rfl ⟨rfl, ?_⟩
  exact HB.out _ _ _
end Go.Proofs.Ythehpfepklmoiaa
