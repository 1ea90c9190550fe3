/-
  The contracts of glazierref04.Fit (a vertex that may be, of any one) and of the example at the head of all statements.
-/
import Derived.Test.YtnpcmoeleigpoaaURight
namespace Go.Proofs.Ytnpcmoeleigpoaa.U
open Go.RowKit
attribute [local go_sem ↓] Go.wp_at_zero Go.wp_at_succ
attribute [local go_sem high] eql36
attribute [local go_sem] guard36

/-- Numbers that an int holds. -/
structure V.i64 (v : V) : Prop where
  x : -9223372036854775808 ≤ v.x ∧ v.x ≤ 9223372036854775807
  y : -9223372036854775808 ≤ v.y ∧ v.y ≤ 9223372036854775807
  z : -9223372036854775808 ≤ v.z ∧ v.z ≤ 9223372036854775807
  w : -9223372036854775808 ≤ v.w ∧ v.w ≤ 9223372036854775807
  a : -9223372036854775808 ≤ v.a ∧ v.a ≤ 9223372036854775807
  b : -9223372036854775808 ≤ v.b ∧ v.b ≤ 9223372036854775807
  c : -9223372036854775808 ≤ v.c ∧ v.c ≤ 9223372036854775807
  d : -9223372036854775808 ≤ v.d ∧ v.d ≤ 9223372036854775807

set_option maxRecDepth 100000 in
theorem tmod_bd (n m : Int) (hm : 0 < m) : -m < n.tmod m ∧ n.tmod m < m :=
  ⟨Int.lt_tmod_of_pos n hm, Int.tmod_lt_of_pos n hm⟩

def fitW (n : Int) : Int := 1 + (if n.tmod 32768 < 0 then -(n.tmod 32768) else n.tmod 32768)
def fitV (v : V) : V := ⟨v.x.tmod 32769, v.y.tmod 32769, v.z.tmod 32769, fitW v.w, v.a.tmod 4097, v.b.tmod 4097, v.c.tmod 4097, v.d.tmod 4097⟩
set_option maxRecDepth 100000 in
theorem fitV_ok (v : V) : (fitV v).ok := by
  have hx := tmod_bd v.x 32769 (by decide)
  have hy := tmod_bd v.y 32769 (by decide)
  have hz := tmod_bd v.z 32769 (by decide)
  have hw := tmod_bd v.w 32768 (by decide)
  have ha := tmod_bd v.a 4097 (by decide)
  have hb := tmod_bd v.b 4097 (by decide)
  have hc := tmod_bd v.c 4097 (by decide)
  have hd := tmod_bd v.d 4097 (by decide)
  refine ⟨?_, ?_, ?_, ?_, ?_, ?_, ?_, ?_⟩ <;> simp only [fitV, fitW] <;> (try split) <;> omega

set_option maxRecDepth 100000 in
set_option maxHeartbeats 2000000 in
theorem fit_any (v : V) (w : World) :
    Calls Try.prog 20 #[.agg #[.int .i64 v.x, .int .i64 v.y, .int .i64 v.z, .int .i64 v.w, .int .i64 v.a, .int .i64 v.b, .int .i64 v.c, .int .i64 v.d]] w fun e w' => e = .returned (.agg #[.int .i64 (fitV v).x, .int .i64 (fitV v).y, .int .i64 (fitV v).z, .int .i64 (fitV v).w, .int .i64 (fitV v).a, .int .i64 (fitV v).b, .int .i64 (fitV v).c, .int .i64 (fitV v).d]) ∧ Below w.heap.size w w' := by
  have hw := tmod_bd v.w 32768 (by decide)
  have hb : ∀ o o' o'', Below w.heap.size w (((w.alloc o).alloc o').alloc o'') := fun o o' o'' => (((Below.refl _ _).alloc (Nat.le_refl _) o).alloc (by simp) o').alloc (by simp; omega) o''
  have HB := Lib.hid hb
  clear hb
  by_cases hneg : v.w.tmod 32768 < 0
  · have hfw : fitW v.w = 1 + -(v.w.tmod 32768) := by unfold fitW; rw [if_pos hneg]
    go_enter Try.func20, Try.ntmps20
    go_wp2
    refine wp_loop_rounds 5 ?_
    rw [rounds_succ]
    go_wp2
    rw [rounds_succ]
    go_wp2
    rw [rounds_succ]
    go_wp2
    rw [rounds_succ]
    go_wp2
    rw [rounds_succ]
    go_wp2
    refine bodyPost_ret (v := .agg #[.int .i64 (fitV v).x, .int .i64 (fitV v).y, .int .i64 (fitV v).z, .int .i64 (fitV v).w, .int .i64 (fitV v).a, .int .i64 (fitV v).b, .int .i64 (fitV v).c, .int .i64 (fitV v).d]) (by simp [results, Try.results20, go_sem, fitV, hfw]) rfl ⟨rfl, ?_⟩
    exact HB.out _ _ _
  · have hfw : fitW v.w = 1 + v.w.tmod 32768 := by unfold fitW; rw [if_neg hneg]
    go_enter Try.func20, Try.ntmps20
    go_wp2
    refine wp_loop_rounds 5 ?_
    rw [rounds_succ]
    go_wp2
    rw [rounds_succ]
    go_wp2
    rw [rounds_succ]
    go_wp2
    rw [rounds_succ]
    go_wp2
    rw [rounds_succ]
    go_wp2
    refine bodyPost_ret (v := .agg #[.int .i64 (fitV v).x, .int .i64 (fitV v).y, .int .i64 (fitV v).z, .int .i64 (fitV v).w, .int .i64 (fitV v).a, .int .i64 (fitV v).b, .int .i64 (fitV v).c, .int .i64 (fitV v).d]) (by simp [results, Try.results20, go_sem, fitV, hfw]) rfl ⟨rfl, ?_⟩
    exact HB.out _ _ _
end Go.Proofs.Ytnpcmoeleigpoaa.U
