/-
  The contract of vec.Right: a vertex may be just if holding its numbers within their bounds leaves it.
-/
import Derived.Test.YtnpcmoeleigpoaaUHeld
import Derived.Test.YtnpcmoeleigpoaaUEq
namespace Go.Proofs.Ytnpcmoeleigpoaa.U
open Go.RowKit
attribute [local go_sem ↓] Go.wp_at_zero Go.wp_at_succ

attribute [local go_sem high] eql36
attribute [local go_sem] guard36

def rightB (v : V) : Bool := sameV v (heldV v)

set_option maxRecDepth 100000 in
theorem right_any (v : V) (w : World) :
    Calls Try.prog 27 #[.agg #[.int .i64 v.x, .int .i64 v.y, .int .i64 v.z, .int .i64 v.w, .int .i64 v.a, .int .i64 v.b, .int .i64 v.c, .int .i64 v.d]] w fun e w' => e = .returned (.bool (rightB v)) ∧ Below w.heap.size w w' := by
  have HH := Lib.hid (held_any v)
  have HA := Lib.hid (apart_any v)
  go_enter Try.func27, Try.ntmps27
  go_wp2_with fail
  refine (HA.out _).mono ?_
  rintro e w1 ⟨rfl, hb1⟩
  have HB1 := Lib.hid hb1
  clear hb1
  go_wp2
  generalize hW : w1.alloc (Obj.cells #[.int .i64 v.x, .int .i64 v.y, .int .i64 v.z, .int .i64 v.w, .int .i64 v.a, .int .i64 v.b, .int .i64 v.c, .int .i64 v.d] 85) = W
  have G : ∀ x : Grow W, (x.w.cell? ⟨w1.heap.size, 0, none⟩ = some (.int .i64 v.x) ∧ x.w.cell? ⟨w1.heap.size, 1, none⟩ = some (.int .i64 v.y) ∧ x.w.cell? ⟨w1.heap.size, 2, none⟩ = some (.int .i64 v.z) ∧ x.w.cell? ⟨w1.heap.size, 3, none⟩ = some (.int .i64 v.w) ∧ x.w.cell? ⟨w1.heap.size, 4, none⟩ = some (.int .i64 v.a) ∧ x.w.cell? ⟨w1.heap.size, 5, none⟩ = some (.int .i64 v.b) ∧ x.w.cell? ⟨w1.heap.size, 6, none⟩ = some (.int .i64 v.c) ∧ x.w.cell? ⟨w1.heap.size, 7, none⟩ = some (.int .i64 v.d)) := by
    intro x
    have h := vB_cell (vB_grow (w := W) (g := w1.heap.size) (t := 85) (v := v) (by rw [← hW]; exact new_at rfl) x.below)
    exact h
  obtain ⟨g0, g1, g2, g3, g4, g5, g6, g7⟩ : (∀ x : Grow W, x.w.cell? ⟨w1.heap.size, 0, none⟩ = some (.int .i64 v.x)) ∧ (∀ x : Grow W, x.w.cell? ⟨w1.heap.size, 1, none⟩ = some (.int .i64 v.y)) ∧ (∀ x : Grow W, x.w.cell? ⟨w1.heap.size, 2, none⟩ = some (.int .i64 v.z)) ∧ (∀ x : Grow W, x.w.cell? ⟨w1.heap.size, 3, none⟩ = some (.int .i64 v.w)) ∧ (∀ x : Grow W, x.w.cell? ⟨w1.heap.size, 4, none⟩ = some (.int .i64 v.a)) ∧ (∀ x : Grow W, x.w.cell? ⟨w1.heap.size, 5, none⟩ = some (.int .i64 v.b)) ∧ (∀ x : Grow W, x.w.cell? ⟨w1.heap.size, 6, none⟩ = some (.int .i64 v.c)) ∧ (∀ x : Grow W, x.w.cell? ⟨w1.heap.size, 7, none⟩ = some (.int .i64 v.d)) :=
    ⟨fun x => (G x).1, fun x => (G x).2.1, fun x => (G x).2.2.1, fun x => (G x).2.2.2.1, fun x => (G x).2.2.2.2.1, fun x => (G x).2.2.2.2.2.1, fun x => (G x).2.2.2.2.2.2.1, fun x => (G x).2.2.2.2.2.2.2⟩
  have HW := Lib.hid hW
  clear hW G
  have ne := Grow.ne W
  refine wp_region_grow (by kernel_rfl) (by kernel_rfl) ?_
  repeat (go_big_quiet_step ((go_at_call 46; with_reducible exact Grow.calls (HH.out _))))
  refine wpQuiet_nil ?_
  rintro _ ⟨x, rfl⟩
  go_wp2
  go_ret
  refine ⟨rfl, ?_⟩
  have h1 := bstep ((Below.refl w.heap.size w).alloc (Nat.le_refl _) (Obj.cells #[.int .i64 v.x, .int .i64 v.y, .int .i64 v.z, .int .i64 v.w, .int .i64 v.a, .int .i64 v.b, .int .i64 v.c, .int .i64 v.d] 50)) (by simp) HB1.out
  have h2 := h1.alloc h1.size (Obj.cells #[.int .i64 v.x, .int .i64 v.y, .int .i64 v.z, .int .i64 v.w, .int .i64 v.a, .int .i64 v.b, .int .i64 v.c, .int .i64 v.d] 85)
  rw [HW.out] at h2
  exact bstep h2 h2.size x.below

structure V.ok (v : V) : Prop where
  x : -32768 ≤ v.x ∧ v.x ≤ 32768
  y : -32768 ≤ v.y ∧ v.y ≤ 32768
  z : -32768 ≤ v.z ∧ v.z ≤ 32768
  w : 1 ≤ v.w ∧ v.w ≤ 32768
  a : -4096 ≤ v.a ∧ v.a ≤ 4096
  b : -4096 ≤ v.b ∧ v.b ≤ 4096
  c : -4096 ≤ v.c ∧ v.c ≤ 4096
  d : -4096 ≤ v.d ∧ v.d ≤ 4096

set_option maxRecDepth 100000 in
theorem rightB_iff (v : V) : rightB v = true ↔ v.ok := by
  constructor
  · intro h
    simp only [rightB, sameV, decide_eq_true_eq] at h
    have hx := congrArg V.x h
    have hy := congrArg V.y h
    have hz := congrArg V.z h
    have hw := congrArg V.w h
    have ha := congrArg V.a h
    have hb := congrArg V.b h
    have hc := congrArg V.c h
    have hd := congrArg V.d h
    simp only [heldV] at hx hy hz hw ha hb hc hd
    exact ⟨by omega, by omega, by omega, by omega, by omega, by omega, by omega, by omega⟩
  · rintro ⟨hx, hy, hz, hw, ha, hb, hc, hd⟩
    have h : v = heldV v := by
      obtain ⟨x, y, z, w, a, b, c, d⟩ := v
      simp only [heldV, V.mk.injEq]
      simp only at hx hy hz hw ha hb hc hd
      refine ⟨by omega, by omega, by omega, by omega, by omega, by omega, by omega, by omega⟩
    simp only [rightB, sameV, decide_eq_true_eq]
    exact h
set_option maxRecDepth 100000 in
theorem rightB_ok {v : V} (h : v.ok) : rightB v = true := (rightB_iff v).2 h
set_option maxRecDepth 100000 in
theorem rightB_no {v : V} (h : ¬ v.ok) : rightB v = false := by
  cases e : rightB v
  · rfl
  · exact absurd ((rightB_iff v).1 e) h
set_option maxRecDepth 100000 in
theorem V.ok.sm {v : V} (h : v.ok) : v.sm := by
  obtain ⟨hx, hy, hz, hw, ha, hb, hc, hd⟩ := h
  exact ⟨by omega, by omega, by omega, by omega, by omega, by omega, by omega, by omega⟩
end Go.Proofs.Ytnpcmoeleigpoaa.U
