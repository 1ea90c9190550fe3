/-
  The contracts of glazierref04's Dist, Small and Right.
-/
import Derived.Test.YtnpcmoeleigpoaaUFit
namespace Go.Proofs.Ytnpcmoeleigpoaa.U
open Go.RowKit
attribute [local go_sem ↓] Go.wp_at_zero Go.wp_at_succ

set_option maxRecDepth 100000 in
theorem within_any (n : Int) (b : Bool) (hb : decide (-32768 ≤ n ∧ n ≤ 32768) = b) (w : World) :
    Calls Try.prog 54 #[.int .i64 n, .int .i64 32768] w fun e w' => e = .returned (.bool b) ∧ w = w' := by
  by_cases h0 : -32768 ≤ n
  · by_cases h1 : n ≤ 32768
    · obtain rfl : b = true := by rw [← hb]; simp; omega
      clear hb
      go_enter Try.func54, Try.ntmps54
      go_wp2
      go_ret
      exact ⟨by simp [*], rfl⟩
    · obtain rfl : b = false := by rw [← hb]; simp; omega
      clear hb
      go_enter Try.func54, Try.ntmps54
      go_wp2
      go_ret
      exact ⟨by simp [*], rfl⟩
  · obtain rfl : b = false := by rw [← hb]; simp; omega
    clear hb
    go_enter Try.func54, Try.ntmps54
    go_wp2
    go_ret
    exact ⟨by simp [*], rfl⟩

set_option maxRecDepth 100000 in
set_option maxHeartbeats 4000000 in
theorem rright_attr (v : V) (h : ¬ ((-4096 ≤ v.a ∧ v.a ≤ 4096) ∧ (-4096 ≤ v.b ∧ v.b ≤ 4096) ∧ (-4096 ≤ v.c ∧ v.c ≤ 4096) ∧ (-4096 ≤ v.d ∧ v.d ≤ 4096))) (w : World) :
    Calls Try.prog 35 #[.agg #[.int .i64 v.x, .int .i64 v.y, .int .i64 v.z, .int .i64 v.w, .int .i64 v.a, .int .i64 v.b, .int .i64 v.c, .int .i64 v.d]] w fun e w' => e = .returned (.bool false) ∧ Below w.heap.size w w' := by
  have hb : ∀ o, Below w.heap.size w (w.alloc o) := fun o => (Below.refl _ _).alloc (Nat.le_refl _) o
  have HB := Lib.hid hb
  clear hb
  by_cases la : v.a < -4096
  · clear h
    go_enter Try.func35, Try.ntmps35
    go_wp2
    refine wp_loop_rounds 5 ?_
    rw [rounds_succ]
    go_wp2
    go_ret
    exact ⟨rfl, HB.out _⟩
  by_cases ua : 4096 < v.a
  · clear h
    go_enter Try.func35, Try.ntmps35
    go_wp2
    refine wp_loop_rounds 5 ?_
    rw [rounds_succ]
    go_wp2
    go_ret
    exact ⟨rfl, HB.out _⟩
  by_cases lb : v.b < -4096
  · clear h
    go_enter Try.func35, Try.ntmps35
    go_wp2
    refine wp_loop_rounds 5 ?_
    rw [rounds_succ]
    go_wp2
    rw [rounds_succ]
    go_wp2
    go_ret
    exact ⟨rfl, HB.out _⟩
  by_cases ub : 4096 < v.b
  · clear h
    go_enter Try.func35, Try.ntmps35
    go_wp2
    refine wp_loop_rounds 5 ?_
    rw [rounds_succ]
    go_wp2
    rw [rounds_succ]
    go_wp2
    go_ret
    exact ⟨rfl, HB.out _⟩
  by_cases lc : v.c < -4096
  · clear h
    go_enter Try.func35, Try.ntmps35
    go_wp2
    refine wp_loop_rounds 5 ?_
    rw [rounds_succ]
    go_wp2
    rw [rounds_succ]
    go_wp2
    rw [rounds_succ]
    go_wp2
    go_ret
    exact ⟨rfl, HB.out _⟩
  by_cases uc : 4096 < v.c
  · clear h
    go_enter Try.func35, Try.ntmps35
    go_wp2
    refine wp_loop_rounds 5 ?_
    rw [rounds_succ]
    go_wp2
    rw [rounds_succ]
    go_wp2
    rw [rounds_succ]
    go_wp2
    go_ret
    exact ⟨rfl, HB.out _⟩
  by_cases ld : v.d < -4096
  · clear h
    go_enter Try.func35, Try.ntmps35
    go_wp2
    refine wp_loop_rounds 5 ?_
    rw [rounds_succ]
    go_wp2
    rw [rounds_succ]
    go_wp2
    rw [rounds_succ]
    go_wp2
    rw [rounds_succ]
    go_wp2
    go_ret
    exact ⟨rfl, HB.out _⟩
  by_cases ud : 4096 < v.d
  · clear h
    go_enter Try.func35, Try.ntmps35
    go_wp2
    refine wp_loop_rounds 5 ?_
    rw [rounds_succ]
    go_wp2
    rw [rounds_succ]
    go_wp2
    rw [rounds_succ]
    go_wp2
    rw [rounds_succ]
    go_wp2
    go_ret
    exact ⟨rfl, HB.out _⟩
  exact absurd ⟨⟨by omega, by omega⟩, ⟨by omega, by omega⟩, ⟨by omega, by omega⟩, ⟨by omega, by omega⟩⟩ h

set_option maxRecDepth 100000 in
set_option maxHeartbeats 4000000 in
theorem rright_rest (v : V) (g x y z : Bool) (ha : -4096 ≤ v.a ∧ v.a ≤ 4096) (hb : -4096 ≤ v.b ∧ v.b ≤ 4096) (hc : -4096 ≤ v.c ∧ v.c ≤ 4096) (hd : -4096 ≤ v.d ∧ v.d ≤ 4096)
    (hx : decide (-32768 ≤ v.x ∧ v.x ≤ 32768) = x) (hy : decide (-32768 ≤ v.y ∧ v.y ≤ 32768) = y) (hz : decide (-32768 ≤ v.z ∧ v.z ≤ 32768) = z) (hg : (x && y && z && decide (1 ≤ v.w) && decide (v.w ≤ 32768)) = g) (w : World) :
    Calls Try.prog 35 #[.agg #[.int .i64 v.x, .int .i64 v.y, .int .i64 v.z, .int .i64 v.w, .int .i64 v.a, .int .i64 v.b, .int .i64 v.c, .int .i64 v.d]] w fun e w' => e = .returned (.bool g) ∧ Below w.heap.size w w' := by
  have hB : ∀ o, Below w.heap.size w (w.alloc o) := fun o => (Below.refl _ _).alloc (Nat.le_refl _) o
  have HB := Lib.hid hB
  have WX := Lib.hid (within_any v.x x hx)
  have WY := Lib.hid (within_any v.y y hy)
  have WZ := Lib.hid (within_any v.z z hz)
  have HG := Lib.hid hg
  clear hB hx hy hz hg
  go_enter Try.func35, Try.ntmps35
  go_wp2
  refine wp_loop_rounds 5 ?_
  rw [rounds_succ]
  go_wp2
  rw [rounds_succ]
  go_wp2
  rw [rounds_succ]
  go_wp2
  rw [rounds_succ]
  go_wp2
  rw [rounds_succ]
  go_wp2_with fail
  with_reducible refine (WX.out _).mono ?_
  rintro e w1 ⟨rfl, rfl⟩
  go_wp2_with fail
  with_reducible refine (WY.out _).mono ?_
  rintro e w1 ⟨rfl, rfl⟩
  go_wp2_with fail
  with_reducible refine (WZ.out _).mono ?_
  rintro e w1 ⟨rfl, rfl⟩
  cases x <;> cases y <;> cases z
  all_goals
    go_wp2
  all_goals
    go_ret
    exact ⟨by rw [← HG.out]; simp [*] <;> omega, HB.out _⟩
set_option maxRecDepth 100000 in
theorem rright_any (v : V) (w : World) : Calls Try.prog 35 #[.agg #[.int .i64 v.x, .int .i64 v.y, .int .i64 v.z, .int .i64 v.w, .int .i64 v.a, .int .i64 v.b, .int .i64 v.c, .int .i64 v.d]] w fun e w' => e = .returned (.bool (rightB v)) ∧ Below w.heap.size w w' := by
  by_cases h : (-4096 ≤ v.a ∧ v.a ≤ 4096) ∧ (-4096 ≤ v.b ∧ v.b ≤ 4096) ∧ (-4096 ≤ v.c ∧ v.c ≤ 4096) ∧ (-4096 ≤ v.d ∧ v.d ≤ 4096)
  · refine rright_rest v (rightB v) _ _ _ h.1 h.2.1 h.2.2.1 h.2.2.2 rfl rfl rfl ?_ w
    rw [Bool.eq_iff_iff, rightB_iff]
    simp only [Bool.and_eq_true, decide_eq_true_eq]
    constructor
    · rintro ⟨⟨⟨⟨hx, hy⟩, hz⟩, h1⟩, h2⟩
      exact ⟨hx, hy, hz, ⟨h1, h2⟩, h.1, h.2.1, h.2.2.1, h.2.2.2⟩
    · intro k
      exact ⟨⟨⟨⟨k.x, k.y⟩, k.z⟩, k.w.1⟩, k.w.2⟩
  · rw [rightB_no (fun k => h ⟨k.a, k.b, k.c, k.d⟩)]
    exact rright_attr v h w
end Go.Proofs.Ytnpcmoeleigpoaa.U
