/-
  The contracts of cover.within, cover.Sample and the reference's Sample.
-/
import Derived.Test.YtgcoggejgolhgaaIn
namespace Go.Proofs.Ytgcoggejgolhgaa
open Go.RowKit
attribute [local go_sem ↓] Go.wp_at_zero Go.wp_at_succ

/-- Where a sample is in its pixel. -/
def sx (i : Int) : Int := if i = 0 then 2 else if i = 1 then 6 else if i = 2 then 10 else 14
def sy (i : Int) : Int := if i = 0 then 6 else if i = 1 then 14 else if i = 2 then 2 else 10
theorem sx_bd (i : Int) : 2 ≤ sx i ∧ sx i ≤ 14 := by unfold sx; split <;> (try split) <;> (try split) <;> omega
theorem sy_bd (i : Int) : 2 ≤ sy i ∧ sy i ≤ 14 := by unfold sy; split <;> (try split) <;> (try split) <;> omega

set_option maxHeartbeats 1000000 in
theorem place_any (i : Int) (w : World) :
    Calls Try.prog 21 #[.int .i64 i] w fun e w' => e = .returned (.tuple #[.int .i64 (sx i), .int .i64 (sy i)]) ∧ w = w' := by
  rcases (show i = 0 ∨ i = 1 ∨ i = 2 ∨ (¬ i = 0 ∧ ¬ i = 1 ∧ ¬ i = 2) by omega) with rfl | rfl | rfl | ⟨h0, h1, h2⟩
  · show Calls Try.prog 21 #[.int .i64 0] w fun e w' => e = .returned (.tuple #[.int .i64 2, .int .i64 6]) ∧ w = w'
    go_enter Try.func21, Try.ntmps21
    go_wp2
    go_ret2
    exact ⟨rfl, rfl⟩
  · show Calls Try.prog 21 #[.int .i64 1] w fun e w' => e = .returned (.tuple #[.int .i64 6, .int .i64 14]) ∧ w = w'
    go_enter Try.func21, Try.ntmps21
    go_wp2
    go_ret2
    exact ⟨rfl, rfl⟩
  · show Calls Try.prog 21 #[.int .i64 2] w fun e w' => e = .returned (.tuple #[.int .i64 10, .int .i64 2]) ∧ w = w'
    go_enter Try.func21, Try.ntmps21
    go_wp2
    go_ret2
    exact ⟨rfl, rfl⟩
  · have e1 : sx i = 14 := by simp [sx, h0, h1, h2]
    have e2 : sy i = 10 := by simp [sy, h0, h1, h2]
    rw [e1, e2]
    clear e1 e2
    go_enter Try.func21, Try.ntmps21
    go_wp2
    go_ret2
    exact ⟨rfl, rfl⟩

set_option maxHeartbeats 1000000 in
theorem sample_any (x y i : Int) (hx : -1024 ≤ x ∧ x ≤ 1024) (hy : -1024 ≤ y ∧ y ≤ 1024) (w : World) :
    Calls Try.prog 9 #[.int .i64 x, .int .i64 y, .int .i64 i] w fun e w' => e = .returned (.tuple #[.int .i64 (16 * x + sx i), .int .i64 (16 * y + sy i)]) ∧ w = w' := by
  have HP := Lib.hid (place_any i)
  have b1 := sx_bd i
  have b2 := sy_bd i
  generalize sx i = p at *
  generalize sy i = q at *
  have e1 : IntKind.i64.wrap (16 * x) = 16 * x := by rw [IntKind.wrap_i64]; omega
  have e2 : IntKind.i64.wrap (16 * y) = 16 * y := by rw [IntKind.wrap_i64]; omega
  have e3 : IntKind.i64.wrap (16 * x + p) = 16 * x + p := by rw [IntKind.wrap_i64]; omega
  have e4 : IntKind.i64.wrap (16 * y + q) = 16 * y + q := by rw [IntKind.wrap_i64]; omega
  clear hx hy b1 b2
  go_enter Try.func9, Try.ntmps9
  go_wp2_with (go_at_call 21; (with_reducible refine (HP.out _).mono ?_); rintro e w' ⟨rfl, rfl⟩)
  go_ret2
  exact ⟨rfl, rfl⟩

set_option maxHeartbeats 1000000 in
theorem rsample_any (x y i : Int) (hx : -1024 ≤ x ∧ x ≤ 1024) (hy : -1024 ≤ y ∧ y ≤ 1024) (w : World) :
    Calls Try.prog 10 #[.int .i64 x, .int .i64 y, .int .i64 i] w fun e w' => e = .returned (.tuple #[.int .i64 (16 * x + sx i), .int .i64 (16 * y + sy i)]) ∧ w = w' := by
  have e1 : IntKind.i64.wrap (16 * x) = 16 * x := by rw [IntKind.wrap_i64]; omega
  have e2 : IntKind.i64.wrap (16 * y) = 16 * y := by rw [IntKind.wrap_i64]; omega
  have hp : ∀ p : Int, 0 ≤ p → p ≤ 14 → IntKind.i64.wrap (16 * x + p) = 16 * x + p := fun p h0 h1 => by rw [IntKind.wrap_i64]; omega
  have hq : ∀ p : Int, 0 ≤ p → p ≤ 14 → IntKind.i64.wrap (16 * y + p) = 16 * y + p := fun p h0 h1 => by rw [IntKind.wrap_i64]; omega
  have p0 := hp 2 (by decide) (by decide)
  have p1 := hp 6 (by decide) (by decide)
  have p2 := hp 10 (by decide) (by decide)
  have p3 := hp 14 (by decide) (by decide)
  have q0 := hq 6 (by decide) (by decide)
  have q1 := hq 14 (by decide) (by decide)
  have q2 := hq 2 (by decide) (by decide)
  have q3 := hq 10 (by decide) (by decide)
  clear hp hq hx hy
  rcases (show i = 0 ∨ i = 1 ∨ i = 2 ∨ (¬ i = 0 ∧ ¬ i = 1 ∧ ¬ i = 2) by omega) with rfl | rfl | rfl | ⟨h0, h1, h2⟩
  · show Calls Try.prog 10 #[.int .i64 x, .int .i64 y, .int .i64 0] w fun e w' => e = .returned (.tuple #[.int .i64 (16 * x + 2), .int .i64 (16 * y + 6)]) ∧ w = w'
    go_enter Try.func10, Try.ntmps10
    go_wp2
    go_ret2
    exact ⟨rfl, rfl⟩
  · show Calls Try.prog 10 #[.int .i64 x, .int .i64 y, .int .i64 1] w fun e w' => e = .returned (.tuple #[.int .i64 (16 * x + 6), .int .i64 (16 * y + 14)]) ∧ w = w'
    go_enter Try.func10, Try.ntmps10
    go_wp2
    go_ret2
    exact ⟨rfl, rfl⟩
  · show Calls Try.prog 10 #[.int .i64 x, .int .i64 y, .int .i64 2] w fun e w' => e = .returned (.tuple #[.int .i64 (16 * x + 10), .int .i64 (16 * y + 2)]) ∧ w = w'
    go_enter Try.func10, Try.ntmps10
    go_wp2
    go_ret2
    exact ⟨rfl, rfl⟩
  · have e1 : sx i = 14 := by simp [sx, h0, h1, h2]
    have e2 : sy i = 10 := by simp [sy, h0, h1, h2]
    rw [e1, e2]
    clear e1 e2
    go_enter Try.func10, Try.ntmps10
    go_wp2
    go_ret2
    exact ⟨rfl, rfl⟩
end Go.Proofs.Ytgcoggejgolhgaa
