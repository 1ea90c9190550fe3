/-
  The contracts of what plane.over hands back: both of its closures.
-/
import Derived.Test.YtiijpehchifheaaFl
namespace Go.Proofs.Ytiijpehchifheaa
open Go.RowKit
attribute [local go_sem ↓] Go.wp_at_zero Go.wp_at_succ

theorem index26_0 (x0 x1 x2 : Int) (w : World) : (Instr.index 26 (.agg #[.int .i64 x0, .int .i64 x1, .int .i64 x2]) (.int .i64 0)).run Try.prog w = .ok (.int .i64 x0) w := by
  simp [Instr.index, run_underlying Try.underlying26, asIntOf, go_sem]
theorem index26_1 (x0 x1 x2 : Int) (w : World) : (Instr.index 26 (.agg #[.int .i64 x0, .int .i64 x1, .int .i64 x2]) (.int .i64 1)).run Try.prog w = .ok (.int .i64 x1) w := by
  simp [Instr.index, run_underlying Try.underlying26, asIntOf, go_sem]
theorem index26_2 (x0 x1 x2 : Int) (w : World) : (Instr.index 26 (.agg #[.int .i64 x0, .int .i64 x1, .int .i64 x2]) (.int .i64 2)).run Try.prog w = .ok (.int .i64 x2) w := by
  simp [Instr.index, run_underlying Try.underlying26, asIntOf, go_sem]
attribute [local go_sem] index26_0 index26_1 index26_2

theorem over1_any (l m n : Int) (w : World) :
    Calls Try.prog 31 #[.agg #[.int .i64 l, .int .i64 m, .int .i64 n]] w fun e w' => e = .returned (.int .i64 0) ∧ Below w.heap.size w w' := by
  have HK := Lib.hid fun o => ((Below.refl w.heap.size w).alloc (Nat.le_refl _) o)
  go_enter Try.func31, Try.ntmps31
  go_wp2
  go_ret
  exact ⟨rfl, HK.out _⟩

set_option maxRecDepth 100000 in
set_option maxHeartbeats 1000000 in
theorem over2_any (l m n p q r s c : Int) (g h : Nat) (w : World)
    (hl : -2147483648 ≤ l ∧ l ≤ 2147483648) (hm : -2147483648 ≤ m ∧ m ≤ 2147483648) (hn : -2147483648 ≤ n ∧ n ≤ 2147483648)
    (hp : -1073741824 ≤ p ∧ p ≤ 1073741824) (hq : -1073741824 ≤ q ∧ q ≤ 1073741824) (hr : -1073741824 ≤ r ∧ r ≤ 1073741824)
    (hs0 : 0 < s) (hs1 : s ≤ 1073741824) (hc : (l * p + m * q + n * r) / s = c)
    (hg : w.heap[g]? = some (nB p q r)) (hh : w.cell? ⟨h, 0, none⟩ = some (.int .i64 s)) :
    Calls Try.prog 33 #[.agg #[.int .i64 l, .int .i64 m, .int .i64 n], .pointer (some ⟨g, 0, none⟩), .pointer (some ⟨h, 0, none⟩)] w fun e w' => e = .returned (.int .i64 c) ∧ Below w.heap.size w w' := by
  have HK := Lib.hid fun o => ((Below.refl w.heap.size w).alloc (Nat.le_refl _) o)
  have b1 := mul_in hl.1 hl.2 hp.1 hp.2
  have b2 := mul_in hm.1 hm.2 hq.1 hq.2
  have b3 := mul_in hn.1 hn.2 hr.1 hr.2
  obtain ⟨t1, h1⟩ : ∃ t, l * p = t := ⟨_, rfl⟩
  obtain ⟨t2, h2⟩ : ∃ t, m * q = t := ⟨_, rfl⟩
  obtain ⟨t3, h3⟩ : ∃ t, n * r = t := ⟨_, rfl⟩
  rw [h1, h2, h3] at hc
  rw [h1] at b1
  rw [h2] at b2
  rw [h3] at b3
  obtain ⟨s2, k2⟩ : ∃ t, t1 + t2 = t := ⟨_, rfl⟩
  obtain ⟨s3, k3⟩ : ∃ t, s2 + t3 = t := ⟨_, rfl⟩
  rw [k2, k3] at hc
  have HF := Lib.hid (fun w => ffloor_any s3 s c (by omega) (by omega) hs0 (by omega) hc w)
  have e1 : IntKind.i64.wrap (l * p) = t1 := by rw [h1, IntKind.wrap_i64]; omega
  have e2 : IntKind.i64.wrap (m * q) = t2 := by rw [h2, IntKind.wrap_i64]; omega
  have e3 : IntKind.i64.wrap (n * r) = t3 := by rw [h3, IntKind.wrap_i64]; omega
  have e4 : IntKind.i64.wrap t1 = t1 := by rw [IntKind.wrap_i64]; omega
  have e5 : IntKind.i64.wrap (t1 + t2) = s2 := by rw [k2, IntKind.wrap_i64]; omega
  have e6 : IntKind.i64.wrap (s2 + t3) = s3 := by rw [k3, IntKind.wrap_i64]; omega
  have v1 : IntKind.i64.wrap 1 = 1 := by decide
  have v2 : IntKind.i64.wrap 2 = 2 := by decide
  have v3 : IntKind.i64.wrap 3 = 3 := by decide
  obtain ⟨g0, g1, g2⟩ := nB_cell hg
  have lg := nB_lt hg
  have lh := World.block_lt_of_cell? _ _ hh
  clear hl hm hn hp hq hr hs0 hs1 hc b1 b2 b3 h1 h2 h3 k2 k3 hg
  go_enter Try.func33, Try.ntmps33
  go_wp2
  refine wp_loop_rounds 4 ?_
  rw [rounds_succ]
  go_wp2
  rw [rounds_succ]
  go_wp2
  rw [rounds_succ]
  go_wp2
  rw [rounds_succ]
  go_wp2_with (go_at_call 34; with_reducible refine (HF.out _).mono ?_; rintro e w' ⟨rfl, rfl⟩)
  go_ret
  exact ⟨rfl, HK.out _⟩
end Go.Proofs.Ytiijpehchifheaa
