/-
  colour.Over and glazierlaw02.shown, at this seat's translation.
-/
import Derived.Test.YtpnjhmmodkhmfaaOver
namespace Go.Proofs.Ytpnjhmmodkhmfaa
open Go.RowKit
attribute [local go_sem ↓] Go.wp_at_zero Go.wp_at_succ

theorem enters29 (args : Array Value) (w : World) : (callFunc 29 args).run Try.prog w = .ok (.enter 29 args) w := by
  go_simp

theorem over_made (bf bq bs : Nat) (f0 f1 f2 f3 q0 q1 q2 q3 s : Int) (w : World) (f00 : 0 ≤ f0) (f01 : f0 ≤ 255) (q00 : 0 ≤ q0) (q01 : q0 ≤ 255) (f10 : 0 ≤ f1) (f11 : f1 ≤ 255) (q10 : 0 ≤ q1) (q11 : q1 ≤ 255) (f20 : 0 ≤ f2) (f21 : f2 ≤ 255) (q20 : 0 ≤ q2) (q21 : q2 ≤ 255) (f30 : 0 ≤ f3) (f31 : f3 ≤ 255) (q30 : 0 ≤ q3) (q31 : q3 ≤ 255) (s0 : 0 ≤ s) (s1 : s ≤ 255)
    (hf0 : w.cell? ⟨bf, 0, none⟩ = some (.int .i64 f0)) (hq0 : w.cell? ⟨bq, 0, none⟩ = some (.int .i64 q0)) (hf1 : w.cell? ⟨bf, 1, none⟩ = some (.int .i64 f1)) (hq1 : w.cell? ⟨bq, 1, none⟩ = some (.int .i64 q1)) (hf2 : w.cell? ⟨bf, 2, none⟩ = some (.int .i64 f2)) (hq2 : w.cell? ⟨bq, 2, none⟩ = some (.int .i64 q2)) (hf3 : w.cell? ⟨bf, 3, none⟩ = some (.int .i64 f3)) (hq3 : w.cell? ⟨bq, 3, none⟩ = some (.int .i64 q3)) (hs : w.cell? ⟨bs, 0, none⟩ = some (.int .i64 s)) :
    Calls Try.prog 28 #[.func (.func 29) #[] #[.pointer (some ⟨bf, 0, none⟩), .pointer (some ⟨bq, 0, none⟩), .pointer (some ⟨bs, 0, none⟩)]] w fun e w' =>
      e = .returned (.agg #[.int .u8 (sat (f0 + dv (q0 * s))), .int .u8 (sat (f1 + dv (q1 * s))), .int .u8 (sat (f2 + dv (q2 * s))), .int .u8 (sat (f3 + dv (q3 * s)))]) ∧ Below w.heap.size w w' := by
  have d0 := dv_bd (mul_bd q00 q01 s0 s1).1 (mul_bd q00 q01 s0 s1).2
  have d1 := dv_bd (mul_bd q10 q11 s0 s1).1 (mul_bd q10 q11 s0 s1).2
  have d2 := dv_bd (mul_bd q20 q21 s0 s1).1 (mul_bd q20 q21 s0 s1).2
  have d3 := dv_bd (mul_bd q30 q31 s0 s1).1 (mul_bd q30 q31 s0 s1).2
  refine made_any 29 _ enters29 _ _ _ _ w (by omega) (by omega) (by omega) (by omega) (by omega) (by omega) (by omega) (by omega) ?_ ?_ ?_ ?_
  · exact fun W hB => over1_any 0 f0 q0 s bf bq bs W (by decide) (by decide) f00 f01 q00 q01 s0 s1 ((hB.cell (World.block_lt_of_cell? _ _ hf0)).trans hf0) ((hB.cell (World.block_lt_of_cell? _ _ hq0)).trans hq0) ((hB.cell (World.block_lt_of_cell? _ _ hs)).trans hs)
  · exact fun W hB => over1_any 1 f1 q1 s bf bq bs W (by decide) (by decide) f10 f11 q10 q11 s0 s1 ((hB.cell (World.block_lt_of_cell? _ _ hf1)).trans hf1) ((hB.cell (World.block_lt_of_cell? _ _ hq1)).trans hq1) ((hB.cell (World.block_lt_of_cell? _ _ hs)).trans hs)
  · exact fun W hB => over1_any 2 f2 q2 s bf bq bs W (by decide) (by decide) f20 f21 q20 q21 s0 s1 ((hB.cell (World.block_lt_of_cell? _ _ hf2)).trans hf2) ((hB.cell (World.block_lt_of_cell? _ _ hq2)).trans hq2) ((hB.cell (World.block_lt_of_cell? _ _ hs)).trans hs)
  · exact fun W hB => over1_any 3 f3 q3 s bf bq bs W (by decide) (by decide) f30 f31 q30 q31 s0 s1 ((hB.cell (World.block_lt_of_cell? _ _ hf3)).trans hf3) ((hB.cell (World.block_lt_of_cell? _ _ hq3)).trans hq3) ((hB.cell (World.block_lt_of_cell? _ _ hs)).trans hs)

set_option maxHeartbeats 8000000 in
theorem over_any (r g b a x y z c : Int) (w : World) (r0 : 0 ≤ r) (r1 : r ≤ 255) (g0 : 0 ≤ g) (g1 : g ≤ 255) (b0 : 0 ≤ b) (b1 : b ≤ 255) (a0 : 0 ≤ a) (a1 : a ≤ 255)
    (x0 : 0 ≤ x) (x1 : x ≤ 255) (y0 : 0 ≤ y) (y1 : y ≤ 255) (z0 : 0 ≤ z) (z1 : z ≤ 255) (c0 : 0 ≤ c) (c1 : c ≤ 255) :
    Calls Try.prog 15 #[.agg #[.int .u8 r, .int .u8 g, .int .u8 b, .int .u8 a], .agg #[.int .u8 x, .int .u8 y, .int .u8 z, .int .u8 c]] w fun e w' =>
      e = .returned (.agg #[.int .u8 (sat (r + dv (x * (255 - a)))), .int .u8 (sat (g + dv (y * (255 - a)))), .int .u8 (sat (b + dv (z * (255 - a)))), .int .u8 (sat (a + dv (c * (255 - a))))]) ∧ Below w.heap.size w w' := by
  have hmf := mk_func
  go_enter Try.func15, Try.ntmps15
  go_wp2
  go_region_held3 (fun w' => w'.cell? ⟨w.heap.size, 0, none⟩ = some (.int .u8 r) ∧ w'.cell? ⟨w.heap.size, 1, none⟩ = some (.int .u8 g) ∧ w'.cell? ⟨w.heap.size, 2, none⟩ = some (.int .u8 b) ∧ w'.cell? ⟨w.heap.size, 3, none⟩ = some (.int .u8 a) ∧
      w'.cell? ⟨w.heap.size + 1, 0, none⟩ = some (.int .u8 x) ∧ w'.cell? ⟨w.heap.size + 1, 1, none⟩ = some (.int .u8 y) ∧ w'.cell? ⟨w.heap.size + 1, 2, none⟩ = some (.int .u8 z) ∧ w'.cell? ⟨w.heap.size + 1, 3, none⟩ = some (.int .u8 c)) (simp [go_sem, World.cell?_alloc_past])
    (first
      | (go_at_call 27; ((with_reducible refine (parts_any _ _ _ _ _ (by assumption) (by assumption) (by assumption) (by assumption) (by assumption) (by assumption) (by assumption) (by assumption)).mono ?_); rintro e w1 ⟨rfl, o1, o2, rfl⟩)))
  all_goals
    go_wp2_with fail
    refine (over_made _ _ _ r g b a x y z c (255 - a) _ r0 r1 x0 x1 g0 g1 y0 y1 b0 b1 z0 z1 a0 a1 c0 c1 (by omega) (by omega) (by simp [go_sem, World.cell?_alloc_past]) (by simp [go_sem, World.cell?_alloc_past]) (by simp [go_sem, World.cell?_alloc_past]) (by simp [go_sem, World.cell?_alloc_past]) (by simp [go_sem, World.cell?_alloc_past]) (by simp [go_sem, World.cell?_alloc_past]) (by simp [go_sem, World.cell?_alloc_past]) (by simp [go_sem, World.cell?_alloc_past]) (by simp [go_sem])).mono ?_
    rintro e w9 ⟨rfl, hb9⟩
    have hc0 : w9.cell? ⟨w.heap.size + 1 + 1, 0, none⟩ = some (.int .u8 0) := by rw [hb9.cell (by simp <;> omega)]; simp [go_sem, World.cell?_alloc_past]
    have hf0 : w9.frozen? ⟨w.heap.size + 1 + 1, 0, none⟩ = false := by rw [hb9.frozen (by simp <;> omega)]; simp [go_sem]
    have hc1 : w9.cell? ⟨w.heap.size + 1 + 1, 1, none⟩ = some (.int .u8 0) := by rw [hb9.cell (by simp <;> omega)]; simp [go_sem, World.cell?_alloc_past]
    have hf1 : w9.frozen? ⟨w.heap.size + 1 + 1, 1, none⟩ = false := by rw [hb9.frozen (by simp <;> omega)]; simp [go_sem]
    have hc2 : w9.cell? ⟨w.heap.size + 1 + 1, 2, none⟩ = some (.int .u8 0) := by rw [hb9.cell (by simp <;> omega)]; simp [go_sem, World.cell?_alloc_past]
    have hf2 : w9.frozen? ⟨w.heap.size + 1 + 1, 2, none⟩ = false := by rw [hb9.frozen (by simp <;> omega)]; simp [go_sem]
    have hc3 : w9.cell? ⟨w.heap.size + 1 + 1, 3, none⟩ = some (.int .u8 0) := by rw [hb9.cell (by simp <;> omega)]; simp [go_sem, World.cell?_alloc_past]
    have hf3 : w9.frozen? ⟨w.heap.size + 1 + 1, 3, none⟩ = false := by rw [hb9.frozen (by simp <;> omega)]; simp [go_sem]
    have HB := Lib.hid (Below.trans (B := w.heap.size) (a := w) (by repeat (first | exact Below.refl _ _ | refine Below.drew ?_ | refine Below.alloc ?_ (by simp <;> omega) _)) (hb9.mono (by simp <;> omega)))
    clear hb9
    go_wp2
    refine bodyPost_ret (v := .agg #[.int .u8 (sat (r + dv (x * (255 - a)))), .int .u8 (sat (g + dv (y * (255 - a)))), .int .u8 (sat (b + dv (z * (255 - a)))), .int .u8 (sat (a + dv (c * (255 - a))))]) (by simp [results, Try.results15, go_sem, *]) rfl ⟨rfl, ?_⟩
    exact (((HB.out.setCell (by simp <;> omega) _).setCell (by simp <;> omega) _).setCell (by simp <;> omega) _).setCell (by simp <;> omega) _

theorem shown_any (w : World) : Calls Try.prog 9 #[] w fun e w' => e = .returned (.bool true) ∧ Below w.heap.size w w' := by
  have h := over_any 100 0 0 128 0 200 0 255 w (by decide) (by decide) (by decide) (by decide) (by decide) (by decide) (by decide) (by decide) (by decide) (by decide) (by decide) (by decide) (by decide) (by decide) (by decide) (by decide)
  rw [show sat (100 + dv (0 * (255 - 128))) = 100 from by decide, show sat (0 + dv (200 * (255 - 128))) = 100 from by decide, show sat (0 + dv (0 * (255 - 128))) = 0 from by decide, show sat (128 + dv (255 * (255 - 128))) = 255 from by decide] at h
  have HH := Lib.hid h
  clear h
  go_enter Try.func9, Try.ntmps9
  go_wp2_with fail
  refine HH.out.mono ?_
  rintro e w1 ⟨rfl, hb1⟩
  have HB := Lib.hid hb1
  clear hb1 HH
  go_wp2
  go_ret
  exact ⟨rfl, HB.out⟩
end Go.Proofs.Ytpnjhmmodkhmfaa
