/-
  colour.Mix, at this seat.
-/
import Derived.Test.YtehkcnmjkgelkaaCol
namespace Go.Proofs.Ytehkcnmjkgelkaa
open Go.RowKit
attribute [local go_sem ↓] Go.wp_at_zero Go.wp_at_succ

def mx (f q t : Int) : Int := (f * (256 - t) + q * t + 128) / 256
theorem mul_bd6 {x a : Int} (h0 : 0 ≤ x) (h1 : x ≤ 255) (k0 : 0 ≤ a) : 0 ≤ x * a ∧ x * a ≤ 255 * a :=
  ⟨Int.mul_nonneg h0 k0, Int.mul_le_mul_of_nonneg_right h1 k0⟩
theorem mx_bd {f q t : Int} (f0 : 0 ≤ f) (f1 : f ≤ 255) (q0 : 0 ≤ q) (q1 : q ≤ 255) (t0 : 0 ≤ t) (t1 : t ≤ 256) : 0 ≤ mx f q t ∧ mx f q t ≤ 255 := by
  have a := mul_bd6 f0 f1 (by omega : 0 ≤ 256 - t)
  have b := mul_bd6 q0 q1 t0
  unfold mx
  omega

theorem mix1_any (i f q t : Int) (bf bt bq : Nat) (w : World) (i0 : 0 ≤ i) (i1 : i ≤ 3) (f0 : 0 ≤ f) (f1 : f ≤ 255) (q0 : 0 ≤ q) (q1 : q ≤ 255) (t0 : 0 ≤ t) (t1 : t ≤ 256)
    (hf : w.cell? ⟨bf, i.toNat, none⟩ = some (.int .i64 f)) (hq : w.cell? ⟨bq, i.toNat, none⟩ = some (.int .i64 q)) (ht : w.cell? ⟨bt, 0, none⟩ = some (.int .i64 t)) :
    Calls Try.prog 75 #[.int .i64 i, .pointer (some ⟨bf, 0, none⟩), .pointer (some ⟨bt, 0, none⟩), .pointer (some ⟨bq, 0, none⟩)] w fun e w' => e = .returned (.int .i64 (mx f q t)) ∧ Below w.heap.size w w' := by
  have a := mul_bd6 f0 f1 (by omega : 0 ≤ 256 - t)
  have b := mul_bd6 q0 q1 t0
  obtain ⟨a0, a1⟩ := a
  obtain ⟨b0, b1⟩ := b
  have a2 : f * (256 - t) ≤ 65280 := by omega
  have b2 : q * t ≤ 65280 := by omega
  unfold mx
  go_enter Try.func75, Try.ntmps75
  go_wp2
  go_quiet (fail)
  go_wp2
  go_ret
  exact ⟨rfl, Below.refl _ _ |>.trans ⟨rfl, rfl, rfl, Nat.le_refl _, fun _ _ => rfl⟩⟩

theorem enters32 (args : Array Value) (w : World) : (callFunc 75 args).run Try.prog w = .ok (.enter 75 args) w := by
  go_simp

theorem sat_same {n : Int} (h : n ≤ 255) : sat n = n := by unfold sat; rw [if_neg (by omega)]

theorem mix_made (bf bt bq : Nat) (f0 f1 f2 f3 q0 q1 q2 q3 s : Int) (w : World) (f00 : 0 ≤ f0) (f01 : f0 ≤ 255) (q00 : 0 ≤ q0) (q01 : q0 ≤ 255) (f10 : 0 ≤ f1) (f11 : f1 ≤ 255) (q10 : 0 ≤ q1) (q11 : q1 ≤ 255) (f20 : 0 ≤ f2) (f21 : f2 ≤ 255) (q20 : 0 ≤ q2) (q21 : q2 ≤ 255) (f30 : 0 ≤ f3) (f31 : f3 ≤ 255) (q30 : 0 ≤ q3) (q31 : q3 ≤ 255) (s0 : 0 ≤ s) (s1 : s ≤ 256)
    (hf0 : w.cell? ⟨bf, 0, none⟩ = some (.int .i64 f0)) (hq0 : w.cell? ⟨bq, 0, none⟩ = some (.int .i64 q0)) (hf1 : w.cell? ⟨bf, 1, none⟩ = some (.int .i64 f1)) (hq1 : w.cell? ⟨bq, 1, none⟩ = some (.int .i64 q1)) (hf2 : w.cell? ⟨bf, 2, none⟩ = some (.int .i64 f2)) (hq2 : w.cell? ⟨bq, 2, none⟩ = some (.int .i64 q2)) (hf3 : w.cell? ⟨bf, 3, none⟩ = some (.int .i64 f3)) (hq3 : w.cell? ⟨bq, 3, none⟩ = some (.int .i64 q3)) (hs : w.cell? ⟨bt, 0, none⟩ = some (.int .i64 s)) :
    Calls Try.prog 74 #[.func (.func 75) #[] #[.pointer (some ⟨bf, 0, none⟩), .pointer (some ⟨bt, 0, none⟩), .pointer (some ⟨bq, 0, none⟩)]] w fun e w' =>
      e = .returned (.agg #[.int .u8 (mx f0 q0 s), .int .u8 (mx f1 q1 s), .int .u8 (mx f2 q2 s), .int .u8 (mx f3 q3 s)]) ∧ Below w.heap.size w w' := by
  have d0 := mx_bd f00 f01 q00 q01 s0 s1
  have d1 := mx_bd f10 f11 q10 q11 s0 s1
  have d2 := mx_bd f20 f21 q20 q21 s0 s1
  have d3 := mx_bd f30 f31 q30 q31 s0 s1
  have h := made_any 75 #[.pointer (some ⟨bf, 0, none⟩), .pointer (some ⟨bt, 0, none⟩), .pointer (some ⟨bq, 0, none⟩)] enters32 (mx f0 q0 s) (mx f1 q1 s) (mx f2 q2 s) (mx f3 q3 s) w (by omega) (by omega) (by omega) (by omega) (by omega) (by omega) (by omega) (by omega)
    (fun W hB => mix1_any 0 f0 q0 s bf bt bq W (by decide) (by decide) f00 f01 q00 q01 s0 s1 ((hB.cell (World.block_lt_of_cell? _ _ hf0)).trans hf0) ((hB.cell (World.block_lt_of_cell? _ _ hq0)).trans hq0) ((hB.cell (World.block_lt_of_cell? _ _ hs)).trans hs))
    (fun W hB => mix1_any 1 f1 q1 s bf bt bq W (by decide) (by decide) f10 f11 q10 q11 s0 s1 ((hB.cell (World.block_lt_of_cell? _ _ hf1)).trans hf1) ((hB.cell (World.block_lt_of_cell? _ _ hq1)).trans hq1) ((hB.cell (World.block_lt_of_cell? _ _ hs)).trans hs))
    (fun W hB => mix1_any 2 f2 q2 s bf bt bq W (by decide) (by decide) f20 f21 q20 q21 s0 s1 ((hB.cell (World.block_lt_of_cell? _ _ hf2)).trans hf2) ((hB.cell (World.block_lt_of_cell? _ _ hq2)).trans hq2) ((hB.cell (World.block_lt_of_cell? _ _ hs)).trans hs))
    (fun W hB => mix1_any 3 f3 q3 s bf bt bq W (by decide) (by decide) f30 f31 q30 q31 s0 s1 ((hB.cell (World.block_lt_of_cell? _ _ hf3)).trans hf3) ((hB.cell (World.block_lt_of_cell? _ _ hq3)).trans hq3) ((hB.cell (World.block_lt_of_cell? _ _ hs)).trans hs))
  rwa [sat_same d0.2, sat_same d1.2, sat_same d2.2, sat_same d3.2] at h

set_option maxHeartbeats 8000000 in
theorem mix_any (r g b a x y z c t u s : Int) (w : World) (r0 : 0 ≤ r) (r1 : r ≤ 255) (g0 : 0 ≤ g) (g1 : g ≤ 255) (b0 : 0 ≤ b) (b1 : b ≤ 255) (a0 : 0 ≤ a) (a1 : a ≤ 255)
    (x0 : 0 ≤ x) (x1 : x ≤ 255) (y0 : 0 ≤ y) (y1 : y ≤ 255) (z0 : 0 ≤ z) (z1 : z ≤ 255) (c0 : 0 ≤ c) (c1 : c ≤ 255) (s0 : 0 ≤ s) (s1 : s ≤ 256)
    (hu : (if t < 0 then 0 else t) = u) (hs : (if 256 < u then 256 else u) = s) :
    Calls Try.prog 56 #[.agg #[.int .u8 r, .int .u8 g, .int .u8 b, .int .u8 a], .agg #[.int .u8 x, .int .u8 y, .int .u8 z, .int .u8 c], .int .i64 t] w fun e w' =>
      e = .returned (.agg #[.int .u8 (mx r x s), .int .u8 (mx g y s), .int .u8 (mx b z s), .int .u8 (mx a c s)]) ∧ Below w.heap.size w w' := by
  have hmf := mk_func
  go_enter Try.func56, Try.ntmps56
  go_wp2
  go_region_held3 (fun w' => w'.cell? ⟨w.heap.size, 0, none⟩ = some (.int .u8 r) ∧ w'.cell? ⟨w.heap.size, 1, none⟩ = some (.int .u8 g) ∧ w'.cell? ⟨w.heap.size, 2, none⟩ = some (.int .u8 b) ∧ w'.cell? ⟨w.heap.size, 3, none⟩ = some (.int .u8 a) ∧
      w'.cell? ⟨w.heap.size + 1, 0, none⟩ = some (.int .u8 x) ∧ w'.cell? ⟨w.heap.size + 1, 1, none⟩ = some (.int .u8 y) ∧ w'.cell? ⟨w.heap.size + 1, 2, none⟩ = some (.int .u8 z) ∧ w'.cell? ⟨w.heap.size + 1, 3, none⟩ = some (.int .u8 c)) (simp [go_sem, World.cell?_alloc_past])
    (first
      | (go_at_call 73; ((with_reducible refine (parts_any _ _ _ _ _ (by assumption) (by assumption) (by assumption) (by assumption) (by assumption) (by assumption) (by assumption) (by assumption)).mono ?_); rintro e w1 ⟨rfl, o1, o2, rfl⟩)))
  all_goals
    go_wp2_with fail
    refine (mix_made _ _ _ r g b a x y z c s _ r0 r1 x0 x1 g0 g1 y0 y1 b0 b1 z0 z1 a0 a1 c0 c1 s0 s1 (by simp [go_sem, World.cell?_alloc_past]) (by simp [go_sem, World.cell?_alloc_past]) (by simp [go_sem, World.cell?_alloc_past]) (by simp [go_sem, World.cell?_alloc_past]) (by simp [go_sem, World.cell?_alloc_past]) (by simp [go_sem, World.cell?_alloc_past]) (by simp [go_sem, World.cell?_alloc_past]) (by simp [go_sem, World.cell?_alloc_past]) (by simp [go_sem, World.cell?_alloc_past])).mono ?_
    rintro e w9 ⟨rfl, hb9⟩
    have hc0 : w9.cell? ⟨w.heap.size + 1 + 1 + 1, 0, none⟩ = some (.int .u8 0) := by rw [hb9.cell (by simp <;> omega)]; simp [go_sem, World.cell?_alloc_past]
    have hf0 : w9.frozen? ⟨w.heap.size + 1 + 1 + 1, 0, none⟩ = false := by rw [hb9.frozen (by simp <;> omega)]; simp [go_sem]
    have hc1 : w9.cell? ⟨w.heap.size + 1 + 1 + 1, 1, none⟩ = some (.int .u8 0) := by rw [hb9.cell (by simp <;> omega)]; simp [go_sem, World.cell?_alloc_past]
    have hf1 : w9.frozen? ⟨w.heap.size + 1 + 1 + 1, 1, none⟩ = false := by rw [hb9.frozen (by simp <;> omega)]; simp [go_sem]
    have hc2 : w9.cell? ⟨w.heap.size + 1 + 1 + 1, 2, none⟩ = some (.int .u8 0) := by rw [hb9.cell (by simp <;> omega)]; simp [go_sem, World.cell?_alloc_past]
    have hf2 : w9.frozen? ⟨w.heap.size + 1 + 1 + 1, 2, none⟩ = false := by rw [hb9.frozen (by simp <;> omega)]; simp [go_sem]
    have hc3 : w9.cell? ⟨w.heap.size + 1 + 1 + 1, 3, none⟩ = some (.int .u8 0) := by rw [hb9.cell (by simp <;> omega)]; simp [go_sem, World.cell?_alloc_past]
    have hf3 : w9.frozen? ⟨w.heap.size + 1 + 1 + 1, 3, none⟩ = false := by rw [hb9.frozen (by simp <;> omega)]; simp [go_sem]
    have HB := Lib.hid (Below.trans (B := w.heap.size) (a := w) (by repeat (first | exact Below.refl _ _ | refine Below.drew ?_ | refine Below.alloc ?_ (by simp <;> omega) _ | refine Below.setCell ?_ (by simp <;> omega) _)) (hb9.mono (by simp <;> omega)))
    clear hb9 hu hs
    go_wp2
    refine bodyPost_ret (v := .agg #[.int .u8 (mx r x s), .int .u8 (mx g y s), .int .u8 (mx b z s), .int .u8 (mx a c s)]) (by simp [results, Try.results56, go_sem, *]) rfl ⟨rfl, ?_⟩
    exact (((HB.out.setCell (by simp <;> omega) _).setCell (by simp <;> omega) _).setCell (by simp <;> omega) _).setCell (by simp <;> omega) _

/-- A number held within 0 and 256. -/
def held (t : Int) : Int := if t < 0 then 0 else if 256 < t then 256 else t
theorem held_bd (t : Int) : 0 ≤ held t ∧ held t ≤ 256 := by
  unfold held
  split
  · omega
  · split <;> omega
def mix (f q : Col) (t : Int) : Col := ⟨mx f.r q.r (held t), mx f.g q.g (held t), mx f.b q.b (held t), mx f.a q.a (held t)⟩
theorem mix_ok {f q : Col} (t : Int) (hf : f.ok) (hq : q.ok) : (mix f q t).ok := by
  obtain ⟨⟨r0, r1⟩, ⟨g0, g1⟩, ⟨b0, b1⟩, ⟨a0, a1⟩⟩ := hf
  obtain ⟨⟨x0, x1⟩, ⟨y0, y1⟩, ⟨z0, z1⟩, ⟨c0, c1⟩⟩ := hq
  obtain ⟨s0, s1⟩ := held_bd t
  exact ⟨mx_bd r0 r1 x0 x1 s0 s1, mx_bd g0 g1 y0 y1 s0 s1, mx_bd b0 b1 z0 z1 s0 s1, mx_bd a0 a1 c0 c1 s0 s1⟩
theorem mix_col (f q : Col) (t : Int) (w : World) (hf : f.ok) (hq : q.ok) :
    Calls Try.prog 56 #[.agg #[.int .u8 f.r, .int .u8 f.g, .int .u8 f.b, .int .u8 f.a], .agg #[.int .u8 q.r, .int .u8 q.g, .int .u8 q.b, .int .u8 q.a], .int .i64 t] w fun e w' =>
      e = .returned (.agg #[.int .u8 (mix f q t).r, .int .u8 (mix f q t).g, .int .u8 (mix f q t).b, .int .u8 (mix f q t).a]) ∧ Below w.heap.size w w' := by
  obtain ⟨⟨r0, r1⟩, ⟨g0, g1⟩, ⟨b0, b1⟩, ⟨a0, a1⟩⟩ := hf
  obtain ⟨⟨x0, x1⟩, ⟨y0, y1⟩, ⟨z0, z1⟩, ⟨c0, c1⟩⟩ := hq
  obtain ⟨s0, s1⟩ := held_bd t
  exact mix_any f.r f.g f.b f.a q.r q.g q.b q.a t _ (held t) w r0 r1 g0 g1 b0 b1 a0 a1 x0 x1 y0 y1 z0 z1 c0 c1 s0 s1 rfl (by unfold held; split <;> split <;> omega)
end Go.Proofs.Ytehkcnmjkgelkaa
