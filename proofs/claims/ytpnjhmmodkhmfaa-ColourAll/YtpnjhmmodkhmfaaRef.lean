/-
  The document's answers of layer 2 (glazierref02), at this seat's translation: they are those of package colour.
-/
import Derived.Test.YtpnjhmmodkhmfaaRgt
import Derived.StillTailTactics
namespace Go.Proofs.Ytpnjhmmodkhmfaa
open Go.RowKit
attribute [local go_sem ↓] Go.wp_at_zero Go.wp_at_succ

theorem rdv_any (n : Int) (w : World) (h0 : 0 ≤ n) (h1 : n ≤ 65025) :
    Calls Try.prog 34 #[.int .i64 n] w fun e w' => e = .returned (.int .i64 (dv n)) ∧ w = w' := by
  have h : dv n = (2 * n + 255) / 510 := by unfold dv; omega
  rw [h]
  clear h
  go_enter Try.func34, Try.ntmps34
  go_wp2
  go_ret
  exact ⟨rfl, rfl⟩
theorem rsat_any (n : Int) (w : World) (h0 : 0 ≤ n) (h1 : n ≤ 100000) :
    Calls Try.prog 36 #[.int .i64 n] w fun e w' => e = .returned (.int .u8 (sat n)) ∧ w = w' := by
  unfold sat
  by_cases h : 255 < n
  · rw [if_pos h]
    go_enter Try.func36, Try.ntmps36
    go_wp2
    go_ret
    exact ⟨rfl, rfl⟩
  · rw [if_neg h]
    go_enter Try.func36, Try.ntmps36
    go_wp2
    go_ret
    exact ⟨rfl, rfl⟩
theorem rpart_any (x a : Int) (w : World) (h0 : 0 ≤ x) (h1 : x ≤ 255) (k0 : 0 ≤ a) (k1 : a ≤ 255) :
    Calls Try.prog 26 #[.int .u8 x, .int .u8 a] w fun e w' => e = .returned (.int .u8 (dv (x * a))) ∧ w = w' := by
  obtain ⟨m0, m1⟩ := mul_bd h0 h1 k0 k1
  obtain ⟨d0, d1⟩ := dv_bd m0 m1
  go_enter Try.func26, Try.ntmps26
  go_wp2_with (go_at_call 34; refine (rdv_any _ _ (by omega) (by omega)).mono ?_; rintro e w' ⟨rfl, rfl⟩)
  go_ret
  exact ⟨rfl, rfl⟩
theorem rover1_any (x y a : Int) (w : World) (x0 : 0 ≤ x) (x1 : x ≤ 255) (y0 : 0 ≤ y) (y1 : y ≤ 255) (a0 : 0 ≤ a) (a1 : a ≤ 255) :
    Calls Try.prog 30 #[.int .u8 x, .int .u8 y, .int .u8 a] w fun e w' => e = .returned (.int .u8 (over1 x y a)) ∧ w = w' := by
  obtain ⟨m0, m1⟩ := mul_bd y0 y1 (by omega : 0 ≤ 255 - a) (by omega)
  obtain ⟨d0, d1⟩ := dv_bd m0 m1
  unfold over1
  go_enter Try.func30, Try.ntmps30
  go_wp2_with (first
    | (go_at_call 34; refine (rdv_any _ _ (by omega) (by omega)).mono ?_; rintro e w' ⟨rfl, rfl⟩)
    | (go_at_call 36; refine (rsat_any _ _ (by omega) (by omega)).mono ?_; rintro e w' ⟨rfl, rfl⟩))
  go_ret
  exact ⟨rfl, rfl⟩
theorem rmix1_any (x y t : Int) (w : World) (x0 : 0 ≤ x) (x1 : x ≤ 255) (y0 : 0 ≤ y) (y1 : y ≤ 255) (t0 : 0 ≤ t) (t1 : t ≤ 256) :
    Calls Try.prog 33 #[.int .u8 x, .int .u8 y, .int .i64 t] w fun e w' => e = .returned (.int .u8 (mx x y t)) ∧ w = w' := by
  obtain ⟨a0, a1⟩ := mul_bd6 x0 x1 (by omega : 0 ≤ 256 - t)
  obtain ⟨b0, b1⟩ := mul_bd6 y0 y1 t0
  have a2 : x * (256 - t) ≤ 65280 := by omega
  have b2 : y * t ≤ 65280 := by omega
  obtain ⟨c0, c1⟩ := mx_bd x0 x1 y0 y1 t0 t1
  unfold mx at c0 c1 ⊢
  go_enter Try.func33, Try.ntmps33
  go_wp2
  go_ret
  exact ⟨rfl, rfl⟩

theorem rright_any (c : Col) (w : World) :
    Calls Try.prog 12 #[.agg #[.int .u8 c.r, .int .u8 c.g, .int .u8 c.b, .int .u8 c.a]] w fun e w' => e = .returned (.bool (rightB c)) ∧ Below w.heap.size w w' := by
  unfold rightB
  go_enter Try.func12, Try.ntmps12
  go_wp2
  all_goals
    go_ret
    exact ⟨by simp [*] <;> omega, (Below.refl _ _).alloc (Nat.le_refl _) _⟩

theorem rpre_col (c : Col) (w : World) (h : c.ok) :
    Calls Try.prog 14 #[.agg #[.int .u8 c.r, .int .u8 c.g, .int .u8 c.b, .int .u8 c.a]] w fun e w' => e = .returned (.agg #[.int .u8 (pre c).r, .int .u8 (pre c).g, .int .u8 (pre c).b, .int .u8 (pre c).a]) ∧ Below w.heap.size w w' := by
  obtain ⟨⟨r0, r1⟩, ⟨g0, g1⟩, ⟨b0, b1⟩, ⟨a0, a1⟩⟩ := h
  show Calls Try.prog 14 #[.agg #[.int .u8 c.r, .int .u8 c.g, .int .u8 c.b, .int .u8 c.a]] w fun e w' => e = .returned (.agg #[.int .u8 (dv (c.r * c.a)), .int .u8 (dv (c.g * c.a)), .int .u8 (dv (c.b * c.a)), .int .u8 c.a]) ∧ Below w.heap.size w w'
  go_enter Try.func14, Try.ntmps14
  go_wp2
  go_region_held3 (fun w' => w'.cell? ⟨w.heap.size, 0, none⟩ = some (.int .u8 c.r) ∧ w'.cell? ⟨w.heap.size, 1, none⟩ = some (.int .u8 c.g) ∧ w'.cell? ⟨w.heap.size, 2, none⟩ = some (.int .u8 c.b) ∧ w'.cell? ⟨w.heap.size, 3, none⟩ = some (.int .u8 c.a)) (simp [go_sem, World.cell?_alloc_past])
    (first
      | (go_at_call 26; ((with_reducible refine (rpart_any _ _ _ (by assumption) (by assumption) (by assumption) (by assumption)).mono ?_); rintro e w' ⟨rfl, rfl⟩)))
  go_wp2
  refine bodyPost_ret (v := .agg #[.int .u8 (dv (c.r * c.a)), .int .u8 (dv (c.g * c.a)), .int .u8 (dv (c.b * c.a)), .int .u8 c.a]) (by simp [results, Try.results14, go_sem]) rfl ⟨rfl, ?_⟩
  exact (((Below.refl _ _).alloc (Nat.le_refl _) _).alloc (by simp) _).drew

set_option maxHeartbeats 4000000 in
theorem rover_col (f q : Col) (w : World) (hf : f.ok) (hq : q.ok) :
    Calls Try.prog 16 #[.agg #[.int .u8 f.r, .int .u8 f.g, .int .u8 f.b, .int .u8 f.a], .agg #[.int .u8 q.r, .int .u8 q.g, .int .u8 q.b, .int .u8 q.a]] w fun e w' => e = .returned (.agg #[.int .u8 (over f q).r, .int .u8 (over f q).g, .int .u8 (over f q).b, .int .u8 (over f q).a]) ∧ Below w.heap.size w w' := by
  obtain ⟨⟨r0, r1⟩, ⟨g0, g1⟩, ⟨b0, b1⟩, ⟨a0, a1⟩⟩ := hf
  obtain ⟨⟨x0, x1⟩, ⟨y0, y1⟩, ⟨z0, z1⟩, ⟨c0, c1⟩⟩ := hq
  show Calls Try.prog 16 #[.agg #[.int .u8 f.r, .int .u8 f.g, .int .u8 f.b, .int .u8 f.a], .agg #[.int .u8 q.r, .int .u8 q.g, .int .u8 q.b, .int .u8 q.a]] w fun e w' => e = .returned (.agg #[.int .u8 (over1 f.r q.r f.a), .int .u8 (over1 f.g q.g f.a), .int .u8 (over1 f.b q.b f.a), .int .u8 (over1 f.a q.a f.a)]) ∧ Below w.heap.size w w'
  go_enter Try.func16, Try.ntmps16
  go_wp2
  go_region_held3 (fun w' => w'.cell? ⟨w.heap.size, 0, none⟩ = some (.int .u8 f.r) ∧ w'.cell? ⟨w.heap.size, 1, none⟩ = some (.int .u8 f.g) ∧ w'.cell? ⟨w.heap.size, 2, none⟩ = some (.int .u8 f.b) ∧ w'.cell? ⟨w.heap.size, 3, none⟩ = some (.int .u8 f.a) ∧ w'.cell? ⟨w.heap.size + 1, 0, none⟩ = some (.int .u8 q.r) ∧ w'.cell? ⟨w.heap.size + 1, 1, none⟩ = some (.int .u8 q.g) ∧ w'.cell? ⟨w.heap.size + 1, 2, none⟩ = some (.int .u8 q.b) ∧ w'.cell? ⟨w.heap.size + 1, 3, none⟩ = some (.int .u8 q.a)) (simp [go_sem, World.cell?_alloc_past])
    (first
      | (go_at_call 30; ((with_reducible refine (rover1_any _ _ _ _ (by assumption) (by assumption) (by assumption) (by assumption) (by assumption) (by assumption)).mono ?_); rintro e w' ⟨rfl, rfl⟩)))
  go_wp2
  refine bodyPost_ret (v := .agg #[.int .u8 (over1 f.r q.r f.a), .int .u8 (over1 f.g q.g f.a), .int .u8 (over1 f.b q.b f.a), .int .u8 (over1 f.a q.a f.a)]) (by simp [results, Try.results16, go_sem]) rfl ⟨rfl, ?_⟩
  exact ((((Below.refl _ _).alloc (Nat.le_refl _) _).alloc (by simp) _).alloc (by simp <;> omega) _).drew
end Go.Proofs.Ytpnjhmmodkhmfaa
