/-
  The document's Pre, Right and Mix of colours: they are those of package colour.
-/
import Derived.Test.YtnpcmoeleigpoaaCol
namespace Go.Proofs.Ytnpcmoeleigpoaa
open Go.RowKit
attribute [local go_sem ↓] Go.wp_at_zero Go.wp_at_succ

def rightB (c : Col) : Bool := decide (c.r ≤ c.a) && decide (c.g ≤ c.a) && decide (c.b ≤ c.a)
def Col.right (c : Col) : Prop := c.r ≤ c.a ∧ c.g ≤ c.a ∧ c.b ≤ c.a
theorem rightB_of {c : Col} (h : c.right) : rightB c = true := by
  obtain ⟨h1, h2, h3⟩ := h
  simp [rightB, h1, h2, h3]
def pre (c : Col) : Col := ⟨dv (c.r * c.a), dv (c.g * c.a), dv (c.b * c.a), c.a⟩
theorem pre_ok {c : Col} (h : c.ok) : (pre c).ok := by
  obtain ⟨⟨r0, r1⟩, ⟨g0, g1⟩, ⟨b0, b1⟩, ⟨a0, a1⟩⟩ := h
  have m0 := mul_bd r0 r1 a0 a1
  have m1 := mul_bd g0 g1 a0 a1
  have m2 := mul_bd b0 b1 a0 a1
  exact ⟨dv_bd m0.1 m0.2, dv_bd m1.1 m1.2, dv_bd m2.1 m2.2, a0, a1⟩
theorem dv_le' {x a : Int} (x1 : x ≤ 255) (a0 : 0 ≤ a) : dv (x * a) ≤ a := by
  have h : x * a ≤ 255 * a := Int.mul_le_mul_of_nonneg_right x1 a0
  unfold dv
  omega
theorem pre_right {c : Col} (h : c.ok) : (pre c).right := by
  obtain ⟨⟨r0, r1⟩, ⟨g0, g1⟩, ⟨b0, b1⟩, ⟨a0, a1⟩⟩ := h
  exact ⟨dv_le' r1 a0, dv_le' g1 a0, dv_le' b1 a0⟩
theorem rdv_any (n : Int) (w : World) (h0 : 0 ≤ n) (h1 : n ≤ 65025) :
    Calls Try.prog 58 #[.int .i64 n] w fun e w' => e = .returned (.int .i64 (dv n)) ∧ w = w' := by
  have h : dv n = (2 * n + 255) / 510 := by unfold dv; omega
  rw [h]
  clear h
  go_enter Try.func58, Try.ntmps58
  go_wp2
  go_ret
  exact ⟨rfl, rfl⟩
theorem rpart_any (x a : Int) (w : World) (h0 : 0 ≤ x) (h1 : x ≤ 255) (k0 : 0 ≤ a) (k1 : a ≤ 255) :
    Calls Try.prog 40 #[.int .u8 x, .int .u8 a] w fun e w' => e = .returned (.int .u8 (dv (x * a))) ∧ w = w' := by
  obtain ⟨m0, m1⟩ := mul_bd h0 h1 k0 k1
  obtain ⟨d0, d1⟩ := dv_bd m0 m1
  go_enter Try.func40, Try.ntmps40
  go_wp2_with (go_at_call 58; refine (rdv_any _ _ (by omega) (by omega)).mono ?_; rintro e w' ⟨rfl, rfl⟩)
  go_ret
  exact ⟨rfl, rfl⟩
theorem rright_any (c : Col) (w : World) :
    Calls Try.prog 33 #[.agg #[.int .u8 c.r, .int .u8 c.g, .int .u8 c.b, .int .u8 c.a]] w fun e w' => e = .returned (.bool (rightB c)) ∧ Below w.heap.size w w' := by
  unfold rightB
  go_enter Try.func33, Try.ntmps33
  go_wp2
  all_goals
    go_ret
    exact ⟨by simp [*] <;> omega, (Below.refl _ _).alloc (Nat.le_refl _) _⟩
theorem rpre_col (c : Col) (w : World) (h : c.ok) :
    Calls Try.prog 19 #[.agg #[.int .u8 c.r, .int .u8 c.g, .int .u8 c.b, .int .u8 c.a]] w fun e w' => e = .returned (.agg #[.int .u8 (pre c).r, .int .u8 (pre c).g, .int .u8 (pre c).b, .int .u8 (pre c).a]) ∧ Below w.heap.size w w' := by
  obtain ⟨⟨r0, r1⟩, ⟨g0, g1⟩, ⟨b0, b1⟩, ⟨a0, a1⟩⟩ := h
  show Calls Try.prog 19 #[.agg #[.int .u8 c.r, .int .u8 c.g, .int .u8 c.b, .int .u8 c.a]] w fun e w' => e = .returned (.agg #[.int .u8 (dv (c.r * c.a)), .int .u8 (dv (c.g * c.a)), .int .u8 (dv (c.b * c.a)), .int .u8 c.a]) ∧ Below w.heap.size w w'
  go_enter Try.func19, Try.ntmps19
  go_wp2
  go_region_held3 (fun w' => w'.cell? ⟨w.heap.size, 0, none⟩ = some (.int .u8 c.r) ∧ w'.cell? ⟨w.heap.size, 1, none⟩ = some (.int .u8 c.g) ∧ w'.cell? ⟨w.heap.size, 2, none⟩ = some (.int .u8 c.b) ∧ w'.cell? ⟨w.heap.size, 3, none⟩ = some (.int .u8 c.a)) (simp [go_sem, World.cell?_alloc_past])
    (first
      | (go_at_call 40; ((with_reducible refine (rpart_any _ _ _ (by assumption) (by assumption) (by assumption) (by assumption)).mono ?_); rintro e w' ⟨rfl, rfl⟩)))
  go_wp2
  refine bodyPost_ret (v := .agg #[.int .u8 (dv (c.r * c.a)), .int .u8 (dv (c.g * c.a)), .int .u8 (dv (c.b * c.a)), .int .u8 c.a]) (by simp [results, Try.results19, go_sem]) rfl ⟨rfl, ?_⟩
  exact (((Below.refl _ _).alloc (Nat.le_refl _) _).alloc (by simp) _).drew
end Go.Proofs.Ytnpcmoeleigpoaa
