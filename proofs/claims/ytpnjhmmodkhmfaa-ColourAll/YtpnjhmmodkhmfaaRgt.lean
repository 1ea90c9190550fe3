/-
  colour.Right, and what is right of what comes of right colours.
-/
import Derived.Test.YtpnjhmmodkhmfaaMean
namespace Go.Proofs.Ytpnjhmmodkhmfaa
open Go.RowKit
attribute [local go_sem ↓] Go.wp_at_zero Go.wp_at_succ

def rightB (c : Col) : Bool := decide (c.r ≤ c.a) && decide (c.g ≤ c.a) && decide (c.b ≤ c.a)
def Col.right (c : Col) : Prop := c.r ≤ c.a ∧ c.g ≤ c.a ∧ c.b ≤ c.a
theorem rightB_of {c : Col} (h : c.right) : rightB c = true := by
  obtain ⟨h1, h2, h3⟩ := h
  simp [rightB, h1, h2, h3]

theorem right_any (c : Col) (w : World) :
    Calls Try.prog 11 #[.agg #[.int .u8 c.r, .int .u8 c.g, .int .u8 c.b, .int .u8 c.a]] w fun e w' => e = .returned (.bool (rightB c)) ∧ Below w.heap.size w w' := by
  unfold rightB
  go_enter Try.func11, Try.ntmps11
  go_wp2
  all_goals
    go_ret
    exact ⟨by simp [*] <;> omega, (Below.refl _ _).alloc (Nat.le_refl _) _⟩
theorem right_yes (c : Col) (w : World) (h : c.right) :
    Calls Try.prog 11 #[.agg #[.int .u8 c.r, .int .u8 c.g, .int .u8 c.b, .int .u8 c.a]] w fun e w' => e = .returned (.bool true) ∧ Below w.heap.size w w' := by
  have k := right_any c w
  rwa [rightB_of h] at k

def pre (c : Col) : Col := ⟨dv (c.r * c.a), dv (c.g * c.a), dv (c.b * c.a), c.a⟩
theorem pre_col (c : Col) (w : World) (h : c.ok) :
    Calls Try.prog 13 #[.agg #[.int .u8 c.r, .int .u8 c.g, .int .u8 c.b, .int .u8 c.a]] w fun e w' => e = .returned (.agg #[.int .u8 (pre c).r, .int .u8 (pre c).g, .int .u8 (pre c).b, .int .u8 (pre c).a]) ∧ Below w.heap.size w w' := by
  obtain ⟨⟨r0, r1⟩, ⟨g0, g1⟩, ⟨b0, b1⟩, ⟨a0, a1⟩⟩ := h
  exact pre_any c.r c.g c.b c.a w r0 r1 g0 g1 b0 b1 a0 a1
theorem pre_ok {c : Col} (h : c.ok) : (pre c).ok := by
  obtain ⟨⟨r0, r1⟩, ⟨g0, g1⟩, ⟨b0, b1⟩, ⟨a0, a1⟩⟩ := h
  have m0 := mul_bd r0 r1 a0 a1
  have m1 := mul_bd g0 g1 a0 a1
  have m2 := mul_bd b0 b1 a0 a1
  exact ⟨dv_bd m0.1 m0.2, dv_bd m1.1 m1.2, dv_bd m2.1 m2.2, a0, a1⟩
theorem dv_le' {x a : Int} (x1 : x ≤ 255) (a0 : 0 ≤ a) : dv (x * a) ≤ a := by
  have h : x * a ≤ 255 * a := Int.mul_le_mul_of_nonneg_right x1 a0
  unfold dv
  omega
theorem pre_right {c : Col} (h : c.ok) : (pre c).right := by
  obtain ⟨⟨r0, r1⟩, ⟨g0, g1⟩, ⟨b0, b1⟩, ⟨a0, a1⟩⟩ := h
  exact ⟨dv_le' r1 a0, dv_le' g1 a0, dv_le' b1 a0⟩
theorem sat_mono {m n : Int} (h : m ≤ n) : sat m ≤ sat n := by
  unfold sat
  split <;> split <;> omega
theorem dv_up {m n : Int} (h : m ≤ n) : dv m ≤ dv n := by unfold dv; omega
theorem over1_mono {x x' y y' a : Int} (a1 : a ≤ 255) (hx : x ≤ x') (hy : y ≤ y') : over1 x y a ≤ over1 x' y' a := by
  unfold over1
  refine sat_mono ?_
  have := dv_up (Int.mul_le_mul_of_nonneg_right hy (by omega : 0 ≤ 255 - a))
  omega
theorem over_right {f q : Col} (hf : f.ok) (hfr : f.right) (hqr : q.right) : (over f q).right :=
  ⟨over1_mono hf.2.2.2.2 hfr.1 hqr.1, over1_mono hf.2.2.2.2 hfr.2.1 hqr.2.1, over1_mono hf.2.2.2.2 hfr.2.2 hqr.2.2⟩
theorem mn_mono {a b c d a' b' c' d' : Int} (h1 : a ≤ a') (h2 : b ≤ b') (h3 : c ≤ c') (h4 : d ≤ d') : mn a b c d ≤ mn a' b' c' d' := by unfold mn; omega
theorem mean_right {a b c d : Col} (ha : a.right) (hb : b.right) (hc : c.right) (hd : d.right) : (mean a b c d).right :=
  ⟨mn_mono ha.1 hb.1 hc.1 hd.1, mn_mono ha.2.1 hb.2.1 hc.2.1 hd.2.1, mn_mono ha.2.2 hb.2.2 hc.2.2 hd.2.2⟩
theorem over1_ge {x y a : Int} (x1 : x ≤ 255) (y0 : 0 ≤ y) (a1 : a ≤ 255) : x ≤ over1 x y a := by
  have h : 0 ≤ y * (255 - a) := Int.mul_nonneg y0 (by omega)
  unfold over1 sat dv
  split <;> omega
theorem over1_ge' {y a : Int} (y1 : y ≤ 255) (a0 : 0 ≤ a) : y ≤ over1 a y a := by
  have h : y * a ≤ 255 * a := Int.mul_le_mul_of_nonneg_right y1 a0
  unfold over1 sat dv
  rw [Int.mul_sub]
  split <;> omega

/-- A block that holds four colours. -/
def fourB (a b c d : Col) : Obj := .cells #[.int .u8 a.r, .int .u8 a.g, .int .u8 a.b, .int .u8 a.a, .int .u8 b.r, .int .u8 b.g, .int .u8 b.b, .int .u8 b.a, .int .u8 c.r, .int .u8 c.g, .int .u8 c.b, .int .u8 c.a, .int .u8 d.r, .int .u8 d.g, .int .u8 d.b, .int .u8 d.a] 28 (0, 0)
theorem fourB_at {w : World} {g : Nat} {a b c d : Col} (h : w.heap[g]? = some (fourB a b c d)) : FourAt w g a b c d := by
  unfold fourB at h
  unfold FourAt
  exact ⟨Joins.cell_of_block h 0, Joins.cell_of_block h 1, Joins.cell_of_block h 2, Joins.cell_of_block h 3, Joins.cell_of_block h 4, Joins.cell_of_block h 5, Joins.cell_of_block h 6, Joins.cell_of_block h 7, Joins.cell_of_block h 8, Joins.cell_of_block h 9, Joins.cell_of_block h 10, Joins.cell_of_block h 11, Joins.cell_of_block h 12, Joins.cell_of_block h 13, Joins.cell_of_block h 14, Joins.cell_of_block h 15⟩
theorem fourB_free {w : World} {g : Nat} {a b c d : Col} (h : w.heap[g]? = some (fourB a b c d)) (o : Nat) : w.frozen? ⟨g, o, none⟩ = false := by
  unfold fourB at h
  simp [World.frozen?, h]
def zeroC : Col := ⟨0, 0, 0, 0⟩
theorem fourB_set {w : World} {g : Nat} {a b c d : Col} (x : Col) (h : w.heap[g]? = some (fourB a b c d)) :
    ((((w.setCell ⟨g, 0, none⟩ (.int .u8 x.r)).setCell ⟨g, 1, none⟩ (.int .u8 x.g)).setCell ⟨g, 2, none⟩ (.int .u8 x.b)).setCell ⟨g, 3, none⟩ (.int .u8 x.a)).heap[g]? = some (fourB x b c d) ∧
    ((((w.setCell ⟨g, 4, none⟩ (.int .u8 x.r)).setCell ⟨g, 5, none⟩ (.int .u8 x.g)).setCell ⟨g, 6, none⟩ (.int .u8 x.b)).setCell ⟨g, 7, none⟩ (.int .u8 x.a)).heap[g]? = some (fourB a x c d) ∧
    ((((w.setCell ⟨g, 8, none⟩ (.int .u8 x.r)).setCell ⟨g, 9, none⟩ (.int .u8 x.g)).setCell ⟨g, 10, none⟩ (.int .u8 x.b)).setCell ⟨g, 11, none⟩ (.int .u8 x.a)).heap[g]? = some (fourB a b x d) ∧
    ((((w.setCell ⟨g, 12, none⟩ (.int .u8 x.r)).setCell ⟨g, 13, none⟩ (.int .u8 x.g)).setCell ⟨g, 14, none⟩ (.int .u8 x.b)).setCell ⟨g, 15, none⟩ (.int .u8 x.a)).heap[g]? = some (fourB a b c x) := by
  unfold fourB at h
  refine ⟨?_, ?_, ?_, ?_⟩
  all_goals
    rw [heap_setCell_same _ _ _ _ _ _ (heap_setCell_same _ _ _ _ _ _ (heap_setCell_same _ _ _ _ _ _ (heap_setCell_same _ _ _ _ _ _ h)))]
    simp [fourB]
theorem colsAt_three {w : World} {g : Nat} {a b c d : Col} (h : FourAt w g a b c d) : ColsAt w g 0 [a, b, c] := by
  obtain ⟨e0, e1, e2, e3, e4, e5, e6, e7, e8, e9, e10, e11, e12, e13, e14, e15⟩ := h
  intro i hi
  match i, hi with
  | 0, _ => exact ⟨e0, e1, e2, e3⟩
  | 1, _ => exact ⟨e4, e5, e6, e7⟩
  | 2, _ => exact ⟨e8, e9, e10, e11⟩
end Go.Proofs.Ytpnjhmmodkhmfaa
