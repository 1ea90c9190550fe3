/-
  colour.Mean, at this seat's translation.
-/
import Derived.Test.YtpnjhmmodkhmfaaMix
import Derived.LoopN
namespace Go.Proofs.Ytpnjhmmodkhmfaa
open Go.RowKit
attribute [local go_sem ↓] Go.wp_at_zero Go.wp_at_succ

def mn (a b c d : Int) : Int := (2 + a + b + c + d) / 4
theorem mn_bd {a b c d : Int} (a0 : 0 ≤ a ∧ a ≤ 255) (b0 : 0 ≤ b ∧ b ≤ 255) (c0 : 0 ≤ c ∧ c ≤ 255) (d0 : 0 ≤ d ∧ d ≤ 255) : 0 ≤ mn a b c d ∧ mn a b c d ≤ 255 := by unfold mn; omega
def mean (a b c d : Col) : Col := ⟨mn a.r b.r c.r d.r, mn a.g b.g c.g d.g, mn a.b b.b c.b d.b, mn a.a b.a c.a d.a⟩
theorem mean_ok {a b c d : Col} (ha : a.ok) (hb : b.ok) (hc : c.ok) (hd : d.ok) : (mean a b c d).ok :=
  ⟨mn_bd ha.1 hb.1 hc.1 hd.1, mn_bd ha.2.1 hb.2.1 hc.2.1 hd.2.1, mn_bd ha.2.2.1 hb.2.2.1 hc.2.2.1 hd.2.2.1, mn_bd ha.2.2.2 hb.2.2.2 hc.2.2.2 hd.2.2.2⟩

/-- The cells of four colours. -/
def FourAt (w : World) (g : Nat) (a b c d : Col) : Prop :=
  w.cell? ⟨g, 0, none⟩ = some (.int .u8 a.r) ∧ w.cell? ⟨g, 1, none⟩ = some (.int .u8 a.g) ∧ w.cell? ⟨g, 2, none⟩ = some (.int .u8 a.b) ∧ w.cell? ⟨g, 3, none⟩ = some (.int .u8 a.a) ∧ w.cell? ⟨g, 4, none⟩ = some (.int .u8 b.r) ∧ w.cell? ⟨g, 5, none⟩ = some (.int .u8 b.g) ∧ w.cell? ⟨g, 6, none⟩ = some (.int .u8 b.b) ∧ w.cell? ⟨g, 7, none⟩ = some (.int .u8 b.a) ∧ w.cell? ⟨g, 8, none⟩ = some (.int .u8 c.r) ∧ w.cell? ⟨g, 9, none⟩ = some (.int .u8 c.g) ∧ w.cell? ⟨g, 10, none⟩ = some (.int .u8 c.b) ∧ w.cell? ⟨g, 11, none⟩ = some (.int .u8 c.a) ∧ w.cell? ⟨g, 12, none⟩ = some (.int .u8 d.r) ∧ w.cell? ⟨g, 13, none⟩ = some (.int .u8 d.g) ∧ w.cell? ⟨g, 14, none⟩ = some (.int .u8 d.b) ∧ w.cell? ⟨g, 15, none⟩ = some (.int .u8 d.a)
theorem FourAt.grow {w w' : World} {g : Nat} {a b c d : Col} (h : FourAt w g a b c d) (hb : Below w.heap.size w w') : FourAt w' g a b c d := by
  have hz : g < w.heap.size := World.block_lt_of_cell? _ _ h.1
  have k : ∀ o, w'.cell? ⟨g, o, none⟩ = w.cell? ⟨g, o, none⟩ := fun o => hb.cell (p := ⟨g, o, none⟩) hz
  unfold FourAt at *
  simp only [k]
  exact h

theorem index28_0 (x0 x1 x2 x3 x4 x5 x6 x7 x8 x9 x10 x11 x12 x13 x14 x15 : Value) (w : World) : (Instr.index 28 (.agg #[x0, x1, x2, x3, x4, x5, x6, x7, x8, x9, x10, x11, x12, x13, x14, x15]) (.int .i64 0)).run Try.prog w = .ok (.agg #[x0, x1, x2, x3]) w := by
  simp [Instr.index, run_underlying Try.underlying28, asIntOf, go_sem]
theorem index28_1 (x0 x1 x2 x3 x4 x5 x6 x7 x8 x9 x10 x11 x12 x13 x14 x15 : Value) (w : World) : (Instr.index 28 (.agg #[x0, x1, x2, x3, x4, x5, x6, x7, x8, x9, x10, x11, x12, x13, x14, x15]) (.int .i64 1)).run Try.prog w = .ok (.agg #[x4, x5, x6, x7]) w := by
  simp [Instr.index, run_underlying Try.underlying28, asIntOf, go_sem]
theorem index28_2 (x0 x1 x2 x3 x4 x5 x6 x7 x8 x9 x10 x11 x12 x13 x14 x15 : Value) (w : World) : (Instr.index 28 (.agg #[x0, x1, x2, x3, x4, x5, x6, x7, x8, x9, x10, x11, x12, x13, x14, x15]) (.int .i64 2)).run Try.prog w = .ok (.agg #[x8, x9, x10, x11]) w := by
  simp [Instr.index, run_underlying Try.underlying28, asIntOf, go_sem]
theorem index28_3 (x0 x1 x2 x3 x4 x5 x6 x7 x8 x9 x10 x11 x12 x13 x14 x15 : Value) (w : World) : (Instr.index 28 (.agg #[x0, x1, x2, x3, x4, x5, x6, x7, x8, x9, x10, x11, x12, x13, x14, x15]) (.int .i64 3)).run Try.prog w = .ok (.agg #[x12, x13, x14, x15]) w := by
  simp [Instr.index, run_underlying Try.underlying28, asIntOf, go_sem]
theorem index47_0 (x0 x1 x2 x3 : Int) (w : World) : (Instr.index 47 (.agg #[.int .i64 x0, .int .i64 x1, .int .i64 x2, .int .i64 x3]) (.int .i64 0)).run Try.prog w = .ok (.int .i64 x0) w := by
  simp [Instr.index, run_underlying Try.underlying47, asIntOf, go_sem]
theorem index47_1 (x0 x1 x2 x3 : Int) (w : World) : (Instr.index 47 (.agg #[.int .i64 x0, .int .i64 x1, .int .i64 x2, .int .i64 x3]) (.int .i64 1)).run Try.prog w = .ok (.int .i64 x1) w := by
  simp [Instr.index, run_underlying Try.underlying47, asIntOf, go_sem]
theorem index47_2 (x0 x1 x2 x3 : Int) (w : World) : (Instr.index 47 (.agg #[.int .i64 x0, .int .i64 x1, .int .i64 x2, .int .i64 x3]) (.int .i64 2)).run Try.prog w = .ok (.int .i64 x2) w := by
  simp [Instr.index, run_underlying Try.underlying47, asIntOf, go_sem]
theorem index47_3 (x0 x1 x2 x3 : Int) (w : World) : (Instr.index 47 (.agg #[.int .i64 x0, .int .i64 x1, .int .i64 x2, .int .i64 x3]) (.int .i64 3)).run Try.prog w = .ok (.int .i64 x3) w := by
  simp [Instr.index, run_underlying Try.underlying47, asIntOf, go_sem]
attribute [local go_sem] index28_0 index28_1 index28_2 index28_3 index47_0 index47_1 index47_2 index47_3

set_option maxHeartbeats 4000000 in
theorem mean1_0 (g : Nat) (a b c d : Col) (w : World) (ha : a.ok) (hb : b.ok) (hc : c.ok) (hd : d.ok) (h : FourAt w g a b c d) :
    Calls Try.prog 31 #[.int .i64 0, .pointer (some ⟨g, 0, none⟩)] w fun e w' => e = .returned (.int .i64 (mn a.r b.r c.r d.r)) ∧ Below w.heap.size w w' := by
  obtain ⟨e0, e1, e2, e3, e4, e5, e6, e7, e8, e9, e10, e11, e12, e13, e14, e15⟩ := h
  obtain ⟨⟨ar0, ar1⟩, ⟨ag0, ag1⟩, ⟨ab0, ab1⟩, ⟨aa0, aa1⟩⟩ := ha
  obtain ⟨⟨br0, br1⟩, ⟨bg0, bg1⟩, ⟨bb0, bb1⟩, ⟨ba0, ba1⟩⟩ := hb
  obtain ⟨⟨cr0, cr1⟩, ⟨cg0, cg1⟩, ⟨cb0, cb1⟩, ⟨ca0, ca1⟩⟩ := hc
  obtain ⟨⟨dr0, dr1⟩, ⟨dg0, dg1⟩, ⟨db0, db1⟩, ⟨da0, da1⟩⟩ := hd
  unfold mn
  go_enter Try.func31, Try.ntmps31
  go_wp2
  refine wp_loop_rounds 5 ?_
  rw [rounds_succ]
  go_wp2_with (go_at_call 27; ((with_reducible refine (parts_any _ _ _ _ _ (by assumption) (by assumption) (by assumption) (by assumption) (by assumption) (by assumption) (by assumption) (by assumption)).mono ?_); rintro e w1 ⟨rfl, o1, o2, rfl⟩))
  rw [rounds_succ]
  go_wp2_with (go_at_call 27; ((with_reducible refine (parts_any _ _ _ _ _ (by assumption) (by assumption) (by assumption) (by assumption) (by assumption) (by assumption) (by assumption) (by assumption)).mono ?_); rintro e w1 ⟨rfl, o1, o2, rfl⟩))
  rw [rounds_succ]
  go_wp2_with (go_at_call 27; ((with_reducible refine (parts_any _ _ _ _ _ (by assumption) (by assumption) (by assumption) (by assumption) (by assumption) (by assumption) (by assumption) (by assumption)).mono ?_); rintro e w1 ⟨rfl, o1, o2, rfl⟩))
  rw [rounds_succ]
  go_wp2_with (go_at_call 27; ((with_reducible refine (parts_any _ _ _ _ _ (by assumption) (by assumption) (by assumption) (by assumption) (by assumption) (by assumption) (by assumption) (by assumption)).mono ?_); rintro e w1 ⟨rfl, o1, o2, rfl⟩))
  rw [rounds_succ]
  go_wp2
  go_ret
  exact ⟨rfl, by repeat (first | exact Below.refl _ _ | refine Below.alloc ?_ (by simp <;> omega) _)⟩

set_option maxHeartbeats 4000000 in
theorem mean1_1 (g : Nat) (a b c d : Col) (w : World) (ha : a.ok) (hb : b.ok) (hc : c.ok) (hd : d.ok) (h : FourAt w g a b c d) :
    Calls Try.prog 31 #[.int .i64 1, .pointer (some ⟨g, 0, none⟩)] w fun e w' => e = .returned (.int .i64 (mn a.g b.g c.g d.g)) ∧ Below w.heap.size w w' := by
  obtain ⟨e0, e1, e2, e3, e4, e5, e6, e7, e8, e9, e10, e11, e12, e13, e14, e15⟩ := h
  obtain ⟨⟨ar0, ar1⟩, ⟨ag0, ag1⟩, ⟨ab0, ab1⟩, ⟨aa0, aa1⟩⟩ := ha
  obtain ⟨⟨br0, br1⟩, ⟨bg0, bg1⟩, ⟨bb0, bb1⟩, ⟨ba0, ba1⟩⟩ := hb
  obtain ⟨⟨cr0, cr1⟩, ⟨cg0, cg1⟩, ⟨cb0, cb1⟩, ⟨ca0, ca1⟩⟩ := hc
  obtain ⟨⟨dr0, dr1⟩, ⟨dg0, dg1⟩, ⟨db0, db1⟩, ⟨da0, da1⟩⟩ := hd
  unfold mn
  go_enter Try.func31, Try.ntmps31
  go_wp2
  refine wp_loop_rounds 5 ?_
  rw [rounds_succ]
  go_wp2_with (go_at_call 27; ((with_reducible refine (parts_any _ _ _ _ _ (by assumption) (by assumption) (by assumption) (by assumption) (by assumption) (by assumption) (by assumption) (by assumption)).mono ?_); rintro e w1 ⟨rfl, o1, o2, rfl⟩))
  rw [rounds_succ]
  go_wp2_with (go_at_call 27; ((with_reducible refine (parts_any _ _ _ _ _ (by assumption) (by assumption) (by assumption) (by assumption) (by assumption) (by assumption) (by assumption) (by assumption)).mono ?_); rintro e w1 ⟨rfl, o1, o2, rfl⟩))
  rw [rounds_succ]
  go_wp2_with (go_at_call 27; ((with_reducible refine (parts_any _ _ _ _ _ (by assumption) (by assumption) (by assumption) (by assumption) (by assumption) (by assumption) (by assumption) (by assumption)).mono ?_); rintro e w1 ⟨rfl, o1, o2, rfl⟩))
  rw [rounds_succ]
  go_wp2_with (go_at_call 27; ((with_reducible refine (parts_any _ _ _ _ _ (by assumption) (by assumption) (by assumption) (by assumption) (by assumption) (by assumption) (by assumption) (by assumption)).mono ?_); rintro e w1 ⟨rfl, o1, o2, rfl⟩))
  rw [rounds_succ]
  go_wp2
  go_ret
  exact ⟨rfl, by repeat (first | exact Below.refl _ _ | refine Below.alloc ?_ (by simp <;> omega) _)⟩

set_option maxHeartbeats 4000000 in
theorem mean1_2 (g : Nat) (a b c d : Col) (w : World) (ha : a.ok) (hb : b.ok) (hc : c.ok) (hd : d.ok) (h : FourAt w g a b c d) :
    Calls Try.prog 31 #[.int .i64 2, .pointer (some ⟨g, 0, none⟩)] w fun e w' => e = .returned (.int .i64 (mn a.b b.b c.b d.b)) ∧ Below w.heap.size w w' := by
  obtain ⟨e0, e1, e2, e3, e4, e5, e6, e7, e8, e9, e10, e11, e12, e13, e14, e15⟩ := h
  obtain ⟨⟨ar0, ar1⟩, ⟨ag0, ag1⟩, ⟨ab0, ab1⟩, ⟨aa0, aa1⟩⟩ := ha
  obtain ⟨⟨br0, br1⟩, ⟨bg0, bg1⟩, ⟨bb0, bb1⟩, ⟨ba0, ba1⟩⟩ := hb
  obtain ⟨⟨cr0, cr1⟩, ⟨cg0, cg1⟩, ⟨cb0, cb1⟩, ⟨ca0, ca1⟩⟩ := hc
  obtain ⟨⟨dr0, dr1⟩, ⟨dg0, dg1⟩, ⟨db0, db1⟩, ⟨da0, da1⟩⟩ := hd
  unfold mn
  go_enter Try.func31, Try.ntmps31
  go_wp2
  refine wp_loop_rounds 5 ?_
  rw [rounds_succ]
  go_wp2_with (go_at_call 27; ((with_reducible refine (parts_any _ _ _ _ _ (by assumption) (by assumption) (by assumption) (by assumption) (by assumption) (by assumption) (by assumption) (by assumption)).mono ?_); rintro e w1 ⟨rfl, o1, o2, rfl⟩))
  rw [rounds_succ]
  go_wp2_with (go_at_call 27; ((with_reducible refine (parts_any _ _ _ _ _ (by assumption) (by assumption) (by assumption) (by assumption) (by assumption) (by assumption) (by assumption) (by assumption)).mono ?_); rintro e w1 ⟨rfl, o1, o2, rfl⟩))
  rw [rounds_succ]
  go_wp2_with (go_at_call 27; ((with_reducible refine (parts_any _ _ _ _ _ (by assumption) (by assumption) (by assumption) (by assumption) (by assumption) (by assumption) (by assumption) (by assumption)).mono ?_); rintro e w1 ⟨rfl, o1, o2, rfl⟩))
  rw [rounds_succ]
  go_wp2_with (go_at_call 27; ((with_reducible refine (parts_any _ _ _ _ _ (by assumption) (by assumption) (by assumption) (by assumption) (by assumption) (by assumption) (by assumption) (by assumption)).mono ?_); rintro e w1 ⟨rfl, o1, o2, rfl⟩))
  rw [rounds_succ]
  go_wp2
  go_ret
  exact ⟨rfl, by repeat (first | exact Below.refl _ _ | refine Below.alloc ?_ (by simp <;> omega) _)⟩

set_option maxHeartbeats 4000000 in
theorem mean1_3 (g : Nat) (a b c d : Col) (w : World) (ha : a.ok) (hb : b.ok) (hc : c.ok) (hd : d.ok) (h : FourAt w g a b c d) :
    Calls Try.prog 31 #[.int .i64 3, .pointer (some ⟨g, 0, none⟩)] w fun e w' => e = .returned (.int .i64 (mn a.a b.a c.a d.a)) ∧ Below w.heap.size w w' := by
  obtain ⟨e0, e1, e2, e3, e4, e5, e6, e7, e8, e9, e10, e11, e12, e13, e14, e15⟩ := h
  obtain ⟨⟨ar0, ar1⟩, ⟨ag0, ag1⟩, ⟨ab0, ab1⟩, ⟨aa0, aa1⟩⟩ := ha
  obtain ⟨⟨br0, br1⟩, ⟨bg0, bg1⟩, ⟨bb0, bb1⟩, ⟨ba0, ba1⟩⟩ := hb
  obtain ⟨⟨cr0, cr1⟩, ⟨cg0, cg1⟩, ⟨cb0, cb1⟩, ⟨ca0, ca1⟩⟩ := hc
  obtain ⟨⟨dr0, dr1⟩, ⟨dg0, dg1⟩, ⟨db0, db1⟩, ⟨da0, da1⟩⟩ := hd
  unfold mn
  go_enter Try.func31, Try.ntmps31
  go_wp2
  refine wp_loop_rounds 5 ?_
  rw [rounds_succ]
  go_wp2_with (go_at_call 27; ((with_reducible refine (parts_any _ _ _ _ _ (by assumption) (by assumption) (by assumption) (by assumption) (by assumption) (by assumption) (by assumption) (by assumption)).mono ?_); rintro e w1 ⟨rfl, o1, o2, rfl⟩))
  rw [rounds_succ]
  go_wp2_with (go_at_call 27; ((with_reducible refine (parts_any _ _ _ _ _ (by assumption) (by assumption) (by assumption) (by assumption) (by assumption) (by assumption) (by assumption) (by assumption)).mono ?_); rintro e w1 ⟨rfl, o1, o2, rfl⟩))
  rw [rounds_succ]
  go_wp2_with (go_at_call 27; ((with_reducible refine (parts_any _ _ _ _ _ (by assumption) (by assumption) (by assumption) (by assumption) (by assumption) (by assumption) (by assumption) (by assumption)).mono ?_); rintro e w1 ⟨rfl, o1, o2, rfl⟩))
  rw [rounds_succ]
  go_wp2_with (go_at_call 27; ((with_reducible refine (parts_any _ _ _ _ _ (by assumption) (by assumption) (by assumption) (by assumption) (by assumption) (by assumption) (by assumption) (by assumption)).mono ?_); rintro e w1 ⟨rfl, o1, o2, rfl⟩))
  rw [rounds_succ]
  go_wp2
  go_ret
  exact ⟨rfl, by repeat (first | exact Below.refl _ _ | refine Below.alloc ?_ (by simp <;> omega) _)⟩

theorem enters31 (args : Array Value) (w : World) : (callFunc 31 args).run Try.prog w = .ok (.enter 31 args) w := by
  go_simp

theorem mean_made (g : Nat) (a b c d : Col) (w : World) (ha : a.ok) (hb : b.ok) (hc : c.ok) (hd : d.ok) (h : FourAt w g a b c d) :
    Calls Try.prog 28 #[.func (.func 31) #[] #[.pointer (some ⟨g, 0, none⟩)]] w fun e w' => e = .returned (.agg #[.int .u8 (mean a b c d).r, .int .u8 (mean a b c d).g, .int .u8 (mean a b c d).b, .int .u8 (mean a b c d).a]) ∧ Below w.heap.size w w' := by
  obtain ⟨⟨r0, r1⟩, ⟨g0, g1⟩, ⟨b0, b1⟩, ⟨a0, a1⟩⟩ := mean_ok ha hb hc hd
  have k := made_any 31 #[.pointer (some ⟨g, 0, none⟩)] enters31 (mean a b c d).r (mean a b c d).g (mean a b c d).b (mean a b c d).a w (by omega) (by omega) (by omega) (by omega) (by omega) (by omega) (by omega) (by omega)
    (fun W hB => mean1_0 g a b c d W ha hb hc hd (h.grow hB))
    (fun W hB => mean1_1 g a b c d W ha hb hc hd (h.grow hB))
    (fun W hB => mean1_2 g a b c d W ha hb hc hd (h.grow hB))
    (fun W hB => mean1_3 g a b c d W ha hb hc hd (h.grow hB))
  rwa [sat_same r1, sat_same g1, sat_same b1, sat_same a1] at k

set_option maxHeartbeats 2000000 in
theorem mean_col (a b c d : Col) (w : World) (ha : a.ok) (hb : b.ok) (hc : c.ok) (hd : d.ok) :
    Calls Try.prog 19 #[.agg #[.int .u8 a.r, .int .u8 a.g, .int .u8 a.b, .int .u8 a.a, .int .u8 b.r, .int .u8 b.g, .int .u8 b.b, .int .u8 b.a, .int .u8 c.r, .int .u8 c.g, .int .u8 c.b, .int .u8 c.a, .int .u8 d.r, .int .u8 d.g, .int .u8 d.b, .int .u8 d.a]] w fun e w' => e = .returned (.agg #[.int .u8 (mean a b c d).r, .int .u8 (mean a b c d).g, .int .u8 (mean a b c d).b, .int .u8 (mean a b c d).a]) ∧ Below w.heap.size w w' := by
  have hmf := mk_func
  go_enter Try.func19, Try.ntmps19
  go_wp2_with fail
  refine (mean_made _ a b c d _ ha hb hc hd (by simp [FourAt, go_sem])).mono ?_
  rintro e w9 ⟨rfl, hb9⟩
  have hc0 : w9.cell? ⟨w.heap.size + 1, 0, none⟩ = some (.int .u8 0) := by rw [hb9.cell (by simp)]; simp [go_sem]
  have hf0 : w9.frozen? ⟨w.heap.size + 1, 0, none⟩ = false := by rw [hb9.frozen (by simp)]; simp [go_sem]
  have hc1 : w9.cell? ⟨w.heap.size + 1, 1, none⟩ = some (.int .u8 0) := by rw [hb9.cell (by simp)]; simp [go_sem]
  have hf1 : w9.frozen? ⟨w.heap.size + 1, 1, none⟩ = false := by rw [hb9.frozen (by simp)]; simp [go_sem]
  have hc2 : w9.cell? ⟨w.heap.size + 1, 2, none⟩ = some (.int .u8 0) := by rw [hb9.cell (by simp)]; simp [go_sem]
  have hf2 : w9.frozen? ⟨w.heap.size + 1, 2, none⟩ = false := by rw [hb9.frozen (by simp)]; simp [go_sem]
  have hc3 : w9.cell? ⟨w.heap.size + 1, 3, none⟩ = some (.int .u8 0) := by rw [hb9.cell (by simp)]; simp [go_sem]
  have hf3 : w9.frozen? ⟨w.heap.size + 1, 3, none⟩ = false := by rw [hb9.frozen (by simp)]; simp [go_sem]
  have HB := Lib.hid (below2 hb9)
  clear hb9
  go_wp2
  refine bodyPost_ret (v := .agg #[.int .u8 (mean a b c d).r, .int .u8 (mean a b c d).g, .int .u8 (mean a b c d).b, .int .u8 (mean a b c d).a]) (by simp [results, Try.results19, go_sem, *]) rfl ⟨rfl, ?_⟩
  exact (((HB.out.setCell (by simp) _).setCell (by simp) _).setCell (by simp) _).setCell (by simp) _
end Go.Proofs.Ytpnjhmmodkhmfaa
