/-
  Pictures: which may be, and their texels (pure); what comparing two colours comes to; the contracts of texture.Right and of the reference's.
-/
import Derived.Test.YtnpcmoeleigpoaaSplit
import Derived.Laws.StructEq
import Derived.Deep.MidRow
import Derived.BigFrame
import Derived.BigRegion
namespace Go.Proofs.Ytnpcmoeleigpoaa
open Go.RowKit
attribute [local go_sem ↓] Go.wp_at_zero Go.wp_at_succ

def zC : Col := ⟨0, 0, 0, 0⟩
theorem zC_ok : zC.ok := by unfold zC Col.ok; decide
/-- A picture. -/
structure Tx where
  w : Int
  h : Int
  px : List Col
def Tx.right (t : Tx) : Bool := decide (1 ≤ t.w ∧ t.w ≤ 16 ∧ 1 ≤ t.h ∧ t.h ≤ 16 ∧ (t.px.length : Int) = t.w * t.h)
def Tx.ok (t : Tx) : Prop := ∀ c ∈ t.px, c.ok
theorem getD_ok {l : List Col} (h : ∀ c ∈ l, c.ok) (k : Nat) : (l.getD k zC).ok := by
  rw [List.getD_eq_getElem?_getD]
  cases e : l[k]? with
  | none => exact zC_ok
  | some c => exact h c (List.mem_of_getElem? e)
theorem Tx.fine {t : Tx} (h : t.right = true) : 1 ≤ t.w ∧ t.w ≤ 16 ∧ 1 ≤ t.h ∧ t.h ≤ 16 ∧ (t.px.length : Int) = t.w * t.h := by
  unfold Tx.right at h
  exact of_decide_eq_true h
theorem Tx.right_of {t : Tx} (h : 1 ≤ t.w ∧ t.w ≤ 16 ∧ 1 ≤ t.h ∧ t.h ≤ 16 ∧ (t.px.length : Int) = t.w * t.h) : t.right = true := by
  unfold Tx.right
  exact decide_eq_true h
theorem Tx.not_right {t : Tx} (h : ¬ (1 ≤ t.w ∧ t.w ≤ 16 ∧ 1 ≤ t.h ∧ t.h ≤ 16 ∧ (t.px.length : Int) = t.w * t.h)) : t.right = false := by
  unfold Tx.right
  exact decide_eq_false h
theorem area_bd {a b m : Int} (a0 : 1 ≤ a) (a1 : a ≤ 16) (b0 : 1 ≤ b) (b1 : b ≤ 16) (hm : a * b = m) : 1 ≤ m ∧ m ≤ 256 := by
  rcases sides a0 a1 with rfl | rfl | rfl | rfl | rfl | rfl | rfl | rfl | rfl | rfl | rfl | rfl | rfl | rfl | rfl | rfl <;> omega
/-- The place of a texel in a picture's row of texels. -/
theorem place_bd {a b x y m i : Int} (a0 : 1 ≤ a) (a1 : a ≤ 16) (b0 : 1 ≤ b) (b1 : b ≤ 16) (hm : a * b = m) (x0 : 0 ≤ x) (x1 : x < a) (y0 : 0 ≤ y) (y1 : y < b) (hi : y * a + x = i) : 0 ≤ i ∧ i < m := by
  rcases sides a0 a1 with rfl | rfl | rfl | rfl | rfl | rfl | rfl | rfl | rfl | rfl | rfl | rfl | rfl | rfl | rfl | rfl <;> omega

/-- Two colours are the same. -/
def sameC (u v : Col) : Bool := decide (u = v)
theorem sameC_self (u : Col) : sameC u u = true := by simp [sameC]
theorem eqlC (w : World) (x0 x1 x2 x3 y0 y1 y2 y3 : Int) : (binOp .eql 23 (.agg #[.int .u8 x0, .int .u8 x1, .int .u8 x2, .int .u8 x3]) (.agg #[.int .u8 y0, .int .u8 y1, .int .u8 y2, .int .u8 y3])).run Try.prog w = .ok (.bool (sameC ⟨x0, x1, x2, x3⟩ ⟨y0, y1, y2, y3⟩)) w := by
  have u5 := Try.underlying5
  unfold sameC
  have hS : Try.prog.underlying 23 = some (.struct (Try.prog.fieldsOf 23)) := by kernel_rfl
  have hp : Try.prog.stoodInHeld 23 = false := by kernel_rfl
  rw [run_eql_struct, show (10000 : Nat) = 9999 + 1 from rfl, run_equalIn_agg w 9999 23 _ _ hS hp]
  simp only [Program.fieldsOf, Try.underlying23]
  go_simp
  by_cases h0 : x0 = y0
  · by_cases h1 : x1 = y1
    · by_cases h2 : x2 = y2
      · by_cases h3 : x3 = y3 <;> simp [h0, h1, h2, h3]
      · simp [h0, h1, h2]
    · simp [h0, h1]
  · simp [h0]
theorem guardC : Try.prog.eqGuardType Try.prog.depth 23 = false := by kernel_rfl

/-- A slice's elements are colours. -/
def EC : Elem Col := ⟨23, 4, fun c => [.int .u8 c.r, .int .u8 c.g, .int .u8 c.b, .int .u8 c.a], by decide, fun _ => rfl, fun c u hu => by
  simp only [List.mem_cons, List.not_mem_nil, or_false] at hu
  rcases hu with rfl | rfl | rfl | rfl <;> rfl⟩
theorem atC {w : World} {b o : Nat} {c : Col} (h : AtE EC w b o c) : w.cell? ⟨b, o, none⟩ = some (.int .u8 c.r) ∧ w.cell? ⟨b, o + 1, none⟩ = some (.int .u8 c.g) ∧ w.cell? ⟨b, o + 2, none⟩ = some (.int .u8 c.b) ∧ w.cell? ⟨b, o + 3, none⟩ = some (.int .u8 c.a) :=
  ⟨h 0 _ rfl, h 1 _ rfl, h 2 _ rfl, h 3 _ rfl⟩

theorem new_at1 (w : World) (a : Obj) : (w.alloc a).heap[w.heap.size]? = some a := heap_alloc_new _ _
theorem new_at2 (w : World) (a b : Obj) : ((w.alloc a).alloc b).heap[w.heap.size + 1]? = some b := by
  have h := heap_alloc_new (w.alloc a) b
  rwa [show (w.alloc a).heap.size = w.heap.size + 1 by simp] at h
theorem new_at20 (w : World) (a b : Obj) : ((w.alloc a).alloc b).heap[w.heap.size]? = some a := by
  rw [Below.heap_alloc _ _ _ (by simp)]
  exact heap_alloc_new _ _

set_option maxHeartbeats 1000000 in
theorem areSides_any (a b : Int) (g : Nat) (w : World) (h0 : w.cell? ⟨g, 0, none⟩ = some (.int .i64 a)) (h1 : w.cell? ⟨g, 1, none⟩ = some (.int .i64 b)) :
    Calls Try.prog 47 #[.slice (some ⟨g, 0, none⟩) 2 2] w fun e w' => e = .returned (.bool (decide (1 ≤ a ∧ a ≤ 16 ∧ 1 ≤ b ∧ b ≤ 16))) ∧ w = w' := by
  obtain ⟨r, hr⟩ : ∃ r, decide (1 ≤ a ∧ a ≤ 16 ∧ 1 ≤ b ∧ b ≤ 16) = r := ⟨_, rfl⟩
  rw [hr]
  have HR := Lib.hid hr
  clear hr
  by_cases a0 : a < 1
  · obtain rfl : r = false := by rw [← HR.out]; simp; omega
    go_enter Try.func47, Try.ntmps47
    go_wp2
    refine wp_loop_rounds 3 ?_
    rw [rounds_succ]
    go_wp2
    go_ret
    exact ⟨rfl, rfl⟩
  by_cases a1 : 16 < a
  · obtain rfl : r = false := by rw [← HR.out]; simp; omega
    go_enter Try.func47, Try.ntmps47
    go_wp2
    refine wp_loop_rounds 3 ?_
    rw [rounds_succ]
    go_wp2
    go_ret
    exact ⟨rfl, rfl⟩
  by_cases b0 : b < 1
  · obtain rfl : r = false := by rw [← HR.out]; simp; omega
    go_enter Try.func47, Try.ntmps47
    go_wp2
    refine wp_loop_rounds 3 ?_
    rw [rounds_succ]
    go_wp2
    rw [rounds_succ]
    go_wp2
    go_ret
    exact ⟨rfl, rfl⟩
  by_cases b1 : 16 < b
  · obtain rfl : r = false := by rw [← HR.out]; simp; omega
    go_enter Try.func47, Try.ntmps47
    go_wp2
    refine wp_loop_rounds 3 ?_
    rw [rounds_succ]
    go_wp2
    rw [rounds_succ]
    go_wp2
    go_ret
    exact ⟨rfl, rfl⟩
  obtain rfl : r = true := by rw [← HR.out]; simp; omega
  go_enter Try.func47, Try.ntmps47
  go_wp2
  refine wp_loop_rounds 3 ?_
  rw [rounds_succ]
  go_wp2
  rw [rounds_succ]
  go_wp2
  rw [rounds_succ]
  go_wp2
  go_ret
  exact ⟨rfl, rfl⟩

set_option maxHeartbeats 1000000 in
theorem right_any (t : Tx) (A : Option Addr) (c : Nat) (w : World) :
    Calls Try.prog 29 #[.agg #[.int .i64 t.w, .int .i64 t.h, .slice A t.px.length c]] w fun e w' => e = .returned (.bool t.right) ∧ Below w.heap.size w w' := by
  have HK := Lib.hid fun o o' => (((Below.refl w.heap.size w).alloc (Nat.le_refl _) o).alloc (by simp) o')
  have HS := Lib.hid (areSides_any t.w t.h)
  by_cases hf : 1 ≤ t.w ∧ t.w ≤ 16 ∧ 1 ≤ t.h ∧ t.h ≤ 16
  · obtain ⟨w0, w1, h0, h1⟩ := hf
    obtain ⟨m, hm⟩ : ∃ m, t.w * t.h = m := ⟨_, rfl⟩
    obtain ⟨m0, m1⟩ := area_bd w0 w1 h0 h1 hm
    have hd : decide (1 ≤ t.w ∧ t.w ≤ 16 ∧ 1 ≤ t.h ∧ t.h ≤ 16) = true := by simp; omega
    rw [hd] at HS
    by_cases he : (t.px.length : Int) = m
    · rw [Tx.right_of ⟨w0, w1, h0, h1, by rw [hm]; exact he⟩]
      have d1 : decide ((t.px.length : Int) = m) = true := by simpa using he
      go_enter Try.func29, Try.ntmps29
      go_wp2_with (go_at_call 47; (with_reducible refine (HS.out _ _ (by simp [go_sem]) (by simp [go_sem])).mono ?_); rintro e w' ⟨rfl, rfl⟩)
      go_ret
      exact ⟨rfl, HK.out _ _⟩
    · rw [Tx.not_right (by rw [hm]; omega)]
      have d1 : decide ((t.px.length : Int) = m) = false := by simpa using he
      have d2 : ((t.px.length : Int) == m) = false := by simpa using he
      go_enter Try.func29, Try.ntmps29
      go_wp2_with (go_at_call 47; (with_reducible refine (HS.out _ _ (by simp [go_sem]) (by simp [go_sem])).mono ?_); rintro e w' ⟨rfl, rfl⟩)
      go_ret
      exact ⟨rfl, HK.out _ _⟩
  · have hd : decide (1 ≤ t.w ∧ t.w ≤ 16 ∧ 1 ≤ t.h ∧ t.h ≤ 16) = false := by simpa using hf
    rw [hd] at HS
    rw [Tx.not_right (by omega)]
    clear hf hd
    go_enter Try.func29, Try.ntmps29
    go_wp2_with (go_at_call 47; (with_reducible refine (HS.out _ _ (by simp [go_sem]) (by simp [go_sem])).mono ?_); rintro e w' ⟨rfl, rfl⟩)
    go_ret
    exact ⟨rfl, HK.out _ _⟩

set_option maxHeartbeats 1000000 in
theorem rright_tex (t : Tx) (A : Option Addr) (c : Nat) (w : World) :
    Calls Try.prog 36 #[.agg #[.int .i64 t.w, .int .i64 t.h, .slice A t.px.length c]] w fun e w' => e = .returned (.bool t.right) ∧ Below w.heap.size w w' := by
  have HK := Lib.hid fun o => ((Below.refl w.heap.size w).alloc (Nat.le_refl _) o)
  obtain ⟨r, hr⟩ : ∃ r, t.right = r := ⟨_, rfl⟩
  rw [hr]
  have HR := Lib.hid hr
  clear hr
  by_cases a0 : t.w < 1
  · obtain rfl : r = false := by rw [← HR.out]; exact Tx.not_right (by omega)
    go_enter Try.func36, Try.ntmps36
    go_wp2
    go_ret
    exact ⟨rfl, HK.out _⟩
  by_cases a1 : 16 < t.w
  · obtain rfl : r = false := by rw [← HR.out]; exact Tx.not_right (by omega)
    go_enter Try.func36, Try.ntmps36
    go_wp2
    go_ret
    exact ⟨rfl, HK.out _⟩
  by_cases b0 : t.h < 1
  · obtain rfl : r = false := by rw [← HR.out]; exact Tx.not_right (by omega)
    go_enter Try.func36, Try.ntmps36
    go_wp2
    go_ret
    exact ⟨rfl, HK.out _⟩
  by_cases b1 : 16 < t.h
  · obtain rfl : r = false := by rw [← HR.out]; exact Tx.not_right (by omega)
    go_enter Try.func36, Try.ntmps36
    go_wp2
    go_ret
    exact ⟨rfl, HK.out _⟩
  obtain ⟨m, hm⟩ : ∃ m, t.w * t.h = m := ⟨_, rfl⟩
  obtain ⟨m0, m1⟩ := area_bd (by omega) (by omega) (by omega) (by omega) hm
  by_cases he : (t.px.length : Int) = m
  · obtain rfl : r = true := by rw [← HR.out]; exact Tx.right_of ⟨by omega, by omega, by omega, by omega, by rw [hm]; exact he⟩
    go_enter Try.func36, Try.ntmps36
    go_wp2
    go_ret
    exact ⟨rfl, HK.out _⟩
  · obtain rfl : r = false := by rw [← HR.out]; exact Tx.not_right (by rw [hm]; omega)
    have d1 : decide ((t.px.length : Int) = m) = false := by simpa using he
    have d2 : ((t.px.length : Int) == m) = false := by simpa using he
    go_enter Try.func36, Try.ntmps36
    go_wp2
    go_ret
    exact ⟨rfl, HK.out _⟩
end Go.Proofs.Ytnpcmoeleigpoaa
