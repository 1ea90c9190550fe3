/-
  The contract of the example at the head of all statements.
-/
import Derived.Test.YticfllfelbfceaaFit
namespace Go.Proofs.Yticfllfelbfceaa
open Go.RowKit
attribute [local go_sem ↓] Go.wp_at_zero Go.wp_at_succ

theorem esI_new (w : World) (xs : List In) (cs : Array Value) (h : cs.toList = EI.flat xs) (hl : xs.length ≤ 1000) : Es EI (w.alloc (.cells cs 24)) (w.alloc (.cells cs 24)).heap.size (some ⟨w.heap.size, 0, none⟩) xs := by
  obtain ⟨A, c, e, _, _, h⟩ := (ownI_new w xs cs h hl).es
  cases e
  exact h
def exA : In := ⟨0, 0, 0, 0, 5⟩
def exB : In := ⟨12, 0, 0, 0, 1⟩
theorem exA_chk : chk [exA] = 0 := by decide
theorem exB_chk : chk [exB] = 23 := by decide
theorem exA_ok : ∀ x ∈ [exA], x.ok := by
  intro x hx
  obtain rfl : x = exA := by simpa using hx
  unfold exA
  constructor <;> decide
theorem exB_ok : ∀ x ∈ [exB], x.ok := by
  intro x hx
  obtain rfl : x = exB := by simpa using hx
  unfold exB
  constructor <;> decide

set_option maxHeartbeats 1000000 in
theorem shown_any (w : World) : Calls Try.prog 9 #[] w fun e w' => e = .returned (.bool true) ∧ Below w.heap.size w w' := by
  have H1 := Lib.hid (show ∀ w : World, Calls Try.prog 13 #[.slice (some ⟨w.heap.size, 0, none⟩) 1 1] (w.alloc (.cells #[.int .u8 0, .int .u8 0, .int .u8 0, .int .u8 0, .int .i64 5] 24)) fun e w' => e = .returned (.int .i64 0) ∧ Below (w.alloc (.cells #[.int .u8 0, .int .u8 0, .int .u8 0, .int .u8 0, .int .i64 5] 24)).heap.size (w.alloc (.cells #[.int .u8 0, .int .u8 0, .int .u8 0, .int .u8 0, .int .i64 5] 24)) w' by
    intro w
    have h := check_any [exA] (some ⟨w.heap.size, 0, none⟩) 1 exA_ok (w.alloc (.cells #[.int .u8 0, .int .u8 0, .int .u8 0, .int .u8 0, .int .i64 5] 24)) (esI_new w [exA] _ rfl (by decide))
    rw [exA_chk] at h
    exact h)
  have H2 := Lib.hid (show ∀ w : World, Calls Try.prog 13 #[.slice (some ⟨w.heap.size, 0, none⟩) 1 1] (w.alloc (.cells #[.int .u8 12, .int .u8 0, .int .u8 0, .int .u8 0, .int .i64 1] 24)) fun e w' => e = .returned (.int .i64 23) ∧ Below (w.alloc (.cells #[.int .u8 12, .int .u8 0, .int .u8 0, .int .u8 0, .int .i64 1] 24)).heap.size (w.alloc (.cells #[.int .u8 12, .int .u8 0, .int .u8 0, .int .u8 0, .int .i64 1] 24)) w' by
    intro w
    have h := check_any [exB] (some ⟨w.heap.size, 0, none⟩) 1 exB_ok (w.alloc (.cells #[.int .u8 12, .int .u8 0, .int .u8 0, .int .u8 0, .int .i64 1] 24)) (esI_new w [exB] _ rfl (by decide))
    rw [exB_chk] at h
    exact h)
  go_enter Try.func9, Try.ntmps9
  go_wp2_with fail
  with_reducible refine (H1.out _).mono ?_
  rintro e w1 ⟨rfl, hb⟩
  have B1 := Lib.hid (bstep (new_below w _) (by simp) hb)
  clear hb H1
  go_wp2_with fail
  with_reducible refine (H2.out _).mono ?_
  rintro e w2 ⟨rfl, hb⟩
  have B2 := Lib.hid (bstep (B1.out.alloc B1.out.size _) (by have := B1.out.size; simp; omega) hb)
  clear hb H2
  go_wp2_with fail
  go_ret
  exact ⟨rfl, B2.out⟩
end Go.Proofs.Yticfllfelbfceaa
