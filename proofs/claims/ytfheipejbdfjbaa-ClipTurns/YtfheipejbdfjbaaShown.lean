/-
  The contract of the example at the head of all statements.
-/
import Derived.Test.YtfheipejbdfjbaaPoly
namespace Go.Proofs.Ytfheipejbdfjbaa
open Go.RowKit
attribute [local go_sem ↓] Go.wp_at_zero Go.wp_at_succ
attribute [local go_sem high] eql24
attribute [local go_sem] guard24 sameV_self

theorem OwnV.at0 {w : World} {base : Nat} {v : Value} {xs : List V} (h : OwnV w base v xs) (hne : xs ≠ []) :
    ∃ g c, v = .slice (some ⟨g, 0, none⟩) xs.length c ∧ base ≤ g ∧ ∀ j u, xs[j]? = some u → At8 w g (j * 8) u := by
  obtain ⟨hl, ⟨rfl, h0⟩ | ⟨g, cap, cur, rfl, hg, hh, hc, hm, _, ht⟩⟩ := h
  · exact absurd (List.eq_nil_of_length_eq_zero h0) hne
  · refine ⟨g, cap, rfl, hg, fun j u hj => At8.of fun r hr => ?_⟩
    have hjl : j < xs.length := by
      rcases Nat.lt_or_ge j xs.length with h | h
      · exact h
      · rw [List.getElem?_eq_none h] at hj; cases hj
    rw [cell_of_row w g (j * 8 + r) cur 30 (0, 0) hh, ← flat_get hj r hr, ← ht, List.getElem?_take_of_lt (by omega), Array.getElem?_toList]

theorem three (w : World) (a b c : V) (t : TypeId) : Vs (w.alloc (.cells #[.int .i64 a.x, .int .i64 a.y, .int .i64 a.z, .int .i64 a.w, .int .i64 a.a, .int .i64 a.b, .int .i64 a.c, .int .i64 a.d, .int .i64 b.x, .int .i64 b.y, .int .i64 b.z, .int .i64 b.w, .int .i64 b.a, .int .i64 b.b, .int .i64 b.c, .int .i64 b.d, .int .i64 c.x, .int .i64 c.y, .int .i64 c.z, .int .i64 c.w, .int .i64 c.a, .int .i64 c.b, .int .i64 c.c, .int .i64 c.d] t)) (w.heap.size + 1) (some ⟨w.heap.size, 0, none⟩) [a, b, c] := fun _ => by
  refine ⟨_, 0, rfl, by omega, fun j u hj => At8.of fun r hr => ?_⟩
  rw [cell_of_row _ _ _ _ t (0, 0) (heap_alloc_new _ _), Nat.zero_add, ← flat_get hj r hr]
  show (flat [a, b, c]).toArray[j * 8 + r]? = _
  rw [List.getElem?_toArray]
def va : V := ⟨0, 0, 0, 2, 0, 0, 0, 0⟩
def vb : V := ⟨0, 0, -6, 2, 0, 0, 0, 0⟩
def vc : V := ⟨0, 0, -2, 2, 0, 0, 0, 0⟩
theorem by_shown : byV 0 [va, vb, va] = [va, vc, vc, va] := by decide +kernel

set_option maxHeartbeats 1000000 in
theorem shown_any (w : World) : Calls Try.prog 9 #[] w fun e w' => e = .returned (.bool true) ∧ Below w.heap.size w w' := by
  have BY := Lib.hid (by_any 0 _ 3 [va, vb, va] _ _ (three w va vb va 30) (by simp) (by simp) (by
    intro v hv
    simp only [List.mem_cons, List.not_mem_nil, or_false] at hv
    rcases hv with rfl | rfl | rfl <;> (constructor <;> decide)))
  rw [by_shown] at BY
  go_enter Try.func9, Try.ntmps9
  go_wp2_with fail
  refine (BY.out).mono ?_
  rintro e w2 ⟨v, rfl, ho, hb2⟩
  have H2 := Lib.hid (bstep ((Below.refl w.heap.size w).alloc (Nat.le_refl _) (.cells #[.int .i64 va.x, .int .i64 va.y, .int .i64 va.z, .int .i64 va.w, .int .i64 va.a, .int .i64 va.b, .int .i64 va.c, .int .i64 va.d, .int .i64 vb.x, .int .i64 vb.y, .int .i64 vb.z, .int .i64 vb.w, .int .i64 vb.a, .int .i64 vb.b, .int .i64 vb.c, .int .i64 vb.d, .int .i64 va.x, .int .i64 va.y, .int .i64 va.z, .int .i64 va.w, .int .i64 va.a, .int .i64 va.b, .int .i64 va.c, .int .i64 va.d] 30)) (by simp) hb2)
  obtain ⟨g, c, rfl, hg, hc⟩ := ho.at0 (by simp)
  have h1 := hc 1 _ rfl
  have h2 := hc 2 _ rfl
  clear ho hb2 hc
  simp only [At8, Nat.reduceMul, Nat.reduceAdd, vc] at h1 h2
  obtain ⟨e0, e1, e2, e3, e4, e5, e6, e7⟩ := h1
  obtain ⟨f0, f1, f2, f3, f4, f5, f6, f7⟩ := h2
  simp only [List.length_cons, List.length_nil, Nat.reduceAdd]
  go_wp2
  go_region
  go_wp2
  go_ret
  exact ⟨rfl, H2.out.drew⟩
end Go.Proofs.Ytfheipejbdfjbaa
