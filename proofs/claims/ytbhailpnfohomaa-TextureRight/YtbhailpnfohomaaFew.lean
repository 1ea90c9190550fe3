/-
  The statements' few, and the contract of the reference's Fit.
-/
import Derived.Test.YtbhailpnfohomaaRSmooth
namespace Go.Proofs.Ytbhailpnfohomaa
open Go.RowKit
attribute [local go_sem ↓] Go.wp_at_zero Go.wp_at_succ

theorem Es.take {w : World} {B : Nat} {A : Option Addr} {xs : List Col} (h : Es EC w B A xs) (k : Nat) : Es EC w B A (xs.take k) := fun hne => by
  obtain ⟨b, off, e, hb, hc⟩ := h (by rintro rfl; simp at hne)
  refine ⟨b, off, e, hb, fun j u hj => hc j u ?_⟩
  rw [List.getElem?_take] at hj
  split at hj
  · exact hj
  · cases hj
/-- A picture of at most 300 texels. -/
def fewT (t : Tx) : Tx := ⟨t.w, t.h, t.px.take 300⟩
theorem fewT_ok {t : Tx} (h : t.ok) : (fewT t).ok := fun c hc => h c (List.mem_of_mem_take hc)

set_option maxHeartbeats 1000000 in
theorem few_any (t : Tx) (A : Option Addr) (c : Nat) (hc : t.px.length ≤ c) (hnil : A = none → t.px.length = 0) (w : World) :
    Calls Try.prog 9 #[.agg #[.int .i64 t.w, .int .i64 t.h, .slice A t.px.length c]] w fun e w' => e = .returned (.agg #[.int .i64 (fewT t).w, .int .i64 (fewT t).h, .slice A (fewT t).px.length c]) ∧ Below w.heap.size w w' := by
  have HB := Lib.hid (fun o o' v0 v1 v2 v3 => ((((((Below.refl w.heap.size w).alloc (Nat.le_refl _) o).setCell (p := ⟨w.heap.size, 2, none⟩) (Nat.le_refl _) v3).alloc (by simp) o').setCell (p := ⟨w.heap.size + 1, 0, none⟩) (by simp) v0).setCell (p := ⟨w.heap.size + 1, 1, none⟩) (by simp) v1).setCell (p := ⟨w.heap.size + 1, 2, none⟩) (by simp) v2)
  have HB2 := Lib.hid (fun o o' => ((Below.refl w.heap.size w).alloc (Nat.le_refl _) o).alloc (by simp) o')
  have e0 : (fewT t).px.length = min t.px.length 300 := by unfold fewT; simp [Nat.min_comm]
  rw [e0]
  unfold fewT
  dsimp only
  generalize t.px.length = n at *
  by_cases h : 300 < n
  · rw [Nat.min_eq_right (by omega)]
    have h1 : (300 : Int) < (n : Int) := by omega
    have h2 : (300 : Int) ≤ (c : Int) := by omega
    obtain ⟨a, rfl⟩ : ∃ a, A = some a := by
      cases A with
      | none => have := hnil rfl; omega
      | some a => exact ⟨a, rfl⟩
    clear hnil e0
    go_enter Try.func9, Try.ntmps9
    go_wp2
    refine bodyPost_ret (v := .agg #[.int .i64 t.w, .int .i64 t.h, .slice (some a) 300 c]) (by simp [results, Try.results9, go_sem]) rfl ⟨rfl, ?_⟩
    exact HB2.out _ _
  · rw [Nat.min_eq_left (by omega)]
    have h1 : ¬ (300 : Int) < (n : Int) := by omega
    clear hnil e0
    go_enter Try.func9, Try.ntmps9
    go_wp2
    refine bodyPost_ret (v := .agg #[.int .i64 t.w, .int .i64 t.h, .slice A n c]) (by simp [results, Try.results9, go_sem]) rfl ⟨rfl, ?_⟩
    exact HB2.out _ _
end Go.Proofs.Ytbhailpnfohomaa
