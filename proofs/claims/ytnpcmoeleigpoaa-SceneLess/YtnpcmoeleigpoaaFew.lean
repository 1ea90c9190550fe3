/-
  The statements' few, and the contract of the reference's Fit.
-/
import Derived.Test.YtnpcmoeleigpoaaTex
import Derived.Deep.CutRange
import Derived.Deep.DeepCutAuto
namespace Go.Proofs.Ytnpcmoeleigpoaa
open Go.RowKit
attribute [local go_sem ↓] Go.wp_at_zero Go.wp_at_succ

theorem Es.take {w : World} {B : Nat} {A : Option Addr} {xs : List Col} (h : Es EC w B A xs) (k : Nat) : Es EC w B A (xs.take k) := fun hne => by
  obtain ⟨b, off, e, hb, hc⟩ := h (by rintro rfl; simp at hne)
  refine ⟨b, off, e, hb, fun j u hj => hc j u ?_⟩
  rw [List.getElem?_take] at hj
  split at hj
  · exact hj
  · cases hj
/-- A picture of at most 300 texels. -/
def fewT (t : Tx) : Tx := ⟨t.w, t.h, t.px.take 300⟩
theorem fewT_ok {t : Tx} (h : t.ok) : (fewT t).ok := fun c hc => h c (List.mem_of_mem_take hc)

/-- A block that holds a picture. -/
def txB (t : Tx) (A : Option Addr) (c : Nat) : Obj := .cells #[.int .i64 t.w, .int .i64 t.h, .slice A t.px.length c] 53 (0, 0)
theorem txB_cell {w : World} {g : Nat} {t : Tx} {A : Option Addr} {c : Nat} (h : w.heap[g]? = some (txB t A c)) : w.cell? ⟨g, 0, none⟩ = some (.int .i64 t.w) ∧ w.cell? ⟨g, 1, none⟩ = some (.int .i64 t.h) ∧ w.cell? ⟨g, 2, none⟩ = some (.slice A t.px.length c) := by
  unfold txB at h
  exact ⟨Joins.cell_of_block h 0, Joins.cell_of_block h 1, Joins.cell_of_block h 2⟩
theorem txB_free {w : World} {g : Nat} {t : Tx} {A : Option Addr} {c : Nat} (h : w.heap[g]? = some (txB t A c)) : w.frozen? ⟨g, 0, none⟩ = false ∧ w.frozen? ⟨g, 1, none⟩ = false ∧ w.frozen? ⟨g, 2, none⟩ = false := by
  unfold txB at h
  refine ⟨?_, ?_, ?_⟩ <;> simp [World.frozen?, h]
theorem txB_lt {w : World} {g : Nat} {t : Tx} {A : Option Addr} {c : Nat} (h : w.heap[g]? = some (txB t A c)) : g < w.heap.size := (Array.getElem?_eq_some_iff.1 h).1
theorem txB_grow {w w' : World} {g : Nat} {t : Tx} {A : Option Addr} {c : Nat} (h : w.heap[g]? = some (txB t A c)) (k : Below w.heap.size w w') : w'.heap[g]? = some (txB t A c) := (k.block _ (txB_lt h)).trans h
theorem same_below {w w' : World} (h : w = w') : Below w.heap.size w w' := h ▸ Below.refl _ _
theorem rwrap_any (n s : Int) (hn : I64 n) (h0 : 1 ≤ s) (h1 : s ≤ 16) (w : World) :
    Calls Try.prog 41 #[.int .i64 n, .int .i64 s] w fun e w' => e = .returned (.int .i64 (n % s)) ∧ Below w.heap.size w w' := (wrap_any n s hn h0 h1 w).mono fun _ _ h => ⟨h.1, same_below h.2⟩
end Go.Proofs.Ytnpcmoeleigpoaa
