/-
  glazierlaw02.few: at most forty of a slice's colours.
-/
import Derived.Test.YtpnjhmmodkhmfaaFold
namespace Go.Proofs.Ytpnjhmmodkhmfaa
open Go.RowKit
attribute [local go_sem ↓] Go.wp_at_zero Go.wp_at_succ

theorem few_any (ad : Option Addr) (n cap : Nat) (w : World) (hc : n ≤ cap) (hnil : ad = none → n = 0) :
    Calls Try.prog 10 #[.slice ad n cap] w fun e w' => e = .returned (.slice ad (min n 40) cap) ∧ w = w' := by
  by_cases h : 40 < n
  · rw [Nat.min_eq_right (by omega)]
    have h1 : (40 : Int) < (n : Int) := by omega
    have h2 : (40 : Int) ≤ (cap : Int) := by omega
    obtain ⟨a, rfl⟩ : ∃ a, ad = some a := by
      cases ad with
      | none => have := hnil rfl; omega
      | some a => exact ⟨a, rfl⟩
    clear hnil
    go_enter Try.func10, Try.ntmps10
    go_wp2
    go_ret
    exact ⟨rfl, rfl⟩
  · rw [Nat.min_eq_left (by omega)]
    have h1 : ¬ (40 : Int) < (n : Int) := by omega
    clear hnil
    go_enter Try.func10, Try.ntmps10
    go_wp2
    go_ret
    exact ⟨rfl, rfl⟩

theorem ColsAt.take {w : World} {b off : Nat} {l : List Col} (h : ColsAt w b off l) (k : Nat) : ColsAt w b off (l.take k) := by
  intro i hi
  simp only [List.length_take] at hi
  rw [List.getElem_take]
  exact h i (by omega)
theorem ColsAt.drop {w : World} {b off : Nat} {l : List Col} (h : ColsAt w b off l) (k : Nat) : ColsAt w b (off + k * 4) (l.drop k) := by
  intro i hi
  simp only [List.length_drop] at hi
  rw [List.getElem_drop, show off + k * 4 + i * 4 = off + (k + i) * 4 from by omega]
  exact h (k + i) (by omega)
theorem foldC_two (c : Col) (l : List Col) (k : Nat) : foldC (foldC c (l.take k)) (l.drop k) = foldC c l := by
  unfold foldC
  rw [← List.foldl_append, List.take_append_drop]
end Go.Proofs.Ytpnjhmmodkhmfaa
