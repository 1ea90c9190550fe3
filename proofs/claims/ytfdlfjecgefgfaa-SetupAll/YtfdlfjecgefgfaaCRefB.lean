/-
  The contracts of glazierref04's Dist, Small and Right.
-/
import Derived.Test.YtfdlfjecgefgfaaCRefA
import Derived.Test.YtfdlfjecgefgfaaCFit
namespace Go.Proofs.Ytfdlfjecgefgfaa.C
open Go.RowKit
attribute [local go_sem ↓] Go.wp_at_zero Go.wp_at_succ

theorem rdist_any (p : Int) (v : V) (hv : v.sm) (D : Int) (hD : dist p v = D) (w : World) :
    Calls Try.prog 52 #[.int .i64 p, .agg #[.int .i64 v.x, .int .i64 v.y, .int .i64 v.z, .int .i64 v.w, .int .i64 v.a, .int .i64 v.b, .int .i64 v.c, .int .i64 v.d]] w fun e w' => e = .returned (.int .i64 D) ∧ Below w.heap.size w w' := by
  obtain ⟨hx, hy, hz, hw, -, -, -, -⟩ := hv
  have hb : ∀ o, Below w.heap.size w (w.alloc o) := fun o => (Below.refl _ _).alloc (Nat.le_refl _) o
  have HB := Lib.hid hb
  clear hb
  subst hD
  unfold dist
  by_cases h0 : p = 0
  · subst h0
    go_enter Try.func52, Try.ntmps52
    go_wp2
    go_ret
    exact ⟨by simp, HB.out _⟩
  by_cases h1 : p = 1
  · subst h1
    go_enter Try.func52, Try.ntmps52
    go_wp2
    go_ret
    exact ⟨by simp, HB.out _⟩
  by_cases h2 : p = 2
  · subst h2
    go_enter Try.func52, Try.ntmps52
    go_wp2
    go_ret
    exact ⟨by simp, HB.out _⟩
  by_cases h3 : p = 3
  · subst h3
    go_enter Try.func52, Try.ntmps52
    go_wp2
    go_ret
    exact ⟨by simp, HB.out _⟩
  by_cases h4 : p = 4
  · subst h4
    go_enter Try.func52, Try.ntmps52
    go_wp2
    go_ret
    exact ⟨by simp, HB.out _⟩
  go_enter Try.func52, Try.ntmps52
  go_wp2
  go_ret
  exact ⟨by simp [*], HB.out _⟩

def smallV (v : V) : V := ⟨v.x.tmod 1048577, v.y.tmod 1048577, v.z.tmod 1048577, v.w.tmod 1048577, v.a.tmod 1048577, v.b.tmod 1048577, v.c.tmod 1048577, v.d.tmod 1048577⟩
theorem smallV_sm (v : V) : (smallV v).sm := by
  have hx := tmod_bd v.x 1048577 (by decide)
  have hy := tmod_bd v.y 1048577 (by decide)
  have hz := tmod_bd v.z 1048577 (by decide)
  have hw := tmod_bd v.w 1048577 (by decide)
  have ha := tmod_bd v.a 1048577 (by decide)
  have hb := tmod_bd v.b 1048577 (by decide)
  have hc := tmod_bd v.c 1048577 (by decide)
  have hd := tmod_bd v.d 1048577 (by decide)
  refine ⟨?_, ?_, ?_, ?_, ?_, ?_, ?_, ?_⟩ <;> simp only [smallV] <;> omega

end Go.Proofs.Ytfdlfjecgefgfaa.C
