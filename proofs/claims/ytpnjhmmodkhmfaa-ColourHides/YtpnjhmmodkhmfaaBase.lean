/-
  The contracts of the small functions of packages fixed and colour, at this seat's translation.
-/
import Derived.Test.YtpnjhmmodkhmfaaRows
import Derived.WalkKit
import Derived.WalkSpells
import Derived.Below
import Derived.Deep.RegionHeld3
import Derived.Deep.DrawnRows
import Derived.Deep.QuietTactic
import Derived.BigQuiet
import Derived.Lib.Hide
namespace Go.Proofs.Ytpnjhmmodkhmfaa
open Go.RowKit
attribute [local go_sem ↓] Go.wp_at_zero Go.wp_at_succ

def sat (n : Int) : Int := if 255 < n then 255 else n
def dv (n : Int) : Int := (n + 127) / 255

theorem sat_any (n : Int) (w : World) (h0 : 0 ≤ n) (h1 : n ≤ 100000) :
    Calls Try.prog 24 #[.int .i64 n] w fun e w' => e = .returned (.int .u8 (sat n)) ∧ w = w' := by
  unfold sat
  by_cases h : 255 < n
  · rw [if_pos h]
    go_enter Try.func24, Try.ntmps24
    go_wp2
    go_ret
    exact ⟨rfl, rfl⟩
  · rw [if_neg h]
    go_enter Try.func24, Try.ntmps24
    go_wp2
    go_ret
    exact ⟨rfl, rfl⟩

theorem dv_any (n : Int) (w : World) (h0 : 0 ≤ n) (h1 : n ≤ 65025) :
    Calls Try.prog 25 #[.int .i64 n] w fun e w' => e = .returned (.int .i64 (dv n)) ∧ w = w' := by
  unfold dv
  go_enter Try.func25, Try.ntmps25
  go_wp2
  go_ret
  exact ⟨rfl, rfl⟩

theorem mk_func (fn : Fn) (first cap : Array Value) (w : World) : (Instr.makeFunc fn first cap).run Try.prog w = .ok (.func fn first cap) w := rfl

theorem mul_bd {x a : Int} (h0 : 0 ≤ x) (h1 : x ≤ 255) (k0 : 0 ≤ a) (k1 : a ≤ 255) : 0 ≤ x * a ∧ x * a ≤ 65025 :=
  ⟨Int.mul_nonneg h0 k0, Int.le_trans (Int.mul_le_mul h1 k1 k0 (by decide)) (by decide)⟩
theorem dv_bd {n : Int} (h0 : 0 ≤ n) (h1 : n ≤ 65025) : 0 ≤ dv n ∧ dv n ≤ 255 := by unfold dv; omega

theorem pre1_any (x a : Int) (b : Nat) (w : World) (h0 : 0 ≤ x) (h1 : x ≤ 255) (k0 : 0 ≤ a) (k1 : a ≤ 255) (hc : w.cell? ⟨b, 3, none⟩ = some (.int .u8 a)) :
    Calls Try.prog 23 #[.int .u8 x, .pointer (some ⟨b, 0, none⟩)] w fun e w' => e = .returned (.int .u8 (dv (x * a))) ∧ w = w' := by
  obtain ⟨m0, m1⟩ := mul_bd h0 h1 k0 k1
  obtain ⟨d0, d1⟩ := dv_bd m0 m1
  have hs : sat (dv (x * a)) = dv (x * a) := by unfold sat; rw [if_neg (by omega)]
  go_enter Try.func23, Try.ntmps23
  go_wp2_with (first
    | (go_at_call 25; refine (dv_any _ _ (by omega) (by omega)).mono ?_; rintro e w' ⟨rfl, rfl⟩)
    | (go_at_call 24; refine (sat_any _ _ (by omega) (by omega)).mono ?_; rintro e w' ⟨rfl, rfl⟩))
  go_ret
  exact ⟨rfl, rfl⟩

theorem pre_any (r g b a : Int) (w : World) (r0 : 0 ≤ r) (r1 : r ≤ 255) (g0 : 0 ≤ g) (g1 : g ≤ 255) (b0 : 0 ≤ b) (b1 : b ≤ 255) (a0 : 0 ≤ a) (a1 : a ≤ 255) :
    Calls Try.prog 13 #[.agg #[.int .u8 r, .int .u8 g, .int .u8 b, .int .u8 a]] w fun e w' => e = .returned (.agg #[.int .u8 (dv (r * a)), .int .u8 (dv (g * a)), .int .u8 (dv (b * a)), .int .u8 a]) ∧ Below w.heap.size w w' := by
  have hmf := mk_func
  go_enter Try.func13, Try.ntmps13
  go_wp2
  go_region_held3 (fun w' => w'.cell? ⟨w.heap.size, 0, none⟩ = some (.int .u8 r) ∧ w'.cell? ⟨w.heap.size, 1, none⟩ = some (.int .u8 g) ∧ w'.cell? ⟨w.heap.size, 2, none⟩ = some (.int .u8 b) ∧ w'.cell? ⟨w.heap.size, 3, none⟩ = some (.int .u8 a)) (simp [go_sem, World.cell?_alloc_past])
    (first
      | (go_at_call 23; refine (pre1_any _ a _ _ (by omega) (by omega) a0 a1 ?_).mono ?_; (simp [*]); rintro e w' ⟨rfl, rfl⟩))
  go_wp2
  refine bodyPost_ret (v := .agg #[.int .u8 (dv (r * a)), .int .u8 (dv (g * a)), .int .u8 (dv (b * a)), .int .u8 a]) (by simp [results, Try.results13, go_sem]) rfl ⟨rfl, ?_⟩
  exact (((Below.refl _ _).alloc (Nat.le_refl _) _).alloc (by simp) _).drew

end Go.Proofs.Ytpnjhmmodkhmfaa
