/-
  Where samples are, masks of four of them, and the contracts of the reference's Sample and Mask.
-/
import Derived.Test.YtfdlfjecgefgfaaRIn
import Derived.Test.YtfdlfjecgefgfaaQuiet
namespace Go.Proofs.Ytfdlfjecgefgfaa
open Go.RowKit
attribute [local go_sem ↓] Go.wp_at_zero Go.wp_at_succ

/-- Where a sample is in its pixel. -/
def sx (i : Int) : Int := if i = 0 then 2 else if i = 1 then 6 else if i = 2 then 10 else 14

def sy (i : Int) : Int := if i = 0 then 6 else if i = 1 then 14 else if i = 2 then 2 else 10

theorem sx_bd (i : Int) : 2 ≤ sx i ∧ sx i ≤ 14 := by unfold sx; split <;> (try split) <;> (try split) <;> omega

theorem sy_bd (i : Int) : 2 ≤ sy i ∧ sy i ≤ 14 := by unfold sy; split <;> (try split) <;> (try split) <;> omega

set_option maxHeartbeats 1000000 in
theorem rsample_any (x y i : Int) (hx : -1024 ≤ x ∧ x ≤ 1024) (hy : -1024 ≤ y ∧ y ≤ 1024) (w : World) :
    Calls Try.prog 32 #[.int .i64 x, .int .i64 y, .int .i64 i] w fun e w' => e = .returned (.tuple #[.int .i64 (16 * x + sx i), .int .i64 (16 * y + sy i)]) ∧ w = w' := by
  have e1 : IntKind.i64.wrap (16 * x) = 16 * x := by rw [IntKind.wrap_i64]; omega
  have e2 : IntKind.i64.wrap (16 * y) = 16 * y := by rw [IntKind.wrap_i64]; omega
  have hp : ∀ p : Int, 0 ≤ p → p ≤ 14 → IntKind.i64.wrap (16 * x + p) = 16 * x + p := fun p h0 h1 => by rw [IntKind.wrap_i64]; omega
  have hq : ∀ p : Int, 0 ≤ p → p ≤ 14 → IntKind.i64.wrap (16 * y + p) = 16 * y + p := fun p h0 h1 => by rw [IntKind.wrap_i64]; omega
  have p0 := hp 2 (by decide) (by decide)
  have p1 := hp 6 (by decide) (by decide)
  have p2 := hp 10 (by decide) (by decide)
  have p3 := hp 14 (by decide) (by decide)
  have q0 := hq 6 (by decide) (by decide)
  have q1 := hq 14 (by decide) (by decide)
  have q2 := hq 2 (by decide) (by decide)
  have q3 := hq 10 (by decide) (by decide)
  clear hp hq hx hy
  rcases (show i = 0 ∨ i = 1 ∨ i = 2 ∨ (¬ i = 0 ∧ ¬ i = 1 ∧ ¬ i = 2) by omega) with rfl | rfl | rfl | ⟨h0, h1, h2⟩
  · show Calls Try.prog 32 #[.int .i64 x, .int .i64 y, .int .i64 0] w fun e w' => e = .returned (.tuple #[.int .i64 (16 * x + 2), .int .i64 (16 * y + 6)]) ∧ w = w'
    go_enter Try.func32, Try.ntmps32
    go_wp2
    go_ret2
    exact ⟨rfl, rfl⟩
  · show Calls Try.prog 32 #[.int .i64 x, .int .i64 y, .int .i64 1] w fun e w' => e = .returned (.tuple #[.int .i64 (16 * x + 6), .int .i64 (16 * y + 14)]) ∧ w = w'
    go_enter Try.func32, Try.ntmps32
    go_wp2
    go_ret2
    exact ⟨rfl, rfl⟩
  · show Calls Try.prog 32 #[.int .i64 x, .int .i64 y, .int .i64 2] w fun e w' => e = .returned (.tuple #[.int .i64 (16 * x + 10), .int .i64 (16 * y + 2)]) ∧ w = w'
    go_enter Try.func32, Try.ntmps32
    go_wp2
    go_ret2
    exact ⟨rfl, rfl⟩
  · have e1 : sx i = 14 := by simp [sx, h0, h1, h2]
    have e2 : sy i = 10 := by simp [sy, h0, h1, h2]
    rw [e1, e2]
    clear e1 e2
    go_enter Try.func32, Try.ntmps32
    go_wp2
    go_ret2
    exact ⟨rfl, rfl⟩

def itm : Nat → Fin 4
  | 0 => 0
  | 1 => 1
  | 2 => 2
  | _ => 3

def iv (x : Fin 4) : Int := x.val

theorem iv_itm {k : Nat} (h : k < 4) : iv (itm k) = (k : Int) := by
  obtain rfl | rfl | rfl | rfl : k = 0 ∨ k = 1 ∨ k = 2 ∨ k = 3 := by omega
  all_goals rfl

def one (b : Bool) (n : Int) : Int := if b = true then n else 0

def msk (b0 b1 b2 b3 : Bool) : Int := one b0 1 + one b1 2 + one b2 4 + one b3 8

/-- What is in at a sample. -/
def inS (a b c : P) (x y : Int) (i : Fin 4) : Bool := inn a b c (16 * x + sx (iv i)) (16 * y + sy (iv i))

def mask (a b c : P) (x y : Int) : Int := msk (inS a b c x y 0) (inS a b c x y 1) (inS a b c x y 2) (inS a b c x y 3)

def bv : Nat → Int
  | 0 => 1
  | 1 => 2
  | 2 => 4
  | 3 => 8
  | _ => 16

def pm (f : Fin 4 → Bool) : Nat → Int
  | 0 => 0
  | k + 1 => pm f k + one (f (itm k)) (bv k)

theorem pm_bd (f : Fin 4 → Bool) (k : Nat) (hk : k < 4) : 0 ≤ pm f k ∧ pm f k < bv k ∧ bv k ≤ 8 ∧ bv (k + 1) = bv k * 2 := by
  have h : ∀ b n, one b n = n ∨ one b n = 0 := fun b n => by cases b <;> simp [one]
  have h0 := h (f (itm 0)) 1
  have h1 := h (f (itm 1)) 2
  have h2 := h (f (itm 2)) 4
  obtain rfl | rfl | rfl | rfl : k = 0 ∨ k = 1 ∨ k = 2 ∨ k = 3 := by omega
  all_goals simp only [pm, bv]
  all_goals omega

theorem pm_all (f : Fin 4 → Bool) : pm f 4 = msk (f 0) (f 1) (f 2) (f 3) := by
  simp only [pm, bv, itm, msk, Int.zero_add]

def RMaskAt (w : World) (a b c : P) (f : Fin 4 → Bool) (m t i : Value) (wr : World) : Prop :=
  ∃ k : Nat, k ≤ 4 ∧ m = .int .u8 (pm f k) ∧ t = .int .u8 (bv k) ∧ i = .int .i64 k ∧ wr.heap[w.heap.size]? = some (tB a b c) ∧ Below w.heap.size w wr

set_option maxRecDepth 100000 in
set_option maxHeartbeats 1000000 in
theorem rmask_any (a b c : P) (x y : Int) (ha : a.sm) (hb : b.sm) (hc : c.sm) (hx : -1024 ≤ x ∧ x ≤ 1024) (hy : -1024 ≤ y ∧ y ≤ 1024) (w : World) :
    Calls Try.prog 19 #[.agg #[.int .i64 a.x, .int .i64 a.y, .int .i64 a.z, .int .i64 a.a, .int .i64 a.b, .int .i64 a.c, .int .i64 a.d, .int .i64 b.x, .int .i64 b.y, .int .i64 b.z, .int .i64 b.a, .int .i64 b.b, .int .i64 b.c, .int .i64 b.d, .int .i64 c.x, .int .i64 c.y, .int .i64 c.z, .int .i64 c.a, .int .i64 c.b, .int .i64 c.c, .int .i64 c.d], .int .i64 x, .int .i64 y] w fun e w' => e = .returned (.int .u8 (mask a b c x y)) ∧ Below w.heap.size w w' := by
  have HS := Lib.hid (fun i => rsample_any x y i hx hy)
  have HI := Lib.hid (fun (i : Int) => rin_any a b c (16 * x + sx i) (16 * y + sy i) ha hb hc (by have := sx_bd i; omega) (by have := sx_bd i; omega) (by have := sy_bd i; omega) (by have := sy_bd i; omega))
  clear ha hb hc hx hy
  have hf : mask a b c x y = pm (inS a b c x y) 4 := (pm_all _).symm
  have hin : ∀ k : Nat, k < 4 → inn a b c (16 * x + sx k) (16 * y + sy k) = inS a b c x y (itm k) := fun k hk => by unfold inS; rw [iv_itm hk]
  rw [hf]
  clear hf
  generalize inS a b c x y = f at *
  have HIn := Lib.hid hin
  clear hin
  go_enter Try.func19, Try.ntmps19
  go_wp2
  go_loopw [7, 8, 9] (fun m t i wr => RMaskAt w a b c f m t i wr) (fun _ _ i _ => 4 - (intOf i).toNat)
  case atStart => exact ⟨0, by omega, rfl, rfl, rfl, new_at rfl, (Below.refl _ _).alloc (Nat.le_refl _) _⟩
  case round =>
    obtain ⟨k, hk, rfl, rfl, rfl, hT, hB⟩ := hrel
    have HT := Lib.hid hT
    have HB := Lib.hid hB
    clear hT hB
    by_cases hlt : k < 4
    · obtain ⟨p0, p1, p2, p3⟩ := pm_bd f k hlt
      have HSa := Lib.hid (HS.out (k : Int))
      have hi := HI.out (k : Int)
      rw [HIn.out k hlt] at hi
      have HIa := Lib.hid hi
      have hpm : pm f (k + 1) = pm f k + one (f (itm k)) (bv k) := rfl
      generalize 16 * x + sx (k : Int) = u at *
      generalize 16 * y + sy (k : Int) = v at *
      have hw : IntKind.i64.wrap ((k : Int) + 1) = (k : Int) + 1 := by rw [IntKind.wrap_i64]; omega
      have hw1 : IntKind.u8.wrap (pm f k + bv k) = pm f k + bv k := by rw [IntKind.wrap_u8]; omega
      have hw2 : IntKind.u8.wrap (bv k * 2) = bv k * 2 := by rw [IntKind.wrap_u8]; omega
      have P3 := Lib.hid p3
      generalize hR : f (itm k) = r at *
      have HP := Lib.hid hpm
      clear hR hi hpm p0 p1 p2 p3
      generalize pm f k = m at *
      generalize bv k = t at *
      go_wp2_with (first | (go_at_call 32; (with_reducible refine (HSa.out _).mono ?_); rintro e w' ⟨rfl, rfl⟩) | (refine wp_loadT (a := a) (b := b) (c := c) (.tmp 3) rfl rfl rfl HT.out ?_))
      with_reducible refine (HIa.out _).mono ?_
      rintro e w2 ⟨rfl, hb⟩
      have HB2 := Lib.hid (bstep HB.out HB.out.size hb)
      have HT2 := Lib.hid (tB_grow HT.out hb)
      clear hb HB HT
      cases r
      · go_wp2
        exact ⟨⟨k + 1, by omega, by rw [HP.out]; simp [one], by rw [P3.out], by simp, HT2.out, HB2.out⟩, by simp [intOf]; omega⟩
      · go_wp2
        exact ⟨⟨k + 1, by omega, by rw [HP.out]; simp [one], by rw [P3.out], by simp, HT2.out, HB2.out⟩, by simp [intOf]; omega⟩
    · obtain rfl : k = 4 := by omega
      go_wp2
      go_ret
      exact ⟨rfl, HB.out⟩

end Go.Proofs.Ytfdlfjecgefgfaa
