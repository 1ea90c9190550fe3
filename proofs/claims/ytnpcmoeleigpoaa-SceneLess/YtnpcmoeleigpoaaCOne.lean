/-
  The contract of the program's One.
-/
import Derived.Test.YtnpcmoeleigpoaaCIns
namespace Go.Proofs.Ytnpcmoeleigpoaa.C
open Go.RowKit
attribute [local go_sem ↓] Go.wp_at_zero Go.wp_at_succ

theorem Grow.same {P : Program} {f : FuncId} {args : Array Value} {w : World} {x : Grow w} {v : Value}
    (h : Calls P f args x.w fun e w' => e = .returned v ∧ x.w = w') : Calls P f args x.w fun e w'' => e = .returned v ∧ ∃ y : Grow w, w'' = y.w :=
  h.mono fun _ _ ⟨he, hb⟩ => ⟨he, x, hb.symm⟩
theorem new_at1 (w : World) (o : Obj) : (w.alloc o).heap[w.heap.size]? = some o := heap_alloc_new _ _
theorem new_below (w : World) (o : Obj) : Below w.heap.size w (w.alloc o) := (Below.refl _ _).alloc (Nat.le_refl _) _
abbrev inB (x : In) : Obj := .cells #[.int .u8 x.o, .int .u8 x.d, .int .u8 x.a, .int .u8 x.b, .int .i64 x.n] 57
theorem inB_cell {w : World} {g : Nat} {x : In} (h : w.heap[g]? = some (inB x)) : w.cell? ⟨g, 0, none⟩ = some (.int .u8 x.o) ∧ w.cell? ⟨g, 1, none⟩ = some (.int .u8 x.d) ∧ w.cell? ⟨g, 2, none⟩ = some (.int .u8 x.a) ∧ w.cell? ⟨g, 3, none⟩ = some (.int .u8 x.b) ∧ w.cell? ⟨g, 4, none⟩ = some (.int .i64 x.n) := by
  refine ⟨?_, ?_, ?_, ?_, ?_⟩ <;> (rw [cell_of_row w g _ _ 57 (0, 0) h]; rfl)

def oneB (x : In) (at' n : Int) : Bool := decide (us x.o ≠ 0 ∧ 0 ≤ at' ∧ at' < n ∧ x.d ≤ ms (us x.o) 1 ∧ x.a ≤ ms (us x.o) 2 ∧ x.b ≤ ms (us x.o) 4 ∧ lo x.o ≤ x.n ∧ x.n ≤ hi x.o (n - at' - 1))
theorem us_in (o : Int) (h : us o ≠ 0) : us o = 1 ∨ us o = 2 ∨ us o = 3 ∨ us o = 7 ∨ us o = 15 := by
  unfold us at h ⊢
  split
  · simp
  · split
    · simp
    · split
      · simp
      · split
        · simp
        · split
          · simp
          · rename_i h1 h2 h3 h4 h5
            rw [if_neg h1, if_neg h2, if_neg h3, if_neg h4, if_neg h5] at h
            exact absurd rfl h

set_option maxRecDepth 100000 in
set_option maxHeartbeats 4000000 in
theorem one_any (x : In) (i n : Int) (hx : x.ok) (hi' : I64 i) (hn : I64 n) (w : World) :
    Calls Try.prog 60 #[.agg #[.int .u8 x.o, .int .u8 x.d, .int .u8 x.a, .int .u8 x.b, .int .i64 x.n], .int .i64 i, .int .i64 n] w fun e w' => e = .returned (.bool (oneB x i n)) ∧ Below w.heap.size w w' := by
  have HU := Lib.hid (uses_any x.o hx.o.1)
  have hN := numbers_any x.o (n - i - 1)
  have hM := most_any (us x.o)
  have hin := us_in x.o
  unfold oneB
  generalize us x.o = U at *
  obtain ⟨L, hL⟩ : ∃ L, lo x.o = L := ⟨_, rfl⟩
  obtain ⟨H, hH⟩ : ∃ H, hi x.o (n - i - 1) = H := ⟨_, rfl⟩
  rw [hL, hH] at hN ⊢
  clear hL hH hx
  have HB := Lib.hid (new_below w (inB x))
  have HG := Lib.hid (new_at1 w (inB x))
  by_cases hU : U = 0
  · rw [decide_eq_false (by omega)]
    subst hU
    go_enter Try.func60, Try.ntmps60
    go_wp2_with fail
    have d0 := inB_cell HG.out
    obtain ⟨c0, c1, c2, c3, c4⟩ := d0
    go_wp2_with (go_at_call 70; (with_reducible refine (HU.out _).mono ?_); rintro e w' ⟨rfl, rfl⟩)
    go_ret
    exact ⟨rfl, HB.out⟩
  replace hM := fun r => hM r (hin hU)
  clear hin
  by_cases h0 : i < 0
  · rw [decide_eq_false (by omega)]
    go_enter Try.func60, Try.ntmps60
    go_wp2_with fail
    have d0 := inB_cell HG.out
    obtain ⟨c0, c1, c2, c3, c4⟩ := d0
    go_wp2_with (go_at_call 70; (with_reducible refine (HU.out _).mono ?_); rintro e w' ⟨rfl, rfl⟩)
    go_ret
    exact ⟨rfl, HB.out⟩
  by_cases h1 : n ≤ i
  · rw [decide_eq_false (by omega)]
    go_enter Try.func60, Try.ntmps60
    go_wp2_with fail
    have d0 := inB_cell HG.out
    obtain ⟨c0, c1, c2, c3, c4⟩ := d0
    go_wp2_with (go_at_call 70; (with_reducible refine (HU.out _).mono ?_); rintro e w' ⟨rfl, rfl⟩)
    go_ret
    exact ⟨rfl, HB.out⟩
  have f0 : (U == 0) = false := by simpa using hU
  have f1 : decide (i < 0) = false := decide_eq_false h0
  have f2 : decide (n ≤ i) = false := decide_eq_false h1
  obtain ⟨k, hk⟩ : ∃ k, n - i = k := ⟨_, rfl⟩
  obtain ⟨j, hj⟩ : ∃ j, k - 1 = j := ⟨_, rfl⟩
  have g1 : IntKind.i64.wrap (n - i) = k := by rw [hk, IntKind.wrap_i64]; omega
  have g2 : IntKind.i64.wrap (k - 1) = j := by rw [hj, IntKind.wrap_i64]; omega
  have e0 : n - i - 1 = j := by omega
  rw [e0] at hN
  have M1 := hM 1 (by simp)
  have M2 := hM 2 (by simp)
  have M4 := hM 4 (by simp)
  clear hM hi' hn
  generalize ms U 1 = D at *
  generalize ms U 2 = A at *
  generalize ms U 4 = B at *
  obtain ⟨r, hr⟩ : ∃ r, decide (U ≠ 0 ∧ 0 ≤ i ∧ i < n ∧ x.d ≤ D ∧ x.a ≤ A ∧ x.b ≤ B ∧ L ≤ x.n ∧ x.n ≤ H) = r := ⟨_, rfl⟩
  rw [hr]
  have ways : (decide (x.d ≤ D) = false ∧ r = false) ∨ (decide (x.d ≤ D) = true ∧ decide (x.a ≤ A) = false ∧ r = false) ∨ (decide (x.d ≤ D) = true ∧ decide (x.a ≤ A) = true ∧ decide (x.b ≤ B) = false ∧ r = false) ∨ (decide (x.d ≤ D) = true ∧ decide (x.a ≤ A) = true ∧ decide (x.b ≤ B) = true ∧ decide (L ≤ x.n) = false ∧ r = false) ∨ (decide (x.d ≤ D) = true ∧ decide (x.a ≤ A) = true ∧ decide (x.b ≤ B) = true ∧ decide (L ≤ x.n) = true ∧ decide (x.n ≤ H) = false ∧ r = false) ∨ (decide (x.d ≤ D) = true ∧ decide (x.a ≤ A) = true ∧ decide (x.b ≤ B) = true ∧ decide (L ≤ x.n) = true ∧ decide (x.n ≤ H) = true ∧ r = true) := by
    subst hr
    simp only [decide_eq_true_eq, decide_eq_false_iff_not]
    omega
  replace hr := Lib.hid hr
  replace hN := Lib.hid hN
  replace hk := Lib.hid hk
  replace hj := Lib.hid hj
  replace M1 := Lib.hid M1
  replace M2 := Lib.hid M2
  replace M4 := Lib.hid M4
  clear e0 hk hj hr
  replace ways := Lib.hid ways
  go_enter Try.func60, Try.ntmps60
  go_wp2_with fail
  have d0 := inB_cell HG.out
  obtain ⟨c0, c1, c2, c3, c4⟩ := d0
  go_wp2_with (first | (go_at_call 70; (with_reducible refine (HU.out _).mono ?_); rintro e w' ⟨rfl, rfl⟩) | (go_at_call 71; (with_reducible refine (hN.out _).mono ?_); rintro e w' ⟨rfl, rfl⟩))
  have ne1 := Grow.ne (w.alloc (inB x))
  have y1 : ∀ z : Grow (w.alloc (inB x)), z.w.cell? ⟨w.heap.size, 1, none⟩ = some (.int .u8 x.d) := fun z => z.cell c1
  have y2 : ∀ z : Grow (w.alloc (inB x)), z.w.cell? ⟨w.heap.size, 2, none⟩ = some (.int .u8 x.a) := fun z => z.cell c2
  have y3 : ∀ z : Grow (w.alloc (inB x)), z.w.cell? ⟨w.heap.size, 3, none⟩ = some (.int .u8 x.b) := fun z => z.cell c3
  have y4 : ∀ z : Grow (w.alloc (inB x)), z.w.cell? ⟨w.heap.size, 4, none⟩ = some (.int .i64 x.n) := fun z => z.cell c4
  have B0 : Below w.heap.size w (w.alloc (inB x)) := HB.out
  have HB0 := Lib.hid B0
  clear c0 c1 c2 c3 c4 g1 g2 HU hN HG HB B0
  generalize w.alloc (inB x) = X at *
  obtain ⟨h, rfl⟩ | ⟨h, h', rfl⟩ | ⟨h, h', h2, rfl⟩ | ⟨h, h', h2, h3, rfl⟩ | ⟨h, h', h2, h3, h4, rfl⟩ | ⟨h, h', h2, h3, h4, rfl⟩ := ways.out
  all_goals
    clear ways
    refine wp_region_grow (by kernel_rfl) (by kernel_rfl) ?_
    repeat (first | go_big_quiet_skip | go_big_quiet_step (first | (go_at_call 72; with_reducible exact Grow.same (M1.out _)) | (go_at_call 72; with_reducible exact Grow.same (M2.out _)) | (go_at_call 72; with_reducible exact Grow.same (M4.out _))))
    refine wpQuiet_nil ?_
    rintro _ ⟨z, rfl⟩
    have B7 := Lib.hid (bstep HB0.out HB0.out.size z.below)
    clear y1 y2 y3 y4 ne1 M1 M2 M4
    generalize z.w = Y at *
    clear z
    go_wp2_with fail
    go_ret
    exact ⟨rfl, B7.out⟩
end Go.Proofs.Ytnpcmoeleigpoaa.C
