/-
  ViewOrder's walk.
-/
import Derived.Test.YthehpfepklmoiaaPt
namespace Go.Proofs.Ythehpfepklmoiaa
open Go.RowKit
attribute [local go_sem ↓] Go.wp_at_zero Go.wp_at_succ
attribute [local go_sem high] neqP
attribute [local go_sem] guardP sameP_self

theorem along_two (x m c : Int) : along (2 * x) m (2 * c) = along x m c := by
  unfold along
  rw [Int.mul_assoc, Int.mul_ediv_mul_of_pos _ _ (by decide)]
theorem along_mono {x y m c : Int} (h : x ≤ y) (hm : 0 ≤ m) (hc : 0 < c) : along x m c ≤ along y m c := by
  unfold along
  have := Int.ediv_le_ediv hc (Int.mul_le_mul_of_nonneg_right h hm)
  omega
/-- Two vertices, one behind the other. -/
def wB (a b : V) : Obj := .cells #[.int .i64 a.x, .int .i64 a.y, .int .i64 a.z, .int .i64 a.w, .int .i64 a.a, .int .i64 a.b, .int .i64 a.c, .int .i64 a.d, .int .i64 b.x, .int .i64 b.y, .int .i64 b.z, .int .i64 b.w, .int .i64 b.a, .int .i64 b.b, .int .i64 b.c, .int .i64 b.d] 42 (0, 0)
theorem wB_cell {w : World} {g : Nat} {a b : V} (h : w.heap[g]? = some (wB a b)) : (w.cell? ⟨g, 0, none⟩ = some (.int .i64 a.x) ∧ w.cell? ⟨g, 1, none⟩ = some (.int .i64 a.y) ∧ w.cell? ⟨g, 2, none⟩ = some (.int .i64 a.z) ∧ w.cell? ⟨g, 3, none⟩ = some (.int .i64 a.w) ∧ w.cell? ⟨g, 4, none⟩ = some (.int .i64 a.a) ∧ w.cell? ⟨g, 5, none⟩ = some (.int .i64 a.b) ∧ w.cell? ⟨g, 6, none⟩ = some (.int .i64 a.c) ∧ w.cell? ⟨g, 7, none⟩ = some (.int .i64 a.d)) ∧ (w.cell? ⟨g, 8, none⟩ = some (.int .i64 b.x) ∧ w.cell? ⟨g, 9, none⟩ = some (.int .i64 b.y) ∧ w.cell? ⟨g, 10, none⟩ = some (.int .i64 b.z) ∧ w.cell? ⟨g, 11, none⟩ = some (.int .i64 b.w) ∧ w.cell? ⟨g, 12, none⟩ = some (.int .i64 b.a) ∧ w.cell? ⟨g, 13, none⟩ = some (.int .i64 b.b) ∧ w.cell? ⟨g, 14, none⟩ = some (.int .i64 b.c) ∧ w.cell? ⟨g, 15, none⟩ = some (.int .i64 b.d)) := by
  unfold wB at h
  simp [World.cell?, h]
theorem wB_lt {w : World} {g : Nat} {a b : V} (h : w.heap[g]? = some (wB a b)) : g < w.heap.size := World.block_lt_of_cell? _ _ (wB_cell h).1.1
theorem wB_grow {w w' : World} {g : Nat} {a b : V} (h : w.heap[g]? = some (wB a b)) (k : Below w.heap.size w w') : w'.heap[g]? = some (wB a b) := (k.block _ (wB_lt h)).trans h
theorem wB_alloc {w : World} {g : Nat} {a b : V} (o : Obj) (h : w.heap[g]? = some (wB a b)) : (w.alloc o).heap[g]? = some (wB a b) := (Below.heap_alloc _ _ _ (wB_lt h)).trans h

set_option maxRecDepth 100000 in
set_option maxHeartbeats 4000000 in
theorem order_walk (a b : V) (x y : Int) (w : World) (x0 : 0 ≤ x) (x1 : x ≤ 255) (y0 : 0 ≤ y) (y1 : y ≤ 255) :
    Calls Try.prog 6 #[.agg #[.int .i64 a.x, .int .i64 a.y, .int .i64 a.z, .int .i64 a.w, .int .i64 a.a, .int .i64 a.b, .int .i64 a.c, .int .i64 a.d, .int .i64 b.x, .int .i64 b.y, .int .i64 b.z, .int .i64 b.w, .int .i64 b.a, .int .i64 b.b, .int .i64 b.c, .int .i64 b.d], .agg #[.int .u8 x, .int .u8 y]] w fun e w' => e = .returned (.bool true) ∧ Below w.heap.size w w' := by
  have HS := Lib.hid shown_any
  have HF := Lib.hid (fit_any a)
  have HG := Lib.hid (fit_any b)
  obtain ⟨f, hf⟩ : ∃ f, fitV a = f := ⟨_, rfl⟩
  obtain ⟨g, hg⟩ : ∃ g, fitV b = g := ⟨_, rfl⟩
  rw [hf] at HF
  rw [hg] at HG
  obtain ⟨ox, oy, oz, ow, oa, ob, oc, od⟩ : f.ok := by rw [← hf]; exact fitV_ok a
  obtain ⟨nx, ny, nz, nw, na, nb, nc, nd⟩ : g.ok := by rw [← hg]; exact fitV_ok b
  clear hf hg
  obtain ⟨m, hm⟩ : ∃ m, 1 + x % 64 = m := ⟨_, rfl⟩
  obtain ⟨k, hk⟩ : ∃ k, 1 + y % 64 = k := ⟨_, rfl⟩
  have HM := Lib.hid hm
  have HK := Lib.hid hk
  have m0 : 1 ≤ m := by omega
  have m1 : m ≤ 64 := by omega
  have k0 : 1 ≤ k := by omega
  have k1 : k ≤ 64 := by omega
  clear hm hk
  have P1 := Lib.hid (point_ok m k f ⟨ox, oy, oz, ow, oa, ob, oc, od⟩ (by omega) (by omega) (by omega) (by omega))
  have P2 := Lib.hid (point_ok m k ⟨g.x, g.y, g.z, f.w, g.a, g.b, g.c, g.d⟩ ⟨nx, ny, nz, ow, na, nb, nc, nd⟩ (by omega) (by omega) (by omega) (by omega))
  have P3 := Lib.hid (fun w => point_any ⟨2 * f.x, 2 * f.y, 2 * f.z, 2 * f.w, f.a, f.b, f.c, f.d⟩ m k w ⟨by simp only; omega, by simp only; omega, by simp only; omega, by simp only; omega, by simp only; omega, by simp only; omega, by simp only; omega, by simp only; omega⟩)
  have h2 : okP m k ⟨2 * f.x, 2 * f.y, 2 * f.z, 2 * f.w, f.a, f.b, f.c, f.d⟩ = true := by
    unfold okP scr sideB
    simp [m0, m1, k0, k1]
    omega
  have h3 : ptO m k ⟨2 * f.x, 2 * f.y, 2 * f.z, 2 * f.w, f.a, f.b, f.c, f.d⟩ = pt m k f := by unfold ptO; rw [if_pos h2]; simp only [pt, along_two]
  rw [h2, h3] at P3
  have hx : g.x < f.x ∨ (¬ g.x < f.x ∧ along f.x (8 * m) f.w ≤ along g.x (8 * m) f.w) := by
    by_cases h : g.x < f.x
    · exact .inl h
    · exact .inr ⟨h, along_mono (by omega) (by omega) (by omega)⟩
  have hy : g.y < f.y ∨ (¬ g.y < f.y ∧ along f.y (8 * k) f.w ≤ along g.y (8 * k) f.w) := by
    by_cases h : g.y < f.y
    · exact .inl h
    · exact .inr ⟨h, along_mono (by omega) (by omega) (by omega)⟩
  have hz : g.z < f.z ∨ (¬ g.z < f.z ∧ along f.z 32768 f.w ≤ along g.z 32768 f.w) := by
    by_cases h : g.z < f.z
    · exact .inl h
    · exact .inr ⟨h, along_mono (by omega) (by omega) (by omega)⟩
  simp only [pt] at P1 P2 P3
  generalize along f.x (8 * m) f.w = X at *
  generalize along g.x (8 * m) f.w = X' at *
  generalize along f.y (8 * k) f.w = Y at *
  generalize along g.y (8 * k) f.w = Y' at *
  generalize along f.z 32768 f.w = Z at *
  generalize along g.z 32768 f.w = Z' at *
  have e1 : IntKind.i64.wrap (2 * f.x) = 2 * f.x := by rw [IntKind.wrap_i64]; omega
  have e2 : IntKind.i64.wrap (2 * f.y) = 2 * f.y := by rw [IntKind.wrap_i64]; omega
  have e3 : IntKind.i64.wrap (2 * f.z) = 2 * f.z := by rw [IntKind.wrap_i64]; omega
  have e4 : IntKind.i64.wrap (2 * f.w) = 2 * f.w := by rw [IntKind.wrap_i64]; omega
  have HX := Lib.hid hx
  have HY := Lib.hid hy
  have HZ := Lib.hid hz
  clear hx hy hz h2 h3 ox oy oz ow oa ob oc od nx ny nz nw na nb nc nd
  go_enter Try.func6, Try.ntmps6
  go_wp2_with fail
  with_reducible refine (HS.out _).mono ?_
  rintro e w1 ⟨rfl, hb⟩
  have K1 := Lib.hid (bstep (((Below.refl w.heap.size w).alloc (Nat.le_refl _) (Obj.cells #[.int .i64 a.x, .int .i64 a.y, .int .i64 a.z, .int .i64 a.w, .int .i64 a.a, .int .i64 a.b, .int .i64 a.c, .int .i64 a.d, .int .i64 b.x, .int .i64 b.y, .int .i64 b.z, .int .i64 b.w, .int .i64 b.a, .int .i64 b.b, .int .i64 b.c, .int .i64 b.d] 42)).alloc (by simp) (Obj.cells #[.int .u8 x, .int .u8 y] 40)) (by simp; omega) hb)
  have A1 := Lib.hid (show w1.heap[w.heap.size]? = some (wB a b) from wB_grow (new_two _ _).1 hb)
  obtain ⟨⟨c0, c1, c2, c3, c4, c5, c6, c7⟩, -⟩ := wB_cell A1.out
  obtain ⟨s0, s1⟩ := bB_cell (show w1.heap[w.heap.size + 1]? = some (bB x y) from bB_grow (new_two _ _).2 hb)
  clear hb
  go_wp2_with fail
  with_reducible refine (HF.out _).mono ?_
  rintro e w2 ⟨rfl, hb⟩
  have K2 := Lib.hid (bstep K1.out K1.out.size hb)
  have A2 := Lib.hid (wB_grow A1.out hb)
  clear hb c0 c1 c2 c3 c4 c5 c6 c7 s0 s1 A1
  obtain ⟨-, c0, c1, c2, c3, c4, c5, c6, c7⟩ := wB_cell A2.out
  have l2 := wB_lt A2.out
  go_wp2_with fail
  rw [HM.out, HK.out]
  with_reducible refine (HG.out _).mono ?_
  rintro e w3 ⟨rfl, hb⟩
  have K3 := Lib.hid (bstep (K2.out.alloc K2.out.size (Obj.cells #[.int .i64 f.x, .int .i64 f.y, .int .i64 f.z, .int .i64 f.w, .int .i64 f.a, .int .i64 f.b, .int .i64 f.c, .int .i64 f.d] 27)) (by have := K2.out.size; simp; omega) hb)
  have F3 := Lib.hid (show w3.heap[w2.heap.size]? = some (vB 27 f) from vB_grow (new_at rfl) hb)
  clear hb c0 c1 c2 c3 c4 c5 c6 c7 l2 A2 HM HK
  obtain ⟨c0, c1, c2, c3, c4, c5, c6, c7⟩ := vB_cell F3.out
  have l3 := vB_lt F3.out
  go_wp2_with fail
  with_reducible refine (P1.out _).mono ?_
  rintro e w4 ⟨rfl, hb⟩
  have K4 := Lib.hid (bstep (K3.out.alloc K3.out.size (Obj.cells #[.int .i64 g.x, .int .i64 g.y, .int .i64 g.z, .int .i64 f.w, .int .i64 g.a, .int .i64 g.b, .int .i64 g.c, .int .i64 g.d] 27)) (by have := K3.out.size; simp; omega) hb)
  have F4 := Lib.hid (show w4.heap[w2.heap.size]? = some (vB 27 f) from vB_grow (vB_alloc _ F3.out) hb)
  have G4 := Lib.hid (show w4.heap[w3.heap.size]? = some (vB 27 (⟨g.x, g.y, g.z, f.w, g.a, g.b, g.c, g.d⟩ : V)) from vB_grow (new_at rfl) hb)
  clear hb c0 c1 c2 c3 c4 c5 c6 c7 l3 F3
  obtain ⟨c0, c1, c2, c3, c4, c5, c6, c7⟩ := vB_cell G4.out
  have l4 := vB_lt G4.out
  go_wp2_with fail
  with_reducible refine (P2.out _).mono ?_
  rintro e w5 ⟨rfl, hb⟩
  have K5 := Lib.hid (bstep (K4.out.alloc K4.out.size (Obj.cells #[.int .i64 X, .int .i64 Y, .int .i64 Z, .int .i64 f.a, .int .i64 f.b, .int .i64 f.c, .int .i64 f.d] 30)) (by have := K4.out.size; simp; omega) hb)
  have F5 := Lib.hid (show w5.heap[w2.heap.size]? = some (vB 27 f) from vB_grow (vB_alloc _ F4.out) hb)
  have G5 := Lib.hid (show w5.heap[w3.heap.size]? = some (vB 27 (⟨g.x, g.y, g.z, f.w, g.a, g.b, g.c, g.d⟩ : V)) from vB_grow (vB_alloc _ G4.out) hb)
  have Q5 := Lib.hid (show w5.heap[w4.heap.size]? = some (pB 30 ⟨X, Y, Z, f.a, f.b, f.c, f.d⟩) from pB_grow (new_at rfl) hb)
  clear hb c0 c1 c2 c3 c4 c5 c6 c7 l4 F4 G4
  obtain ⟨c0, c1, c2, c3, c4, c5, c6, c7⟩ := vB_cell F5.out
  have l5 := vB_lt F5.out
  go_wp2_with fail
  with_reducible refine (P3.out _).mono ?_
  rintro e w6 ⟨rfl, hb⟩
  have K6 := Lib.hid (bstep (K5.out.alloc K5.out.size (Obj.cells #[.int .i64 X', .int .i64 Y', .int .i64 Z', .int .i64 g.a, .int .i64 g.b, .int .i64 g.c, .int .i64 g.d] 30)) (by have := K5.out.size; simp; omega) hb)
  have F6 := Lib.hid (show w6.heap[w2.heap.size]? = some (vB 27 f) from vB_grow (vB_alloc _ F5.out) hb)
  have G6 := Lib.hid (show w6.heap[w3.heap.size]? = some (vB 27 (⟨g.x, g.y, g.z, f.w, g.a, g.b, g.c, g.d⟩ : V)) from vB_grow (vB_alloc _ G5.out) hb)
  have Q6 := Lib.hid (show w6.heap[w4.heap.size]? = some (pB 30 ⟨X, Y, Z, f.a, f.b, f.c, f.d⟩) from pB_grow (pB_alloc _ Q5.out) hb)
  have R6 := Lib.hid (show w6.heap[w5.heap.size]? = some (pB 30 ⟨X', Y', Z', g.a, g.b, g.c, g.d⟩) from pB_grow (new_at rfl) hb)
  clear hb c0 c1 c2 c3 c4 c5 c6 c7 l5 F5 G5 Q5
  obtain ⟨c0, c1, c2, c3, c4, c5, c6, c7⟩ := vB_cell F6.out
  obtain ⟨d0, d1, d2, d3, d4, d5, d6, d7⟩ := vB_cell G6.out
  obtain ⟨q0, q1, q2, q3, q4, q5, q6⟩ := pB_cell Q6.out
  obtain ⟨r0, r1, r2, r3, r4, r5, r6⟩ := pB_cell R6.out
  have l6 := vB_lt F6.out
  have l7 := vB_lt G6.out
  have l8 := pB_lt Q6.out
  have l9 := pB_lt R6.out
  simp only at d0 d1 d2 d3 d4 d5 d6 d7 q0 q1 q2 q3 q4 q5 q6 r0 r1 r2 r3 r4 r5 r6
  rcases HX.out with hx | ⟨hx, hx'⟩ <;> rcases HY.out with hy | ⟨hy, hy'⟩ <;> rcases HZ.out with hz | ⟨hz, hz'⟩
  all_goals
    go_wp2
    go_ret
    exact ⟨rfl, K6.out.alloc K6.out.size _⟩
end Go.Proofs.Ythehpfepklmoiaa
