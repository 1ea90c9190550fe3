/-
  The contracts of clip's small functions: inside, allInside, own, crossing.
-/
import Derived.Test.YtfdlfjecgefgfaaCVs
import Derived.OwnWalk
namespace Go.Proofs.Ytfdlfjecgefgfaa.C
open Go.RowKit
attribute [local go_sem ↓] Go.wp_at_zero Go.wp_at_succ

theorem inside_any (p : Int) (v : V) (hv : v.sm) (b : Bool) (h : decide (0 ≤ dist p v) = b) (w : World) :
    Calls Try.prog 49 #[.int .i64 p, .agg #[.int .i64 v.x, .int .i64 v.y, .int .i64 v.z, .int .i64 v.w, .int .i64 v.a, .int .i64 v.b, .int .i64 v.c, .int .i64 v.d]] w fun e w' => e = .returned (.bool b) ∧ Below w.heap.size w w' := by
  have D := Lib.hid (dist_any p v hv)
  have HB := Lib.hid (show Below w.heap.size w (w.alloc (.cells #[.int .i64 v.x, .int .i64 v.y, .int .i64 v.z, .int .i64 v.w, .int .i64 v.a, .int .i64 v.b, .int .i64 v.c, .int .i64 v.d] 25)) from (Below.refl _ _).alloc (Nat.le_refl _) _)
  generalize dist p v = d at *
  go_enter Try.func49, Try.ntmps49
  go_wp2_with fail
  with_reducible refine (D.out _).mono ?_
  rintro e w1 ⟨rfl, hb⟩
  have H1 := Lib.hid hb
  clear hb
  go_wp2
  go_ret
  exact ⟨by rw [← h]; rfl, bstep HB.out HB.out.size H1.out⟩

theorem crossing_none (p : Int) (a b : V) (ha : a.sm) (hb : b.sm) (h0 : ¬ (0 ≤ dist p a ∧ dist p b < 0)) (h1 : ¬ (0 ≤ dist p b ∧ dist p a < 0)) (w : World) :
    Calls Try.prog 50 #[.int .i64 p, .agg #[.int .i64 a.x, .int .i64 a.y, .int .i64 a.z, .int .i64 a.w, .int .i64 a.a, .int .i64 a.b, .int .i64 a.c, .int .i64 a.d], .agg #[.int .i64 b.x, .int .i64 b.y, .int .i64 b.z, .int .i64 b.w, .int .i64 b.a, .int .i64 b.b, .int .i64 b.c, .int .i64 b.d]] w fun e w' => e = .returned (.tuple #[.agg #[.int .i64 0, .int .i64 0, .int .i64 0, .int .i64 0, .int .i64 0, .int .i64 0, .int .i64 0, .int .i64 0], .bool false]) ∧ Below w.heap.size w w' := by
  have N0 := Lib.hid (between_no a b p ha hb h0)
  have N1 := Lib.hid (between_no b a p hb ha h1)
  clear h0 h1 ha hb
  go_enter Try.func50, Try.ntmps50
  go_wp2_with fail
  generalize hW : ((w.alloc (Obj.cells #[.int .i64 a.x, .int .i64 a.y, .int .i64 a.z, .int .i64 a.w, .int .i64 a.a, .int .i64 a.b, .int .i64 a.c, .int .i64 a.d] 25)).alloc (Obj.cells #[.int .i64 b.x, .int .i64 b.y, .int .i64 b.z, .int .i64 b.w, .int .i64 b.a, .int .i64 b.b, .int .i64 b.c, .int .i64 b.d] 25)).alloc _ = W
  have A0 : W.heap[w.heap.size]? = some (vB 25 a) := by
    rw [← hW]; exact vB_alloc _ (vB_alloc _ (new_at rfl))
  have B0 : W.heap[w.heap.size + 1]? = some (vB 25 b) := by
    rw [← hW]; exact vB_alloc _ (new_at (by simp))
  have R0 : W.heap[w.heap.size + 1 + 1]? = some (vB 25 ⟨0, 0, 0, 0, 0, 0, 0, 0⟩) := by
    rw [← hW]; exact new_at (by simp)
  have BW : Below w.heap.size w W := by rw [← hW]; exact (((Below.refl _ _).alloc (Nat.le_refl _) _).alloc (by simp) _).alloc (by simp; omega) _
  clear hW
  with_reducible refine (N0.out _).mono ?_
  rintro e w1 ⟨rfl, hb⟩
  have A1 := vB_cell (vB_alloc (Obj.cells #[.int .i64 0, .int .i64 0, .int .i64 0, .int .i64 0, .int .i64 0, .int .i64 0, .int .i64 0, .int .i64 0] 25) (vB_grow A0 hb))
  have B1 := vB_cell (vB_alloc (Obj.cells #[.int .i64 0, .int .i64 0, .int .i64 0, .int .i64 0, .int .i64 0, .int .i64 0, .int .i64 0, .int .i64 0] 25) (vB_grow B0 hb))
  have R1 := Lib.hid (vB_grow R0 hb)
  have BB := Lib.hid (bstep BW BW.size hb)
  have hz : w.heap.size + 1 + 1 < w1.heap.size := vB_lt R1.out
  clear hb A0 B0 R0 BW
  obtain ⟨a0, a1, a2, a3, a4, a5, a6, a7⟩ := A1
  obtain ⟨b0, b1, b2, b3, b4, b5, b6, b7⟩ := B1
  go_wp2_with fail
  with_reducible refine (N1.out _).mono ?_
  rintro e w2 ⟨rfl, hb⟩
  have R2 := Lib.hid (vB_grow (vB_alloc (Obj.cells #[.int .i64 0, .int .i64 0, .int .i64 0, .int .i64 0, .int .i64 0, .int .i64 0, .int .i64 0, .int .i64 0] 25) R1.out) hb)
  have BC := Lib.hid (bstep (BB.out.alloc BB.out.size _) (by simp; have := BB.out.size; omega) hb)
  clear hb a0 a1 a2 a3 a4 a5 a6 a7 b0 b1 b2 b3 b4 b5 b6 b7
  obtain ⟨d0, d1, d2, d3, d4, d5, d6, d7⟩ := vB_cell R2.out
  obtain ⟨f0, f1, f2, f3, f4, f5, f6, f7⟩ := vB_free R2.out
  go_wp2
  obtain ⟨r0, r1, r2, r3, r4, r5, r6, r7⟩ := vB_cell (set8_same ⟨0, 0, 0, 0, 0, 0, 0, 0⟩ R2.out)
  simp only [set8] at r0 r1 r2 r3 r4 r5 r6 r7
  refine bodyPost_ret (v := .tuple #[.agg #[.int .i64 0, .int .i64 0, .int .i64 0, .int .i64 0, .int .i64 0, .int .i64 0, .int .i64 0, .int .i64 0], .bool false]) (by simp [results, Try.results50, go_sem, r0, r1, r2, r3, r4, r5, r6, r7]) rfl ⟨rfl, ?_⟩
  exact set8_below ⟨0, 0, 0, 0, 0, 0, 0, 0⟩ BC.out (by omega)

theorem crossing_go (p : Int) (a b R : V) (ha : a.sm) (hb : b.sm) (h0 : 0 ≤ dist p a) (h1 : dist p b < 0) (hR : onV p a b = R) (w : World) :
    Calls Try.prog 50 #[.int .i64 p, .agg #[.int .i64 a.x, .int .i64 a.y, .int .i64 a.z, .int .i64 a.w, .int .i64 a.a, .int .i64 a.b, .int .i64 a.c, .int .i64 a.d], .agg #[.int .i64 b.x, .int .i64 b.y, .int .i64 b.z, .int .i64 b.w, .int .i64 b.a, .int .i64 b.b, .int .i64 b.c, .int .i64 b.d]] w fun e w' => e = .returned (.tuple #[.agg #[.int .i64 R.x, .int .i64 R.y, .int .i64 R.z, .int .i64 R.w, .int .i64 R.a, .int .i64 R.b, .int .i64 R.c, .int .i64 R.d], .bool true]) ∧ Below w.heap.size w w' := by
  have N0 := Lib.hid (between_core a b R p _ _ _ ha hb rfl rfl rfl hR h0 h1)
  clear h0 h1 ha hb hR
  go_enter Try.func50, Try.ntmps50
  go_wp2_with fail
  generalize hW : ((w.alloc (Obj.cells #[.int .i64 a.x, .int .i64 a.y, .int .i64 a.z, .int .i64 a.w, .int .i64 a.a, .int .i64 a.b, .int .i64 a.c, .int .i64 a.d] 25)).alloc (Obj.cells #[.int .i64 b.x, .int .i64 b.y, .int .i64 b.z, .int .i64 b.w, .int .i64 b.a, .int .i64 b.b, .int .i64 b.c, .int .i64 b.d] 25)).alloc _ = W
  have R0 : W.heap[w.heap.size + 1 + 1]? = some (vB 25 ⟨0, 0, 0, 0, 0, 0, 0, 0⟩) := by
    rw [← hW]; exact new_at (by simp)
  have BW : Below w.heap.size w W := by rw [← hW]; exact (((Below.refl _ _).alloc (Nat.le_refl _) _).alloc (by simp) _).alloc (by simp; omega) _
  clear hW
  with_reducible refine (N0.out _).mono ?_
  rintro e w1 ⟨rfl, hb⟩
  have R1 := Lib.hid (vB_grow R0 hb)
  have hz : w.heap.size + 1 + 1 < w1.heap.size := vB_lt (vB_grow R0 hb)
  have BB := Lib.hid (bstep BW BW.size hb)
  clear hb R0 BW
  obtain ⟨d0, d1, d2, d3, d4, d5, d6, d7⟩ := vB_cell R1.out
  obtain ⟨f0, f1, f2, f3, f4, f5, f6, f7⟩ := vB_free R1.out
  go_wp2
  obtain ⟨r0, r1, r2, r3, r4, r5, r6, r7⟩ := vB_cell (vB_alloc (Obj.cells #[.int .i64 R.x, .int .i64 R.y, .int .i64 R.z, .int .i64 R.w, .int .i64 R.a, .int .i64 R.b, .int .i64 R.c, .int .i64 R.d] 25) (set8_same R R1.out))
  simp only [set8] at r0 r1 r2 r3 r4 r5 r6 r7
  refine bodyPost_ret (v := .tuple #[.agg #[.int .i64 R.x, .int .i64 R.y, .int .i64 R.z, .int .i64 R.w, .int .i64 R.a, .int .i64 R.b, .int .i64 R.c, .int .i64 R.d], .bool true]) (by simp [results, Try.results50, go_sem, r0, r1, r2, r3, r4, r5, r6, r7]) rfl ⟨rfl, ?_⟩
  have k := set8_below (g := w.heap.size + 1 + 1) R BB.out (by omega)
  exact k.alloc k.size _

theorem crossing_come (p : Int) (a b R : V) (ha : a.sm) (hb : b.sm) (h0 : 0 ≤ dist p b) (h1 : dist p a < 0) (hR : onV p b a = R) (w : World) :
    Calls Try.prog 50 #[.int .i64 p, .agg #[.int .i64 a.x, .int .i64 a.y, .int .i64 a.z, .int .i64 a.w, .int .i64 a.a, .int .i64 a.b, .int .i64 a.c, .int .i64 a.d], .agg #[.int .i64 b.x, .int .i64 b.y, .int .i64 b.z, .int .i64 b.w, .int .i64 b.a, .int .i64 b.b, .int .i64 b.c, .int .i64 b.d]] w fun e w' => e = .returned (.tuple #[.agg #[.int .i64 R.x, .int .i64 R.y, .int .i64 R.z, .int .i64 R.w, .int .i64 R.a, .int .i64 R.b, .int .i64 R.c, .int .i64 R.d], .bool true]) ∧ Below w.heap.size w w' := by
  have N0 := Lib.hid (between_no a b p ha hb (by omega))
  have N1 := Lib.hid (between_core b a R p _ _ _ hb ha rfl rfl rfl hR h0 h1)
  clear h0 h1 ha hb hR
  go_enter Try.func50, Try.ntmps50
  go_wp2_with fail
  generalize hW : ((w.alloc (Obj.cells #[.int .i64 a.x, .int .i64 a.y, .int .i64 a.z, .int .i64 a.w, .int .i64 a.a, .int .i64 a.b, .int .i64 a.c, .int .i64 a.d] 25)).alloc (Obj.cells #[.int .i64 b.x, .int .i64 b.y, .int .i64 b.z, .int .i64 b.w, .int .i64 b.a, .int .i64 b.b, .int .i64 b.c, .int .i64 b.d] 25)).alloc _ = W
  have A0 : W.heap[w.heap.size]? = some (vB 25 a) := by
    rw [← hW]; exact vB_alloc _ (vB_alloc _ (new_at rfl))
  have B0 : W.heap[w.heap.size + 1]? = some (vB 25 b) := by
    rw [← hW]; exact vB_alloc _ (new_at (by simp))
  have R0 : W.heap[w.heap.size + 1 + 1]? = some (vB 25 ⟨0, 0, 0, 0, 0, 0, 0, 0⟩) := by
    rw [← hW]; exact new_at (by simp)
  have BW : Below w.heap.size w W := by rw [← hW]; exact (((Below.refl _ _).alloc (Nat.le_refl _) _).alloc (by simp) _).alloc (by simp; omega) _
  clear hW
  with_reducible refine (N0.out _).mono ?_
  rintro e w1 ⟨rfl, hb⟩
  have A1 := vB_cell (vB_alloc (Obj.cells #[.int .i64 0, .int .i64 0, .int .i64 0, .int .i64 0, .int .i64 0, .int .i64 0, .int .i64 0, .int .i64 0] 25) (vB_grow A0 hb))
  have B1 := vB_cell (vB_alloc (Obj.cells #[.int .i64 0, .int .i64 0, .int .i64 0, .int .i64 0, .int .i64 0, .int .i64 0, .int .i64 0, .int .i64 0] 25) (vB_grow B0 hb))
  have R1 := Lib.hid (vB_grow R0 hb)
  have BB := Lib.hid (bstep BW BW.size hb)
  have hz : w.heap.size + 1 + 1 < w1.heap.size := vB_lt R1.out
  clear hb A0 B0 R0 BW
  obtain ⟨a0, a1, a2, a3, a4, a5, a6, a7⟩ := A1
  obtain ⟨b0, b1, b2, b3, b4, b5, b6, b7⟩ := B1
  go_wp2_with fail
  with_reducible refine (N1.out _).mono ?_
  rintro e w2 ⟨rfl, hb⟩
  have R2 := Lib.hid (vB_grow (vB_alloc (Obj.cells #[.int .i64 0, .int .i64 0, .int .i64 0, .int .i64 0, .int .i64 0, .int .i64 0, .int .i64 0, .int .i64 0] 25) R1.out) hb)
  have BC := Lib.hid (bstep (BB.out.alloc BB.out.size _) (by simp; have := BB.out.size; omega) hb)
  clear hb a0 a1 a2 a3 a4 a5 a6 a7 b0 b1 b2 b3 b4 b5 b6 b7
  obtain ⟨d0, d1, d2, d3, d4, d5, d6, d7⟩ := vB_cell R2.out
  obtain ⟨f0, f1, f2, f3, f4, f5, f6, f7⟩ := vB_free R2.out
  go_wp2
  obtain ⟨r0, r1, r2, r3, r4, r5, r6, r7⟩ := vB_cell (set8_same R R2.out)
  simp only [set8] at r0 r1 r2 r3 r4 r5 r6 r7
  refine bodyPost_ret (v := .tuple #[.agg #[.int .i64 R.x, .int .i64 R.y, .int .i64 R.z, .int .i64 R.w, .int .i64 R.a, .int .i64 R.b, .int .i64 R.c, .int .i64 R.d], .bool true]) (by simp [results, Try.results50, go_sem, r0, r1, r2, r3, r4, r5, r6, r7]) rfl ⟨rfl, ?_⟩
  exact set8_below R BC.out (by omega)
end Go.Proofs.Ytfdlfjecgefgfaa.C
