/-
  The contracts of glazierref07.Small and Three.
-/
import Derived.Test.YtfdlfjecgefgfaaFns
namespace Go.Proofs.Ytfdlfjecgefgfaa
open Go.RowKit
attribute [local go_sem ↓] Go.wp_at_zero Go.wp_at_succ

theorem tmod_bd (n m : Int) (hm : 0 < m) : -m < n.tmod m ∧ n.tmod m < m :=
  ⟨Int.lt_tmod_of_pos n hm, Int.tmod_lt_of_pos n hm⟩
def smallP (v : P) : P := ⟨v.x.tmod 16385, v.y.tmod 16385, v.z.tmod 1073741825, v.a.tmod 4097, v.b.tmod 4097, v.c.tmod 4097, v.d.tmod 4097⟩
/-- A place within 2^14. -/
structure P.ok (v : P) : Prop where
  x : -16384 ≤ v.x ∧ v.x ≤ 16384
  y : -16384 ≤ v.y ∧ v.y ≤ 16384
theorem smallP_ok (v : P) : (smallP v).ok := by
  have hx := tmod_bd v.x 16385 (by decide)
  have hy := tmod_bd v.y 16385 (by decide)
  refine ⟨?_, ?_⟩ <;> simp only [smallP] <;> omega
theorem P.ok.sm {v : P} (h : v.ok) : v.sm := by
  obtain ⟨hx, hy⟩ := h
  exact ⟨by omega, by omega⟩

set_option maxHeartbeats 2000000 in
theorem small_any (v : P) (w : World) :
    Calls Try.prog 31 #[.agg #[.int .i64 v.x, .int .i64 v.y, .int .i64 v.z, .int .i64 v.a, .int .i64 v.b, .int .i64 v.c, .int .i64 v.d]] w fun e w' => e = .returned (.agg #[.int .i64 (smallP v).x, .int .i64 (smallP v).y, .int .i64 (smallP v).z, .int .i64 (smallP v).a, .int .i64 (smallP v).b, .int .i64 (smallP v).c, .int .i64 (smallP v).d]) ∧ Below w.heap.size w w' := by
  have hb : ∀ o o' o'', Below w.heap.size w (((w.alloc o).alloc o').alloc o'') := fun o o' o'' => (((Below.refl _ _).alloc (Nat.le_refl _) o).alloc (by simp) o').alloc (by simp; omega) o''
  have HB := Lib.hid hb
  clear hb
  go_enter Try.func31, Try.ntmps31
  go_wp2
  refine wp_loop_rounds 5 ?_
  rw [rounds_succ]
  go_wp2
  rw [rounds_succ]
  go_wp2
  rw [rounds_succ]
  go_wp2
  rw [rounds_succ]
  go_wp2
  rw [rounds_succ]
  go_wp2
  refine bodyPost_ret (v := .agg #[.int .i64 (smallP v).x, .int .i64 (smallP v).y, .int .i64 (smallP v).z, .int .i64 (smallP v).a, .int .i64 (smallP v).b, .int .i64 (smallP v).c, .int .i64 (smallP v).d]) (by simp [results, Try.results31, go_sem, smallP]) rfl ⟨rfl, ?_⟩
  exact HB.out _ _ _

/-- The class of worlds that are as X was below its own size. -/
def Grow (w : World) : Type := { w' : World // Below w.heap.size w w' }
def Grow.w {w : World} (x : Grow w) : World := x.1
theorem Grow.below {w : World} (x : Grow w) : Below w.heap.size w x.w := x.2
theorem Grow.cell {w : World} (x : Grow w) {b o : Nat} {v : Value} (h : w.cell? ⟨b, o, none⟩ = some v) : x.w.cell? ⟨b, o, none⟩ = some v := by
  rw [x.below.cell (World.block_lt_of_cell? _ _ h), h]
/- THREE -/
set_option maxRecDepth 100000 in
set_option maxHeartbeats 2000000 in
theorem three_any (a b c : P) (w : World) :
    Calls Try.prog 18 #[.agg #[.int .i64 a.x, .int .i64 a.y, .int .i64 a.z, .int .i64 a.a, .int .i64 a.b, .int .i64 a.c, .int .i64 a.d, .int .i64 b.x, .int .i64 b.y, .int .i64 b.z, .int .i64 b.a, .int .i64 b.b, .int .i64 b.c, .int .i64 b.d, .int .i64 c.x, .int .i64 c.y, .int .i64 c.z, .int .i64 c.a, .int .i64 c.b, .int .i64 c.c, .int .i64 c.d]] w fun e w' => e = .returned (.agg #[.int .i64 (smallP a).x, .int .i64 (smallP a).y, .int .i64 (smallP a).z, .int .i64 (smallP a).a, .int .i64 (smallP a).b, .int .i64 (smallP a).c, .int .i64 (smallP a).d, .int .i64 (smallP b).x, .int .i64 (smallP b).y, .int .i64 (smallP b).z, .int .i64 (smallP b).a, .int .i64 (smallP b).b, .int .i64 (smallP b).c, .int .i64 (smallP b).d, .int .i64 (smallP c).x, .int .i64 (smallP c).y, .int .i64 (smallP c).z, .int .i64 (smallP c).a, .int .i64 (smallP c).b, .int .i64 (smallP c).c, .int .i64 (smallP c).d]) ∧ Below w.heap.size w w' := by
  go_enter Try.func18, Try.ntmps18
  go_wp2_with fail
  obtain ⟨X1, hX1⟩ : ∃ X1, X1 = w.alloc (Obj.cells #[.int .i64 a.x, .int .i64 a.y, .int .i64 a.z, .int .i64 a.a, .int .i64 a.b, .int .i64 a.c, .int .i64 a.d, .int .i64 b.x, .int .i64 b.y, .int .i64 b.z, .int .i64 b.a, .int .i64 b.b, .int .i64 b.c, .int .i64 b.d, .int .i64 c.x, .int .i64 c.y, .int .i64 c.z, .int .i64 c.a, .int .i64 c.b, .int .i64 c.c, .int .i64 c.d] 38) := ⟨_, rfl⟩
  have g1 : X1.heap.size = w.heap.size + 1 := by rw [hX1]; simp
  have T1 := Lib.hid (show X1.heap[w.heap.size]? = some (tB a b c) by rw [hX1]; exact heap_alloc_new _ _)
  obtain ⟨⟨x0, x1, x2, x3, x4, x5, x6⟩, ⟨x7, x8, x9, x10, x11, x12, x13⟩, ⟨x14, x15, x16, x17, x18, x19, x20⟩⟩ := tB_cell T1.out
  have BW := Lib.hid (show Below w.heap.size w X1 by rw [hX1]; exact (Below.refl _ _).alloc (Nat.le_refl _) _)
  rw [← hX1]
  obtain ⟨Y0, hY0⟩ : ∃ Y0, Y0 = World.drew (X1.alloc (Obj.cells #[.int .i64 0, .int .i64 0, .int .i64 0, .int .i64 0, .int .i64 0, .int .i64 0, .int .i64 0, .int .i64 0, .int .i64 0, .int .i64 0, .int .i64 0, .int .i64 0, .int .i64 0, .int .i64 0, .int .i64 0, .int .i64 0, .int .i64 0, .int .i64 0, .int .i64 0, .int .i64 0, .int .i64 0] 38)) := ⟨_, rfl⟩
  have B0 := Lib.hid (show Below X1.heap.size X1 Y0 by rw [hY0]; exact ((Below.refl _ _).alloc (Nat.le_refl _) _).drew)
  have R0 := Lib.hid (show Y0.heap[w.heap.size + 1]? = some (.cells #[.int .i64 0, .int .i64 0, .int .i64 0, .int .i64 0, .int .i64 0, .int .i64 0, .int .i64 0, .int .i64 0, .int .i64 0, .int .i64 0, .int .i64 0, .int .i64 0, .int .i64 0, .int .i64 0, .int .i64 0, .int .i64 0, .int .i64 0, .int .i64 0, .int .i64 0, .int .i64 0, .int .i64 0] 38 (0, 0)) by rw [hY0, ← g1]; exact heap_alloc_new _ _)
  refine wp_region_held_drew (S := fun w' => ∃ x : Grow X1, w' = x.w) (by kernel_rfl) ⟨⟨Y0, B0.out⟩, hY0.symm⟩ (fun hS => ?_)
  rw [← hY0] at hS ⊢
  have y0 : ∀ x : Grow X1, x.w.cell? ⟨w.heap.size, 0, none⟩ = some (.int .i64 a.x) := fun x => x.cell x0
  have y1 : ∀ x : Grow X1, x.w.cell? ⟨w.heap.size, 1, none⟩ = some (.int .i64 a.y) := fun x => x.cell x1
  have y2 : ∀ x : Grow X1, x.w.cell? ⟨w.heap.size, 2, none⟩ = some (.int .i64 a.z) := fun x => x.cell x2
  have y3 : ∀ x : Grow X1, x.w.cell? ⟨w.heap.size, 3, none⟩ = some (.int .i64 a.a) := fun x => x.cell x3
  have y4 : ∀ x : Grow X1, x.w.cell? ⟨w.heap.size, 4, none⟩ = some (.int .i64 a.b) := fun x => x.cell x4
  have y5 : ∀ x : Grow X1, x.w.cell? ⟨w.heap.size, 5, none⟩ = some (.int .i64 a.c) := fun x => x.cell x5
  have y6 : ∀ x : Grow X1, x.w.cell? ⟨w.heap.size, 6, none⟩ = some (.int .i64 a.d) := fun x => x.cell x6
  have y7 : ∀ x : Grow X1, x.w.cell? ⟨w.heap.size, 7, none⟩ = some (.int .i64 b.x) := fun x => x.cell x7
  have y8 : ∀ x : Grow X1, x.w.cell? ⟨w.heap.size, 8, none⟩ = some (.int .i64 b.y) := fun x => x.cell x8
  have y9 : ∀ x : Grow X1, x.w.cell? ⟨w.heap.size, 9, none⟩ = some (.int .i64 b.z) := fun x => x.cell x9
  have y10 : ∀ x : Grow X1, x.w.cell? ⟨w.heap.size, 10, none⟩ = some (.int .i64 b.a) := fun x => x.cell x10
  have y11 : ∀ x : Grow X1, x.w.cell? ⟨w.heap.size, 11, none⟩ = some (.int .i64 b.b) := fun x => x.cell x11
  have y12 : ∀ x : Grow X1, x.w.cell? ⟨w.heap.size, 12, none⟩ = some (.int .i64 b.c) := fun x => x.cell x12
  have y13 : ∀ x : Grow X1, x.w.cell? ⟨w.heap.size, 13, none⟩ = some (.int .i64 b.d) := fun x => x.cell x13
  have y14 : ∀ x : Grow X1, x.w.cell? ⟨w.heap.size, 14, none⟩ = some (.int .i64 c.x) := fun x => x.cell x14
  have y15 : ∀ x : Grow X1, x.w.cell? ⟨w.heap.size, 15, none⟩ = some (.int .i64 c.y) := fun x => x.cell x15
  have y16 : ∀ x : Grow X1, x.w.cell? ⟨w.heap.size, 16, none⟩ = some (.int .i64 c.z) := fun x => x.cell x16
  have y17 : ∀ x : Grow X1, x.w.cell? ⟨w.heap.size, 17, none⟩ = some (.int .i64 c.a) := fun x => x.cell x17
  have y18 : ∀ x : Grow X1, x.w.cell? ⟨w.heap.size, 18, none⟩ = some (.int .i64 c.b) := fun x => x.cell x18
  have y19 : ∀ x : Grow X1, x.w.cell? ⟨w.heap.size, 19, none⟩ = some (.int .i64 c.c) := fun x => x.cell x19
  have y20 : ∀ x : Grow X1, x.w.cell? ⟨w.heap.size, 20, none⟩ = some (.int .i64 c.d) := fun x => x.cell x20
  have G2 := Lib.hid (Nat.le_of_eq g1)
  have G3 := Lib.hid (show w.heap.size ≤ X1.heap.size by omega)
  clear hX1 hY0 x0 x1 x2 x3 x4 x5 x6 x7 x8 x9 x10 x11 x12 x13 x14 x15 x16 x17 x18 x19 x20 g1
  refine wpAnyH_take (i := 0) (v := (.pointer (some ⟨w.heap.size, 0, none⟩))) rfl (by kernel_rfl) (by kernel_rfl) (by kernel_rfl) (fun _ _ _ h => h) (Or.inl ⟨by rfl, fun w hw => by obtain ⟨x, rfl⟩ := hw; go_simp⟩) hS ?_
  try simp only [Act.put, List.setIfInBounds_toArray, List.set_cons_zero, List.set_cons_succ, List.getElem_toArray, List.getElem_cons_zero]
  refine wpAnyH_take (i := 1) (v := (.agg #[.int .i64 a.x, .int .i64 a.y, .int .i64 a.z, .int .i64 a.a, .int .i64 a.b, .int .i64 a.c, .int .i64 a.d])) rfl (by kernel_rfl) (by kernel_rfl) (by kernel_rfl) (fun _ _ _ h => h) (Or.inl ⟨by rfl, fun w hw => by obtain ⟨x, rfl⟩ := hw; go_simp⟩) hS ?_
  try simp only [Act.put, List.setIfInBounds_toArray, List.set_cons_zero, List.set_cons_succ, List.getElem_toArray, List.getElem_cons_zero, List.getElem_cons_succ]
  refine wpAnyH_take (i := 3) (v := (.pointer (some ⟨w.heap.size, 7, none⟩))) rfl (by kernel_rfl) (by kernel_rfl) (by kernel_rfl) (fun _ _ _ h => h) (Or.inl ⟨by rfl, fun w hw => by obtain ⟨x, rfl⟩ := hw; go_simp⟩) hS ?_
  try simp only [Act.put, List.setIfInBounds_toArray, List.set_cons_zero, List.set_cons_succ, List.getElem_toArray, List.getElem_cons_zero, List.getElem_cons_succ]
  refine wpAnyH_take (i := 4) (v := (.agg #[.int .i64 b.x, .int .i64 b.y, .int .i64 b.z, .int .i64 b.a, .int .i64 b.b, .int .i64 b.c, .int .i64 b.d])) rfl (by kernel_rfl) (by kernel_rfl) (by kernel_rfl) (fun _ _ _ h => h) (Or.inl ⟨by rfl, fun w hw => by obtain ⟨x, rfl⟩ := hw; go_simp⟩) hS ?_
  try simp only [Act.put, List.setIfInBounds_toArray, List.set_cons_zero, List.set_cons_succ, List.getElem_toArray, List.getElem_cons_zero, List.getElem_cons_succ]
  refine wpAnyH_take (i := 6) (v := (.pointer (some ⟨w.heap.size, 14, none⟩))) rfl (by kernel_rfl) (by kernel_rfl) (by kernel_rfl) (fun _ _ _ h => h) (Or.inl ⟨by rfl, fun w hw => by obtain ⟨x, rfl⟩ := hw; go_simp⟩) hS ?_
  try simp only [Act.put, List.setIfInBounds_toArray, List.set_cons_zero, List.set_cons_succ, List.getElem_toArray, List.getElem_cons_zero, List.getElem_cons_succ]
  refine wpAnyH_take (i := 7) (v := (.agg #[.int .i64 c.x, .int .i64 c.y, .int .i64 c.z, .int .i64 c.a, .int .i64 c.b, .int .i64 c.c, .int .i64 c.d])) rfl (by kernel_rfl) (by kernel_rfl) (by kernel_rfl) (fun _ _ _ h => h) (Or.inl ⟨by rfl, fun w hw => by obtain ⟨x, rfl⟩ := hw; go_simp⟩) hS ?_
  try simp only [Act.put, List.setIfInBounds_toArray, List.set_cons_zero, List.set_cons_succ, List.getElem_toArray, List.getElem_cons_zero, List.getElem_cons_succ]
  refine wpAnyH_ready (rs := [2]) (by kernel_rfl) (by simp) ?_
  refine AllReadyH.cons rfl (fun K hK => ?_) AllReadyH.nil
  go_simp
  with_reducible refine (small_any a _).mono ?_
  rintro e t1 ⟨rfl, hb⟩
  have B1 := Lib.hid (bstep B0.out B0.out.size hb)
  have R1 := Lib.hid ((hb.block _ (Array.getElem?_eq_some_iff.1 R0.out).1).trans R0.out)
  clear hb R0
  refine hK.out _ _ ⟨⟨_, B1.out⟩, rfl⟩ (fun hS => ?_)
  clear hK K
  try simp only [Act.put, List.setIfInBounds_toArray, List.set_cons_zero, List.set_cons_succ, List.getElem_toArray, List.getElem_cons_zero, List.getElem_cons_succ]
  refine wpAnyH_ready (rs := [5]) (by kernel_rfl) (by simp) ?_
  refine AllReadyH.cons rfl (fun K hK => ?_) AllReadyH.nil
  go_simp
  with_reducible refine (small_any b _).mono ?_
  rintro e t2 ⟨rfl, hb⟩
  have B2 := Lib.hid (bstep B1.out B1.out.size hb)
  have R2 := Lib.hid ((hb.block _ (Array.getElem?_eq_some_iff.1 R1.out).1).trans R1.out)
  clear hb R1
  refine hK.out _ _ ⟨⟨_, B2.out⟩, rfl⟩ (fun hS => ?_)
  clear hK K
  try simp only [Act.put, List.setIfInBounds_toArray, List.set_cons_zero, List.set_cons_succ, List.getElem_toArray, List.getElem_cons_zero, List.getElem_cons_succ]
  refine wpAnyH_ready (rs := [8]) (by kernel_rfl) (by simp) ?_
  refine AllReadyH.cons rfl (fun K hK => ?_) AllReadyH.nil
  go_simp
  with_reducible refine (small_any c _).mono ?_
  rintro e t3 ⟨rfl, hb⟩
  have B3 := Lib.hid (bstep B2.out B2.out.size hb)
  have R3 := Lib.hid ((hb.block _ (Array.getElem?_eq_some_iff.1 R2.out).1).trans R2.out)
  clear hb R2
  refine hK.out _ _ ⟨⟨_, B3.out⟩, rfl⟩ (fun hS => ?_)
  clear hK K
  try simp only [Act.put, List.setIfInBounds_toArray, List.set_cons_zero, List.set_cons_succ, List.getElem_toArray, List.getElem_cons_zero, List.getElem_cons_succ]
  refine wpAnyH_ready (rs := [9]) (by kernel_rfl) (by simp) ?_
  refine AllReadyH.cons rfl (fun K hK => ?_) AllReadyH.nil
  refine opw_buildT _ _ _ rfl rfl rfl rfl ?_
  refine hK.out _ _ ⟨⟨_, B3.out⟩, rfl⟩ (fun hS => ?_)
  clear hK K
  try simp only [Act.put, List.setIfInBounds_toArray, List.set_cons_zero, List.set_cons_succ, List.getElem_toArray, List.getElem_cons_zero, List.getElem_cons_succ]
  refine wpAnyH_ready (rs := [10]) (by kernel_rfl) (by simp) ?_
  refine AllReadyH.cons rfl (fun K hK => ?_) AllReadyH.nil
  refine opw_storeT (a := smallP a) (b := smallP b) (c := smallP c) _ _ rfl rfl rfl rfl R3.out rfl (fun t4 P4 => ?_)
  have B4 := Lib.hid (P4.out.below _ _ B3.out G2.out)
  refine hK.out _ _ ⟨⟨_, B4.out⟩, rfl⟩ (fun hS => ?_)
  clear hK K hS
  try simp only [Act.put, List.setIfInBounds_toArray, List.set_cons_zero, List.set_cons_succ, List.getElem_toArray, List.getElem_cons_zero, List.getElem_cons_succ]
  refine wpAnyH_done (by kernel_rfl) ?_ _
  go_wp2
  refine bodyPost_ret (v := .agg #[.int .i64 (smallP a).x, .int .i64 (smallP a).y, .int .i64 (smallP a).z, .int .i64 (smallP a).a, .int .i64 (smallP a).b, .int .i64 (smallP a).c, .int .i64 (smallP a).d, .int .i64 (smallP b).x, .int .i64 (smallP b).y, .int .i64 (smallP b).z, .int .i64 (smallP b).a, .int .i64 (smallP b).b, .int .i64 (smallP b).c, .int .i64 (smallP b).d, .int .i64 (smallP c).x, .int .i64 (smallP c).y, .int .i64 (smallP c).z, .int .i64 (smallP c).a, .int .i64 (smallP c).b, .int .i64 (smallP c).c, .int .i64 (smallP c).d]) (results_cell_row Try.results18 _ _ (w.heap.size + 1) 38 _ (0, 0) _ rfl P4.out.same Try.underlying38 rfl (by kernel_rfl)) rfl ⟨rfl, ?_⟩
  exact bstep BW.out G3.out B4.out
end Go.Proofs.Ytfdlfjecgefgfaa
