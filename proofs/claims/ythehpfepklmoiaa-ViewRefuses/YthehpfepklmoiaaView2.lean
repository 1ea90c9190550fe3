/-
  The contract of view.Point.
-/
import Derived.Test.YthehpfepklmoiaaView1
namespace Go.Proofs.Ythehpfepklmoiaa
open Go.RowKit
attribute [local go_sem ↓] Go.wp_at_zero Go.wp_at_succ

set_option maxRecDepth 100000 in
set_option maxHeartbeats 2000000 in
theorem point_any (v : V) (m k : Int) (w : World) (hv : v.sm) :
    Calls Try.prog 11 #[.int .i64 m, .int .i64 k, .agg #[.int .i64 v.x, .int .i64 v.y, .int .i64 v.z, .int .i64 v.w, .int .i64 v.a, .int .i64 v.b, .int .i64 v.c, .int .i64 v.d]] w fun e w' => e = .returned (.tuple #[.agg #[.int .i64 (ptO m k v).x, .int .i64 (ptO m k v).y, .int .i64 (ptO m k v).z, .int .i64 (ptO m k v).a, .int .i64 (ptO m k v).b, .int .i64 (ptO m k v).c, .int .i64 (ptO m k v).d], .bool (okP m k v)]) ∧ Below w.heap.size w w' := by
  have HV := Lib.hid hv
  clear hv
  go_enter Try.func11, Try.ntmps11
  go_wp2_with fail
  obtain ⟨X1, hX1⟩ : ∃ X1, X1 = w.alloc (Obj.cells #[.int .i64 v.x, .int .i64 v.y, .int .i64 v.z, .int .i64 v.w, .int .i64 v.a, .int .i64 v.b, .int .i64 v.c, .int .i64 v.d] 27) := ⟨_, rfl⟩
  have g1 : X1.heap.size = w.heap.size + 1 := by rw [hX1]; simp
  have x0 : X1.cell? ⟨w.heap.size, 0, none⟩ = some (.int .i64 v.x) := by rw [hX1]; simp [go_sem]
  have x1 : X1.cell? ⟨w.heap.size, 1, none⟩ = some (.int .i64 v.y) := by rw [hX1]; simp [go_sem]
  have x2 : X1.cell? ⟨w.heap.size, 2, none⟩ = some (.int .i64 v.z) := by rw [hX1]; simp [go_sem]
  have x3 : X1.cell? ⟨w.heap.size, 3, none⟩ = some (.int .i64 v.w) := by rw [hX1]; simp [go_sem]
  have x4 : X1.cell? ⟨w.heap.size, 4, none⟩ = some (.int .i64 v.a) := by rw [hX1]; simp [go_sem]
  have x5 : X1.cell? ⟨w.heap.size, 5, none⟩ = some (.int .i64 v.b) := by rw [hX1]; simp [go_sem]
  have x6 : X1.cell? ⟨w.heap.size, 6, none⟩ = some (.int .i64 v.c) := by rw [hX1]; simp [go_sem]
  have x7 : X1.cell? ⟨w.heap.size, 7, none⟩ = some (.int .i64 v.d) := by rw [hX1]; simp [go_sem]
  have BW := Lib.hid (show Below w.heap.size w X1 by rw [hX1]; exact (Below.refl _ _).alloc (Nat.le_refl _) _)
  rw [← hX1]
  obtain ⟨Y0, hY0⟩ : ∃ Y0, Y0 = World.drew (X1.alloc (Obj.cells #[.int .i64 0, .int .i64 0, .int .i64 0, .int .i64 0, .int .i64 0, .int .i64 0, .int .i64 0] 30)) := ⟨_, rfl⟩
  have B0 := Lib.hid (show Below X1.heap.size X1 Y0 by rw [hY0]; exact ((Below.refl _ _).alloc (Nat.le_refl _) _).drew)
  have r0 := Lib.hid (show Y0.heap[w.heap.size + 1]? = some (.cells #[.int .i64 0, .int .i64 0, .int .i64 0, .int .i64 0, .int .i64 0, .int .i64 0, .int .i64 0] 30 (0, 0)) by rw [hY0, ← g1]; exact heap_alloc_new _ _)
  refine wp_region_held_drew (S := fun w' => ∃ x : Grow X1, w' = x.w) (by kernel_rfl) ⟨⟨Y0, B0.out⟩, hY0.symm⟩ (fun hS => ?_)
  rw [← hY0] at hS ⊢
  have y0 : ∀ x : Grow X1, x.w.cell? ⟨w.heap.size, 0, none⟩ = some (.int .i64 v.x) := fun x => x.cell x0
  have y1 : ∀ x : Grow X1, x.w.cell? ⟨w.heap.size, 1, none⟩ = some (.int .i64 v.y) := fun x => x.cell x1
  have y2 : ∀ x : Grow X1, x.w.cell? ⟨w.heap.size, 2, none⟩ = some (.int .i64 v.z) := fun x => x.cell x2
  have y3 : ∀ x : Grow X1, x.w.cell? ⟨w.heap.size, 3, none⟩ = some (.int .i64 v.w) := fun x => x.cell x3
  have y4 : ∀ x : Grow X1, x.w.cell? ⟨w.heap.size, 4, none⟩ = some (.int .i64 v.a) := fun x => x.cell x4
  have y5 : ∀ x : Grow X1, x.w.cell? ⟨w.heap.size, 5, none⟩ = some (.int .i64 v.b) := fun x => x.cell x5
  have y6 : ∀ x : Grow X1, x.w.cell? ⟨w.heap.size, 6, none⟩ = some (.int .i64 v.c) := fun x => x.cell x6
  have y7 : ∀ x : Grow X1, x.w.cell? ⟨w.heap.size, 7, none⟩ = some (.int .i64 v.d) := fun x => x.cell x7
  have G2 := Lib.hid (Nat.le_of_eq g1)
  have G3 := Lib.hid (show w.heap.size ≤ X1.heap.size by omega)
  clear hX1 hY0 x0 x1 x2 x3 x4 x5 x6 x7 g1
  refine wpAnyH_take (i := 0) (v := (.int .i64 m)) rfl (by kernel_rfl) (by kernel_rfl) (by kernel_rfl) (fun _ _ _ h => h) (Or.inl ⟨by rfl, fun w hw => by obtain ⟨x, rfl⟩ := hw; go_simp⟩) hS ?_
  try simp only [Act.put, List.setIfInBounds_toArray, List.set_cons_zero, List.set_cons_succ, List.getElem_toArray, List.getElem_cons_zero]
  refine wpAnyH_take (i := 1) (v := (.int .i64 k)) rfl (by kernel_rfl) (by kernel_rfl) (by kernel_rfl) (fun _ _ _ h => h) (Or.inl ⟨by rfl, fun w hw => by obtain ⟨x, rfl⟩ := hw; go_simp⟩) hS ?_
  try simp only [Act.put, List.setIfInBounds_toArray, List.set_cons_zero, List.set_cons_succ, List.getElem_toArray, List.getElem_cons_zero, List.getElem_cons_succ]
  refine wpAnyH_take (i := 3) (v := (.agg #[.int .i64 v.x, .int .i64 v.y, .int .i64 v.z, .int .i64 v.w, .int .i64 v.a, .int .i64 v.b, .int .i64 v.c, .int .i64 v.d])) rfl (by kernel_rfl) (by kernel_rfl) (by kernel_rfl) (fun _ _ _ h => h) (Or.inl ⟨by rfl, fun w hw => by obtain ⟨x, rfl⟩ := hw; go_simp⟩) hS ?_
  try simp only [Act.put, List.setIfInBounds_toArray, List.set_cons_zero, List.set_cons_succ, List.getElem_toArray, List.getElem_cons_zero, List.getElem_cons_succ]
  refine wpAnyH_ready (rs := [2]) (by kernel_rfl) (by simp) ?_
  refine AllReadyH.cons rfl (fun K hK => ?_) AllReadyH.nil
  go_simp
  with_reducible refine (onto_any m k _).mono ?_
  rintro e t1 ⟨rfl, rfl⟩
  have hb := ((((Below.refl Y0.heap.size Y0).alloc (Nat.le_refl _) (Obj.cells #[.int .i64 m] 3)).alloc (by simp) (Obj.cells #[.int .i64 k] 3)).alloc (by simp; omega) (Obj.cells #[.bool (scr m k)] 4))
  have B1 := Lib.hid (bstep B0.out B0.out.size hb)
  have R1 := Lib.hid ((hb.block _ (Array.getElem?_eq_some_iff.1 r0.out).1).trans r0.out)
  have C0 := Lib.hid (show World.cell? (((Y0.alloc (Obj.cells #[.int .i64 m] 3)).alloc (Obj.cells #[.int .i64 k] 3)).alloc (Obj.cells #[.bool (scr m k)] 4)) ⟨Y0.heap.size + 2, 0, none⟩ = some (.bool (scr m k)) by simp [go_sem])
  have C1 := Lib.hid (show World.cell? (((Y0.alloc (Obj.cells #[.int .i64 m] 3)).alloc (Obj.cells #[.int .i64 k] 3)).alloc (Obj.cells #[.bool (scr m k)] 4)) ⟨Y0.heap.size, 0, none⟩ = some (.int .i64 m) by simp [go_sem])
  have C2 := Lib.hid (show World.cell? (((Y0.alloc (Obj.cells #[.int .i64 m] 3)).alloc (Obj.cells #[.int .i64 k] 3)).alloc (Obj.cells #[.bool (scr m k)] 4)) ⟨Y0.heap.size + 1, 0, none⟩ = some (.int .i64 k) by simp [go_sem])
  generalize (((Y0.alloc (Obj.cells #[.int .i64 m] 3)).alloc (Obj.cells #[.int .i64 k] 3)).alloc (Obj.cells #[.bool (scr m k)] 4)) = t1 at *
  clear hb r0
  refine hK.out _ _ ⟨⟨_, B1.out⟩, rfl⟩ (fun hS => ?_)
  clear hK K
  try simp only [Act.put, List.setIfInBounds_toArray, List.set_cons_zero, List.set_cons_succ, List.getElem_toArray, List.getElem_cons_zero, List.getElem_cons_succ]
  refine wpAnyH_ready (rs := [4]) (by kernel_rfl) (by simp) ?_
  refine AllReadyH.cons rfl (fun K hK => ?_) AllReadyH.nil
  go_simp
  with_reducible refine (put_any v m k _ _ _ _ HV.out C0.out C1.out C2.out).mono ?_
  rintro e t2 ⟨rfl, hb⟩
  have B2 := Lib.hid (bstep B1.out B1.out.size hb)
  have R2 := Lib.hid ((hb.block _ (Array.getElem?_eq_some_iff.1 R1.out).1).trans R1.out)
  clear hb R1 C0 C1 C2 B1
  refine hK.out _ _ ⟨⟨_, B2.out⟩, rfl⟩ (fun hS => ?_)
  clear hK K
  try simp only [Act.put, List.setIfInBounds_toArray, List.set_cons_zero, List.set_cons_succ, List.getElem_toArray, List.getElem_cons_zero, List.getElem_cons_succ]
  refine wpAnyH_take (i := 5) (v := (.agg #[.int .i64 (ptO m k v).x, .int .i64 (ptO m k v).y, .int .i64 (ptO m k v).z, .int .i64 (ptO m k v).a, .int .i64 (ptO m k v).b, .int .i64 (ptO m k v).c, .int .i64 (ptO m k v).d])) rfl (by kernel_rfl) (by kernel_rfl) (by kernel_rfl) (fun _ _ _ h => h) (Or.inl ⟨by rfl, fun w hw => by obtain ⟨x, rfl⟩ := hw; go_simp⟩) hS ?_
  try simp only [Act.put, List.setIfInBounds_toArray, List.set_cons_zero, List.set_cons_succ, List.getElem_toArray, List.getElem_cons_zero, List.getElem_cons_succ]
  refine wpAnyH_take (i := 6) (v := (.bool (okP m k v))) rfl (by kernel_rfl) (by kernel_rfl) (by kernel_rfl) (fun _ _ _ h => h) (Or.inl ⟨by rfl, fun w hw => by obtain ⟨x, rfl⟩ := hw; go_simp⟩) hS ?_
  try simp only [Act.put, List.setIfInBounds_toArray, List.set_cons_zero, List.set_cons_succ, List.getElem_toArray, List.getElem_cons_zero, List.getElem_cons_succ]
  obtain ⟨q0, q1, q2, q3, q4, q5, q6, f0, f1, f2, f3, f4, f5, f6⟩ := zP_cell R2.out
  refine wpAnyH_ready (rs := [7]) (by kernel_rfl) (by simp) ?_
  refine AllReadyH.cons rfl (fun K hK => ?_) AllReadyH.nil
  go_simp
  refine hK.out _ _ ⟨⟨_, ((((((B2.out.setCell G2.out _).setCell G2.out _).setCell G2.out _).setCell G2.out _).setCell G2.out _).setCell G2.out _).setCell G2.out _⟩, rfl⟩ (fun hS => ?_)
  clear hK K
  try simp only [Act.put, List.setIfInBounds_toArray, List.set_cons_zero, List.set_cons_succ, List.getElem_toArray, List.getElem_cons_zero, List.getElem_cons_succ]
  refine wpAnyH_ready (rs := [8]) (by kernel_rfl) (by simp) ?_
  refine AllReadyH.cons rfl (fun K hK => ?_) AllReadyH.nil
  go_simp
  refine hK.out _ _ ⟨⟨_, ((((((B2.out.setCell G2.out _).setCell G2.out _).setCell G2.out _).setCell G2.out _).setCell G2.out _).setCell G2.out _).setCell G2.out _⟩, rfl⟩ (fun hS => ?_)
  clear hK K hS
  try simp only [Act.put, List.setIfInBounds_toArray, List.set_cons_zero, List.set_cons_succ, List.getElem_toArray, List.getElem_cons_zero, List.getElem_cons_succ]
  refine wpAnyH_done (by kernel_rfl) ?_ _
  go_wp2
  refine bodyPost_ret (v := .tuple #[.agg #[.int .i64 (ptO m k v).x, .int .i64 (ptO m k v).y, .int .i64 (ptO m k v).z, .int .i64 (ptO m k v).a, .int .i64 (ptO m k v).b, .int .i64 (ptO m k v).c, .int .i64 (ptO m k v).d], .bool (okP m k v)]) (by simp [results, Try.results11, go_sem, *]) rfl ⟨rfl, ?_⟩
  exact bstep BW.out G3.out (((((((B2.out.setCell G2.out _).setCell G2.out _).setCell G2.out _).setCell G2.out _).setCell G2.out _).setCell G2.out _).setCell G2.out _)
end Go.Proofs.Ythehpfepklmoiaa
