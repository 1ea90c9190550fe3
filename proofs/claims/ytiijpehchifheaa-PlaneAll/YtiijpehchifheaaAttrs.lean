/-
  The contract of plane.Attrs.
-/
import Derived.Test.YtiijpehchifheaaDepth
namespace Go.Proofs.Ytiijpehchifheaa
open Go.RowKit
attribute [local go_sem ↓] Go.wp_at_zero Go.wp_at_succ

/-- A block of four numbers. -/
def fB (p q r s : Int) : Obj := .cells #[.int .i64 p, .int .i64 q, .int .i64 r, .int .i64 s] 22 (0, 0)
section
variable {w w' : World} {g : Nat} {p q r s : Int}
theorem fB_cell (h : w.heap[g]? = some (fB p q r s)) : w.cell? ⟨g, 0, none⟩ = some (.int .i64 p) ∧ w.cell? ⟨g, 1, none⟩ = some (.int .i64 q) ∧ w.cell? ⟨g, 2, none⟩ = some (.int .i64 r) ∧ w.cell? ⟨g, 3, none⟩ = some (.int .i64 s) := by
  unfold fB at h
  simp [World.cell?, h]
theorem fB_free (h : w.heap[g]? = some (fB p q r s)) (o : Nat) : w.frozen? ⟨g, o, none⟩ = false := by
  unfold fB at h
  simp [World.frozen?, h]
theorem fB_lt (h : w.heap[g]? = some (fB p q r s)) : g < w.heap.size := World.block_lt_of_cell? _ _ (fB_cell h).1
theorem fB_grow (h : w.heap[g]? = some (fB p q r s)) (k : Below w.heap.size w w') : w'.heap[g]? = some (fB p q r s) := (k.block _ (fB_lt h)).trans h
theorem fB_set0 (v : Int) (h : w.heap[g]? = some (fB p q r s)) : (w.setCell ⟨g, 0, none⟩ (.int .i64 v)).heap[g]? = some (fB v q r s) := (heap_setCell_same w g 0 _ _ (.int .i64 v) h).trans (by kernel_rfl)
theorem fB_set1 (v : Int) (h : w.heap[g]? = some (fB p q r s)) : (w.setCell ⟨g, 1, none⟩ (.int .i64 v)).heap[g]? = some (fB p v r s) := (heap_setCell_same w g 1 _ _ (.int .i64 v) h).trans (by kernel_rfl)
theorem fB_set2 (v : Int) (h : w.heap[g]? = some (fB p q r s)) : (w.setCell ⟨g, 2, none⟩ (.int .i64 v)).heap[g]? = some (fB p q v s) := (heap_setCell_same w g 2 _ _ (.int .i64 v) h).trans (by kernel_rfl)
theorem fB_set3 (v : Int) (h : w.heap[g]? = some (fB p q r s)) : (w.setCell ⟨g, 3, none⟩ (.int .i64 v)).heap[g]? = some (fB p q r v) := (heap_setCell_same w g 3 _ _ (.int .i64 v) h).trans (by kernel_rfl)
end

set_option maxRecDepth 100000 in
set_option maxHeartbeats 4000000 in
theorem attrs_none (a b c : P) (x y X Y : Int)
    (C1 : Hid (∀ w, Calls Try.prog 28 #[.int .i64 x] w fun e w' => e = .returned (.int .i64 X) ∧ w = w'))
    (C2 : Hid (∀ w, Calls Try.prog 28 #[.int .i64 y] w fun e w' => e = .returned (.int .i64 Y) ∧ w = w'))
    (CO : Hid (∀ w, Calls Try.prog 23 #[.agg #[.int .i64 a.x, .int .i64 a.y, .int .i64 a.z, .int .i64 a.a, .int .i64 a.b, .int .i64 a.c, .int .i64 a.d, .int .i64 b.x, .int .i64 b.y, .int .i64 b.z, .int .i64 b.a, .int .i64 b.b, .int .i64 b.c, .int .i64 b.d, .int .i64 c.x, .int .i64 c.y, .int .i64 c.z, .int .i64 c.a, .int .i64 c.b, .int .i64 c.c, .int .i64 c.d], .int .i64 X, .int .i64 Y] w fun e w' => e = .returned (.func (.func 31) #[] #[]) ∧ Below w.heap.size w w')) (w : World) :
    Calls Try.prog 16 #[.agg #[.int .i64 a.x, .int .i64 a.y, .int .i64 a.z, .int .i64 a.a, .int .i64 a.b, .int .i64 a.c, .int .i64 a.d, .int .i64 b.x, .int .i64 b.y, .int .i64 b.z, .int .i64 b.a, .int .i64 b.b, .int .i64 b.c, .int .i64 b.d, .int .i64 c.x, .int .i64 c.y, .int .i64 c.z, .int .i64 c.a, .int .i64 c.b, .int .i64 c.c, .int .i64 c.d], .int .i64 x, .int .i64 y] w fun e w' => e = .returned (.agg #[.int .i64 0, .int .i64 0, .int .i64 0, .int .i64 0]) ∧ Below w.heap.size w w' := by
  go_enter Try.func16, Try.ntmps16
  go_wp2_with fail
  obtain ⟨X1, hX1⟩ : ∃ X1, X1 = (w.alloc (Obj.cells #[.int .i64 a.x, .int .i64 a.y, .int .i64 a.z, .int .i64 a.a, .int .i64 a.b, .int .i64 a.c, .int .i64 a.d, .int .i64 b.x, .int .i64 b.y, .int .i64 b.z, .int .i64 b.a, .int .i64 b.b, .int .i64 b.c, .int .i64 b.d, .int .i64 c.x, .int .i64 c.y, .int .i64 c.z, .int .i64 c.a, .int .i64 c.b, .int .i64 c.c, .int .i64 c.d] 25)).alloc (Obj.cells #[.int .i64 0, .int .i64 0, .int .i64 0, .int .i64 0] 22) := ⟨_, rfl⟩
  rw [← hX1]
  have BW := Lib.hid (show Below w.heap.size w X1 by rw [hX1]; exact ((Below.refl _ _).alloc (Nat.le_refl _) _).alloc (by simp) _)
  have T1 := Lib.hid (show X1.heap[w.heap.size]? = some (tB a b c) by rw [hX1]; exact (new_two _ _).1)
  have R1 := Lib.hid (show X1.heap[w.heap.size + 1]? = some (fB 0 0 0 0) by rw [hX1]; exact (new_two _ _).2)
  clear hX1
  obtain ⟨Y0, hY0⟩ : ∃ Y0, Y0 = World.drew X1 := ⟨_, rfl⟩
  have B0 := Lib.hid (show Below X1.heap.size X1 Y0 by rw [hY0]; exact (Below.refl _ _).drew)
  refine wp_region_held_drew (S := fun w' => ∃ x : Grow X1, w' = x.w) (by kernel_rfl) ⟨⟨Y0, B0.out⟩, hY0.symm⟩ (fun hS => ?_)
  rw [← hY0] at hS ⊢
  clear hY0
  refine wpAnyH_take (i := 0) (v := .agg #[.int .i64 a.x, .int .i64 a.y, .int .i64 a.z, .int .i64 a.a, .int .i64 a.b, .int .i64 a.c, .int .i64 a.d, .int .i64 b.x, .int .i64 b.y, .int .i64 b.z, .int .i64 b.a, .int .i64 b.b, .int .i64 b.c, .int .i64 b.d, .int .i64 c.x, .int .i64 c.y, .int .i64 c.z, .int .i64 c.a, .int .i64 c.b, .int .i64 c.c, .int .i64 c.d]) rfl (by kernel_rfl) (by kernel_rfl) (by kernel_rfl) (fun _ _ _ h => h) (yields_loadT _ rfl rfl rfl T1.out) hS ?_
  try simp only [Act.put, List.setIfInBounds_toArray, List.set_cons_zero, List.set_cons_succ, List.getElem_toArray, List.getElem_cons_zero]
  refine wpAnyH_take (i := 1) (v := (.int .i64 x)) rfl (by kernel_rfl) (by kernel_rfl) (by kernel_rfl) (fun _ _ _ h => h) (Or.inl ⟨by rfl, fun w hw => by obtain ⟨x, rfl⟩ := hw; go_simp⟩) hS ?_
  try simp only [Act.put, List.setIfInBounds_toArray, List.set_cons_zero, List.set_cons_succ, List.getElem_toArray, List.getElem_cons_zero, List.getElem_cons_succ]
  refine wpAnyH_take (i := 3) (v := (.int .i64 y)) rfl (by kernel_rfl) (by kernel_rfl) (by kernel_rfl) (fun _ _ _ h => h) (Or.inl ⟨by rfl, fun w hw => by obtain ⟨x, rfl⟩ := hw; go_simp⟩) hS ?_
  try simp only [Act.put, List.setIfInBounds_toArray, List.set_cons_zero, List.set_cons_succ, List.getElem_toArray, List.getElem_cons_zero, List.getElem_cons_succ]
  refine wpAnyH_ready (rs := [2]) (by kernel_rfl) (by simp) ?_
  refine AllReadyH.cons rfl (fun K hK => ?_) AllReadyH.nil
  go_simp
  with_reducible refine (C1.out _).mono ?_
  rintro e t ⟨rfl, rfl⟩
  refine hK.out _ _ ⟨⟨_, B0.out⟩, rfl⟩ (fun hS => ?_)
  clear hK K
  try simp only [Act.put, List.setIfInBounds_toArray, List.set_cons_zero, List.set_cons_succ, List.getElem_toArray, List.getElem_cons_zero, List.getElem_cons_succ]
  refine wpAnyH_ready (rs := [4]) (by kernel_rfl) (by simp) ?_
  refine AllReadyH.cons rfl (fun K hK => ?_) AllReadyH.nil
  go_simp
  with_reducible refine (C2.out _).mono ?_
  rintro e t ⟨rfl, rfl⟩
  refine hK.out _ _ ⟨⟨_, B0.out⟩, rfl⟩ (fun hS => ?_)
  clear hK K
  try simp only [Act.put, List.setIfInBounds_toArray, List.set_cons_zero, List.set_cons_succ, List.getElem_toArray, List.getElem_cons_zero, List.getElem_cons_succ]
  refine wpAnyH_ready (rs := [5]) (by kernel_rfl) (by simp) ?_
  refine AllReadyH.cons rfl (fun K hK => ?_) AllReadyH.nil
  go_simp
  with_reducible refine (CO.out _).mono ?_
  rintro e t3 ⟨rfl, hb⟩
  have B1 := Lib.hid (bstep B0.out B0.out.size hb)
  clear hb
  refine hK.out _ _ ⟨⟨_, B1.out⟩, rfl⟩ (fun hS => ?_)
  clear hK K
  try simp only [Act.put, List.setIfInBounds_toArray, List.set_cons_zero, List.set_cons_succ, List.getElem_toArray, List.getElem_cons_zero, List.getElem_cons_succ]
  refine wpAnyH_ready (rs := [6]) (by kernel_rfl) (by simp) ?_
  refine AllReadyH.cons rfl (fun K hK => ?_) AllReadyH.nil
  go_simp
  refine hK.out _ _ ⟨⟨_, B1.out⟩, rfl⟩ (fun hS => ?_)
  clear hK K hS
  try simp only [Act.put, List.setIfInBounds_toArray, List.set_cons_zero, List.set_cons_succ, List.getElem_toArray, List.getElem_cons_zero, List.getElem_cons_succ]
  refine wpAnyH_done (by kernel_rfl) ?_ _
  have T3 := Lib.hid (tB_grow T1.out B1.out)
  have R3 := Lib.hid (fB_grow R1.out B1.out)
  have BT := Lib.hid (bstep BW.out BW.out.size B1.out)
  clear T1 R1 B0 B1 BW
  go_wp2_with fail
  refine wp_loop_rounds 5 ?_
  rw [rounds_succ]
  go_wp2_with fail
  obtain ⟨U0, hU⟩ : ∃ U, U = t3.alloc (Obj.cells #[.int .i64 0, .int .i64 0, .int .i64 0, .int .i64 0] 22) := ⟨_, rfl⟩
  rw [← hU]
  have BU0 := Lib.hid (show Below t3.heap.size t3 U0 by rw [hU]; exact (Below.refl _ _).alloc (Nat.le_refl _) _)
  have RU0 := Lib.hid (show U0.heap[t3.heap.size]? = some (fB 0 0 0 0) by rw [hU]; exact new_at rfl)
  clear hU
  obtain ⟨⟨x0, x1, x2, x3, x4, x5, x6⟩, ⟨x7, x8, x9, x10, x11, x12, x13⟩, ⟨x14, x15, x16, x17, x18, x19, x20⟩⟩ := tB_cell T3.out
  have y0 : ∀ x : Grow t3, x.w.cell? ⟨w.heap.size, 0, none⟩ = some (.int .i64 a.x) := fun x => x.cell x0
  have y1 : ∀ x : Grow t3, x.w.cell? ⟨w.heap.size, 1, none⟩ = some (.int .i64 a.y) := fun x => x.cell x1
  have y2 : ∀ x : Grow t3, x.w.cell? ⟨w.heap.size, 2, none⟩ = some (.int .i64 a.z) := fun x => x.cell x2
  have y3 : ∀ x : Grow t3, x.w.cell? ⟨w.heap.size, 3, none⟩ = some (.int .i64 a.a) := fun x => x.cell x3
  have y4 : ∀ x : Grow t3, x.w.cell? ⟨w.heap.size, 4, none⟩ = some (.int .i64 a.b) := fun x => x.cell x4
  have y5 : ∀ x : Grow t3, x.w.cell? ⟨w.heap.size, 5, none⟩ = some (.int .i64 a.c) := fun x => x.cell x5
  have y6 : ∀ x : Grow t3, x.w.cell? ⟨w.heap.size, 6, none⟩ = some (.int .i64 a.d) := fun x => x.cell x6
  have y7 : ∀ x : Grow t3, x.w.cell? ⟨w.heap.size, 7, none⟩ = some (.int .i64 b.x) := fun x => x.cell x7
  have y8 : ∀ x : Grow t3, x.w.cell? ⟨w.heap.size, 8, none⟩ = some (.int .i64 b.y) := fun x => x.cell x8
  have y9 : ∀ x : Grow t3, x.w.cell? ⟨w.heap.size, 9, none⟩ = some (.int .i64 b.z) := fun x => x.cell x9
  have y10 : ∀ x : Grow t3, x.w.cell? ⟨w.heap.size, 10, none⟩ = some (.int .i64 b.a) := fun x => x.cell x10
  have y11 : ∀ x : Grow t3, x.w.cell? ⟨w.heap.size, 11, none⟩ = some (.int .i64 b.b) := fun x => x.cell x11
  have y12 : ∀ x : Grow t3, x.w.cell? ⟨w.heap.size, 12, none⟩ = some (.int .i64 b.c) := fun x => x.cell x12
  have y13 : ∀ x : Grow t3, x.w.cell? ⟨w.heap.size, 13, none⟩ = some (.int .i64 b.d) := fun x => x.cell x13
  have y14 : ∀ x : Grow t3, x.w.cell? ⟨w.heap.size, 14, none⟩ = some (.int .i64 c.x) := fun x => x.cell x14
  have y15 : ∀ x : Grow t3, x.w.cell? ⟨w.heap.size, 15, none⟩ = some (.int .i64 c.y) := fun x => x.cell x15
  have y16 : ∀ x : Grow t3, x.w.cell? ⟨w.heap.size, 16, none⟩ = some (.int .i64 c.z) := fun x => x.cell x16
  have y17 : ∀ x : Grow t3, x.w.cell? ⟨w.heap.size, 17, none⟩ = some (.int .i64 c.a) := fun x => x.cell x17
  have y18 : ∀ x : Grow t3, x.w.cell? ⟨w.heap.size, 18, none⟩ = some (.int .i64 c.b) := fun x => x.cell x18
  have y19 : ∀ x : Grow t3, x.w.cell? ⟨w.heap.size, 19, none⟩ = some (.int .i64 c.c) := fun x => x.cell x19
  have y20 : ∀ x : Grow t3, x.w.cell? ⟨w.heap.size, 20, none⟩ = some (.int .i64 c.d) := fun x => x.cell x20
  have HG := Lib.hid (Nat.le_refl t3.heap.size)
  obtain ⟨gl, hgl⟩ : ∃ g, g = t3.heap.size := ⟨_, rfl⟩
  rw [← hgl] at RU0 ⊢
  have HL := Lib.hid hgl
  clear hgl x0 x1 x2 x3 x4 x5 x6 x7 x8 x9 x10 x11 x12 x13 x14 x15 x16 x17 x18 x19 x20
  obtain ⟨V0, hV⟩ : ∃ Y, Y = World.drew U0 := ⟨_, rfl⟩
  have BV0 := Lib.hid (show Below t3.heap.size t3 V0 by rw [hV]; exact BU0.out.drew)
  have RV0 := Lib.hid (show V0.heap[gl]? = some (fB 0 0 0 0) by rw [hV]; exact RU0.out)
  refine wp_region_held_drew (S := fun w' => ∃ x : Grow t3, w' = x.w) (by kernel_rfl) ⟨⟨V0, BV0.out⟩, hV.symm⟩ (fun hS => ?_)
  rw [← hV] at hS ⊢
  clear hV BU0 RU0
  refine wpAnyH_take (i := 0) (v := (.int .i64 0)) rfl (by kernel_rfl) (by kernel_rfl) (by kernel_rfl) (fun _ _ _ h => h) (Or.inl ⟨by rfl, fun w hw => by obtain ⟨x, rfl⟩ := hw; go_simp⟩) hS ?_
  try simp only [Act.put, List.setIfInBounds_toArray, List.set_cons_zero, List.set_cons_succ, List.getElem_toArray, List.getElem_cons_zero]
  refine wpAnyH_take (i := 1) (v := (.func (.func 31) #[] #[])) rfl (by kernel_rfl) (by kernel_rfl) (by kernel_rfl) (fun _ _ _ h => h) (Or.inl ⟨by rfl, fun w hw => by obtain ⟨x, rfl⟩ := hw; go_simp⟩) hS ?_
  try simp only [Act.put, List.setIfInBounds_toArray, List.set_cons_zero, List.set_cons_succ, List.getElem_toArray, List.getElem_cons_zero, List.getElem_cons_succ]
  refine wpAnyH_take (i := 2) (v := (.int .i64 0)) rfl (by kernel_rfl) (by kernel_rfl) (by kernel_rfl) (fun _ _ _ h => h) (Or.inl ⟨by rfl, fun w hw => by obtain ⟨x, rfl⟩ := hw; go_simp⟩) hS ?_
  try simp only [Act.put, List.setIfInBounds_toArray, List.set_cons_zero, List.set_cons_succ, List.getElem_toArray, List.getElem_cons_zero, List.getElem_cons_succ]
  refine wpAnyH_take (i := 3) (v := (.pointer (some ⟨w.heap.size, 0, none⟩))) rfl (by kernel_rfl) (by kernel_rfl) (by kernel_rfl) (fun _ _ _ h => h) (Or.inl ⟨by rfl, fun w hw => by obtain ⟨x, rfl⟩ := hw; go_simp⟩) hS ?_
  try simp only [Act.put, List.setIfInBounds_toArray, List.set_cons_zero, List.set_cons_succ, List.getElem_toArray, List.getElem_cons_zero, List.getElem_cons_succ]
  refine wpAnyH_take (i := 4) (v := (.pointer (some ⟨w.heap.size, 3, none⟩))) rfl (by kernel_rfl) (by kernel_rfl) (by kernel_rfl) (fun _ _ _ h => h) (Or.inl ⟨by rfl, fun w hw => by obtain ⟨x, rfl⟩ := hw; go_simp⟩) hS ?_
  try simp only [Act.put, List.setIfInBounds_toArray, List.set_cons_zero, List.set_cons_succ, List.getElem_toArray, List.getElem_cons_zero, List.getElem_cons_succ]
  refine wpAnyH_take (i := 5) (v := (.pointer (some ⟨w.heap.size, 3, none⟩))) rfl (by kernel_rfl) (by kernel_rfl) (by kernel_rfl) (fun _ _ _ h => h) (Or.inl ⟨by rfl, fun w hw => by obtain ⟨x, rfl⟩ := hw; go_simp⟩) hS ?_
  try simp only [Act.put, List.setIfInBounds_toArray, List.set_cons_zero, List.set_cons_succ, List.getElem_toArray, List.getElem_cons_zero, List.getElem_cons_succ]
  refine wpAnyH_take (i := 6) (v := (.int .i64 a.a)) rfl (by kernel_rfl) (by kernel_rfl) (by kernel_rfl) (fun _ _ _ h => h) (Or.inl ⟨by rfl, fun w hw => by obtain ⟨x, rfl⟩ := hw; go_simp⟩) hS ?_
  try simp only [Act.put, List.setIfInBounds_toArray, List.set_cons_zero, List.set_cons_succ, List.getElem_toArray, List.getElem_cons_zero, List.getElem_cons_succ]
  refine wpAnyH_take (i := 7) (v := (.int .i64 0)) rfl (by kernel_rfl) (by kernel_rfl) (by kernel_rfl) (fun _ _ _ h => h) (Or.inl ⟨by rfl, fun w hw => by obtain ⟨x, rfl⟩ := hw; go_simp⟩) hS ?_
  try simp only [Act.put, List.setIfInBounds_toArray, List.set_cons_zero, List.set_cons_succ, List.getElem_toArray, List.getElem_cons_zero, List.getElem_cons_succ]
  refine wpAnyH_take (i := 8) (v := (.pointer (some ⟨w.heap.size, 7, none⟩))) rfl (by kernel_rfl) (by kernel_rfl) (by kernel_rfl) (fun _ _ _ h => h) (Or.inl ⟨by rfl, fun w hw => by obtain ⟨x, rfl⟩ := hw; go_simp⟩) hS ?_
  try simp only [Act.put, List.setIfInBounds_toArray, List.set_cons_zero, List.set_cons_succ, List.getElem_toArray, List.getElem_cons_zero, List.getElem_cons_succ]
  refine wpAnyH_take (i := 9) (v := (.pointer (some ⟨w.heap.size, 10, none⟩))) rfl (by kernel_rfl) (by kernel_rfl) (by kernel_rfl) (fun _ _ _ h => h) (Or.inl ⟨by rfl, fun w hw => by obtain ⟨x, rfl⟩ := hw; go_simp⟩) hS ?_
  try simp only [Act.put, List.setIfInBounds_toArray, List.set_cons_zero, List.set_cons_succ, List.getElem_toArray, List.getElem_cons_zero, List.getElem_cons_succ]
  refine wpAnyH_take (i := 10) (v := (.pointer (some ⟨w.heap.size, 10, none⟩))) rfl (by kernel_rfl) (by kernel_rfl) (by kernel_rfl) (fun _ _ _ h => h) (Or.inl ⟨by rfl, fun w hw => by obtain ⟨x, rfl⟩ := hw; go_simp⟩) hS ?_
  try simp only [Act.put, List.setIfInBounds_toArray, List.set_cons_zero, List.set_cons_succ, List.getElem_toArray, List.getElem_cons_zero, List.getElem_cons_succ]
  refine wpAnyH_take (i := 11) (v := (.int .i64 b.a)) rfl (by kernel_rfl) (by kernel_rfl) (by kernel_rfl) (fun _ _ _ h => h) (Or.inl ⟨by rfl, fun w hw => by obtain ⟨x, rfl⟩ := hw; go_simp⟩) hS ?_
  try simp only [Act.put, List.setIfInBounds_toArray, List.set_cons_zero, List.set_cons_succ, List.getElem_toArray, List.getElem_cons_zero, List.getElem_cons_succ]
  refine wpAnyH_take (i := 12) (v := (.int .i64 0)) rfl (by kernel_rfl) (by kernel_rfl) (by kernel_rfl) (fun _ _ _ h => h) (Or.inl ⟨by rfl, fun w hw => by obtain ⟨x, rfl⟩ := hw; go_simp⟩) hS ?_
  try simp only [Act.put, List.setIfInBounds_toArray, List.set_cons_zero, List.set_cons_succ, List.getElem_toArray, List.getElem_cons_zero, List.getElem_cons_succ]
  refine wpAnyH_take (i := 13) (v := (.pointer (some ⟨w.heap.size, 14, none⟩))) rfl (by kernel_rfl) (by kernel_rfl) (by kernel_rfl) (fun _ _ _ h => h) (Or.inl ⟨by rfl, fun w hw => by obtain ⟨x, rfl⟩ := hw; go_simp⟩) hS ?_
  try simp only [Act.put, List.setIfInBounds_toArray, List.set_cons_zero, List.set_cons_succ, List.getElem_toArray, List.getElem_cons_zero, List.getElem_cons_succ]
  refine wpAnyH_take (i := 14) (v := (.pointer (some ⟨w.heap.size, 17, none⟩))) rfl (by kernel_rfl) (by kernel_rfl) (by kernel_rfl) (fun _ _ _ h => h) (Or.inl ⟨by rfl, fun w hw => by obtain ⟨x, rfl⟩ := hw; go_simp⟩) hS ?_
  try simp only [Act.put, List.setIfInBounds_toArray, List.set_cons_zero, List.set_cons_succ, List.getElem_toArray, List.getElem_cons_zero, List.getElem_cons_succ]
  refine wpAnyH_take (i := 15) (v := (.pointer (some ⟨w.heap.size, 17, none⟩))) rfl (by kernel_rfl) (by kernel_rfl) (by kernel_rfl) (fun _ _ _ h => h) (Or.inl ⟨by rfl, fun w hw => by obtain ⟨x, rfl⟩ := hw; go_simp⟩) hS ?_
  try simp only [Act.put, List.setIfInBounds_toArray, List.set_cons_zero, List.set_cons_succ, List.getElem_toArray, List.getElem_cons_zero, List.getElem_cons_succ]
  refine wpAnyH_take (i := 16) (v := (.int .i64 c.a)) rfl (by kernel_rfl) (by kernel_rfl) (by kernel_rfl) (fun _ _ _ h => h) (Or.inl ⟨by rfl, fun w hw => by obtain ⟨x, rfl⟩ := hw; go_simp⟩) hS ?_
  try simp only [Act.put, List.setIfInBounds_toArray, List.set_cons_zero, List.set_cons_succ, List.getElem_toArray, List.getElem_cons_zero, List.getElem_cons_succ]
  refine wpAnyH_take (i := 17) (v := (.agg #[.int .i64 a.a, .int .i64 b.a, .int .i64 c.a])) rfl (by kernel_rfl) (by kernel_rfl) (by kernel_rfl) (fun _ _ _ h => h) (Or.inl ⟨by rfl, fun w hw => by obtain ⟨x, rfl⟩ := hw; go_simp⟩) hS ?_
  try simp only [Act.put, List.setIfInBounds_toArray, List.set_cons_zero, List.set_cons_succ, List.getElem_toArray, List.getElem_cons_zero, List.getElem_cons_succ]
  refine wpAnyH_ready (rs := [18]) (by kernel_rfl) (by simp) ?_
  refine AllReadyH.cons rfl (fun K hK => ?_) AllReadyH.nil
  go_simp
  with_reducible refine (over1_any _ _ _ _).mono ?_
  rintro e S0 ⟨rfl, hb⟩
  have BS0 := Lib.hid (bstep BV0.out BV0.out.size hb)
  have RS0 := Lib.hid (fB_grow RV0.out hb)
  clear hb RV0 BV0
  refine hK.out _ _ ⟨⟨_, BS0.out⟩, rfl⟩ (fun hS => ?_)
  clear hK K
  try simp only [Act.put, List.setIfInBounds_toArray, List.set_cons_zero, List.set_cons_succ, List.getElem_toArray, List.getElem_cons_zero, List.getElem_cons_succ]
  refine wpAnyH_take (i := 19) (v := (.pointer (some ⟨gl, 0, none⟩))) rfl (by kernel_rfl) (by kernel_rfl) (by kernel_rfl) (fun _ _ _ h => h) (Or.inl ⟨by rfl, fun w hw => by obtain ⟨x, rfl⟩ := hw; go_simp⟩) hS ?_
  try simp only [Act.put, List.setIfInBounds_toArray, List.set_cons_zero, List.set_cons_succ, List.getElem_toArray, List.getElem_cons_zero, List.getElem_cons_succ]
  obtain ⟨q0, q1, q2, q3⟩ := fB_cell RS0.out
  have f0 := fB_free RS0.out 0
  refine wpAnyH_ready (rs := [20]) (by kernel_rfl) (by simp) ?_
  refine AllReadyH.cons rfl (fun K hK => ?_) AllReadyH.nil
  go_simp
  have BU1 := Lib.hid (show Below t3.heap.size t3 (S0.setCell ⟨gl, 0, none⟩ (.int .i64 0)) from BS0.out.setCell (by rw [HL.out]; exact HG.out) _)
  have RU1 := Lib.hid (fB_set0 0 RS0.out)
  refine hK.out _ _ ⟨⟨_, BU1.out⟩, rfl⟩ (fun hS => ?_)
  clear hK K hS q0 q1 q2 q3 f0 BS0 RS0
  try simp only [Act.put, List.setIfInBounds_toArray, List.set_cons_zero, List.set_cons_succ, List.getElem_toArray, List.getElem_cons_zero, List.getElem_cons_succ]
  refine wpAnyH_done (by kernel_rfl) ?_ _
  generalize S0.setCell ⟨gl, 0, none⟩ (.int .i64 0) = U1 at *
  go_wp2_with fail
  rw [rounds_succ]
  go_wp2_with fail
  obtain ⟨V1, hV⟩ : ∃ Y, Y = World.drew U1 := ⟨_, rfl⟩
  have BV1 := Lib.hid (show Below t3.heap.size t3 V1 by rw [hV]; exact BU1.out.drew)
  have RV1 := Lib.hid (show V1.heap[gl]? = some (fB 0 0 0 0) by rw [hV]; exact RU1.out)
  refine wp_region_held_drew (S := fun w' => ∃ x : Grow t3, w' = x.w) (by kernel_rfl) ⟨⟨V1, BV1.out⟩, hV.symm⟩ (fun hS => ?_)
  rw [← hV] at hS ⊢
  clear hV BU1 RU1
  refine wpAnyH_take (i := 0) (v := (.int .i64 1)) rfl (by kernel_rfl) (by kernel_rfl) (by kernel_rfl) (fun _ _ _ h => h) (Or.inl ⟨by rfl, fun w hw => by obtain ⟨x, rfl⟩ := hw; go_simp⟩) hS ?_
  try simp only [Act.put, List.setIfInBounds_toArray, List.set_cons_zero, List.set_cons_succ, List.getElem_toArray, List.getElem_cons_zero]
  refine wpAnyH_take (i := 1) (v := (.func (.func 31) #[] #[])) rfl (by kernel_rfl) (by kernel_rfl) (by kernel_rfl) (fun _ _ _ h => h) (Or.inl ⟨by rfl, fun w hw => by obtain ⟨x, rfl⟩ := hw; go_simp⟩) hS ?_
  try simp only [Act.put, List.setIfInBounds_toArray, List.set_cons_zero, List.set_cons_succ, List.getElem_toArray, List.getElem_cons_zero, List.getElem_cons_succ]
  refine wpAnyH_take (i := 2) (v := (.int .i64 1)) rfl (by kernel_rfl) (by kernel_rfl) (by kernel_rfl) (fun _ _ _ h => h) (Or.inl ⟨by rfl, fun w hw => by obtain ⟨x, rfl⟩ := hw; go_simp⟩) hS ?_
  try simp only [Act.put, List.setIfInBounds_toArray, List.set_cons_zero, List.set_cons_succ, List.getElem_toArray, List.getElem_cons_zero, List.getElem_cons_succ]
  refine wpAnyH_take (i := 3) (v := (.pointer (some ⟨w.heap.size, 0, none⟩))) rfl (by kernel_rfl) (by kernel_rfl) (by kernel_rfl) (fun _ _ _ h => h) (Or.inl ⟨by rfl, fun w hw => by obtain ⟨x, rfl⟩ := hw; go_simp⟩) hS ?_
  try simp only [Act.put, List.setIfInBounds_toArray, List.set_cons_zero, List.set_cons_succ, List.getElem_toArray, List.getElem_cons_zero, List.getElem_cons_succ]
  refine wpAnyH_take (i := 4) (v := (.pointer (some ⟨w.heap.size, 3, none⟩))) rfl (by kernel_rfl) (by kernel_rfl) (by kernel_rfl) (fun _ _ _ h => h) (Or.inl ⟨by rfl, fun w hw => by obtain ⟨x, rfl⟩ := hw; go_simp⟩) hS ?_
  try simp only [Act.put, List.setIfInBounds_toArray, List.set_cons_zero, List.set_cons_succ, List.getElem_toArray, List.getElem_cons_zero, List.getElem_cons_succ]
  refine wpAnyH_take (i := 5) (v := (.pointer (some ⟨w.heap.size, 4, none⟩))) rfl (by kernel_rfl) (by kernel_rfl) (by kernel_rfl) (fun _ _ _ h => h) (Or.inl ⟨by rfl, fun w hw => by obtain ⟨x, rfl⟩ := hw; go_simp⟩) hS ?_
  try simp only [Act.put, List.setIfInBounds_toArray, List.set_cons_zero, List.set_cons_succ, List.getElem_toArray, List.getElem_cons_zero, List.getElem_cons_succ]
  refine wpAnyH_take (i := 6) (v := (.int .i64 a.b)) rfl (by kernel_rfl) (by kernel_rfl) (by kernel_rfl) (fun _ _ _ h => h) (Or.inl ⟨by rfl, fun w hw => by obtain ⟨x, rfl⟩ := hw; go_simp⟩) hS ?_
  try simp only [Act.put, List.setIfInBounds_toArray, List.set_cons_zero, List.set_cons_succ, List.getElem_toArray, List.getElem_cons_zero, List.getElem_cons_succ]
  refine wpAnyH_take (i := 7) (v := (.int .i64 1)) rfl (by kernel_rfl) (by kernel_rfl) (by kernel_rfl) (fun _ _ _ h => h) (Or.inl ⟨by rfl, fun w hw => by obtain ⟨x, rfl⟩ := hw; go_simp⟩) hS ?_
  try simp only [Act.put, List.setIfInBounds_toArray, List.set_cons_zero, List.set_cons_succ, List.getElem_toArray, List.getElem_cons_zero, List.getElem_cons_succ]
  refine wpAnyH_take (i := 8) (v := (.pointer (some ⟨w.heap.size, 7, none⟩))) rfl (by kernel_rfl) (by kernel_rfl) (by kernel_rfl) (fun _ _ _ h => h) (Or.inl ⟨by rfl, fun w hw => by obtain ⟨x, rfl⟩ := hw; go_simp⟩) hS ?_
  try simp only [Act.put, List.setIfInBounds_toArray, List.set_cons_zero, List.set_cons_succ, List.getElem_toArray, List.getElem_cons_zero, List.getElem_cons_succ]
  refine wpAnyH_take (i := 9) (v := (.pointer (some ⟨w.heap.size, 10, none⟩))) rfl (by kernel_rfl) (by kernel_rfl) (by kernel_rfl) (fun _ _ _ h => h) (Or.inl ⟨by rfl, fun w hw => by obtain ⟨x, rfl⟩ := hw; go_simp⟩) hS ?_
  try simp only [Act.put, List.setIfInBounds_toArray, List.set_cons_zero, List.set_cons_succ, List.getElem_toArray, List.getElem_cons_zero, List.getElem_cons_succ]
  refine wpAnyH_take (i := 10) (v := (.pointer (some ⟨w.heap.size, 11, none⟩))) rfl (by kernel_rfl) (by kernel_rfl) (by kernel_rfl) (fun _ _ _ h => h) (Or.inl ⟨by rfl, fun w hw => by obtain ⟨x, rfl⟩ := hw; go_simp⟩) hS ?_
  try simp only [Act.put, List.setIfInBounds_toArray, List.set_cons_zero, List.set_cons_succ, List.getElem_toArray, List.getElem_cons_zero, List.getElem_cons_succ]
  refine wpAnyH_take (i := 11) (v := (.int .i64 b.b)) rfl (by kernel_rfl) (by kernel_rfl) (by kernel_rfl) (fun _ _ _ h => h) (Or.inl ⟨by rfl, fun w hw => by obtain ⟨x, rfl⟩ := hw; go_simp⟩) hS ?_
  try simp only [Act.put, List.setIfInBounds_toArray, List.set_cons_zero, List.set_cons_succ, List.getElem_toArray, List.getElem_cons_zero, List.getElem_cons_succ]
  refine wpAnyH_take (i := 12) (v := (.int .i64 1)) rfl (by kernel_rfl) (by kernel_rfl) (by kernel_rfl) (fun _ _ _ h => h) (Or.inl ⟨by rfl, fun w hw => by obtain ⟨x, rfl⟩ := hw; go_simp⟩) hS ?_
  try simp only [Act.put, List.setIfInBounds_toArray, List.set_cons_zero, List.set_cons_succ, List.getElem_toArray, List.getElem_cons_zero, List.getElem_cons_succ]
  refine wpAnyH_take (i := 13) (v := (.pointer (some ⟨w.heap.size, 14, none⟩))) rfl (by kernel_rfl) (by kernel_rfl) (by kernel_rfl) (fun _ _ _ h => h) (Or.inl ⟨by rfl, fun w hw => by obtain ⟨x, rfl⟩ := hw; go_simp⟩) hS ?_
  try simp only [Act.put, List.setIfInBounds_toArray, List.set_cons_zero, List.set_cons_succ, List.getElem_toArray, List.getElem_cons_zero, List.getElem_cons_succ]
  refine wpAnyH_take (i := 14) (v := (.pointer (some ⟨w.heap.size, 17, none⟩))) rfl (by kernel_rfl) (by kernel_rfl) (by kernel_rfl) (fun _ _ _ h => h) (Or.inl ⟨by rfl, fun w hw => by obtain ⟨x, rfl⟩ := hw; go_simp⟩) hS ?_
  try simp only [Act.put, List.setIfInBounds_toArray, List.set_cons_zero, List.set_cons_succ, List.getElem_toArray, List.getElem_cons_zero, List.getElem_cons_succ]
  refine wpAnyH_take (i := 15) (v := (.pointer (some ⟨w.heap.size, 18, none⟩))) rfl (by kernel_rfl) (by kernel_rfl) (by kernel_rfl) (fun _ _ _ h => h) (Or.inl ⟨by rfl, fun w hw => by obtain ⟨x, rfl⟩ := hw; go_simp⟩) hS ?_
  try simp only [Act.put, List.setIfInBounds_toArray, List.set_cons_zero, List.set_cons_succ, List.getElem_toArray, List.getElem_cons_zero, List.getElem_cons_succ]
  refine wpAnyH_take (i := 16) (v := (.int .i64 c.b)) rfl (by kernel_rfl) (by kernel_rfl) (by kernel_rfl) (fun _ _ _ h => h) (Or.inl ⟨by rfl, fun w hw => by obtain ⟨x, rfl⟩ := hw; go_simp⟩) hS ?_
  try simp only [Act.put, List.setIfInBounds_toArray, List.set_cons_zero, List.set_cons_succ, List.getElem_toArray, List.getElem_cons_zero, List.getElem_cons_succ]
  refine wpAnyH_take (i := 17) (v := (.agg #[.int .i64 a.b, .int .i64 b.b, .int .i64 c.b])) rfl (by kernel_rfl) (by kernel_rfl) (by kernel_rfl) (fun _ _ _ h => h) (Or.inl ⟨by rfl, fun w hw => by obtain ⟨x, rfl⟩ := hw; go_simp⟩) hS ?_
  try simp only [Act.put, List.setIfInBounds_toArray, List.set_cons_zero, List.set_cons_succ, List.getElem_toArray, List.getElem_cons_zero, List.getElem_cons_succ]
  refine wpAnyH_ready (rs := [18]) (by kernel_rfl) (by simp) ?_
  refine AllReadyH.cons rfl (fun K hK => ?_) AllReadyH.nil
  go_simp
  with_reducible refine (over1_any _ _ _ _).mono ?_
  rintro e S1 ⟨rfl, hb⟩
  have BS1 := Lib.hid (bstep BV1.out BV1.out.size hb)
  have RS1 := Lib.hid (fB_grow RV1.out hb)
  clear hb RV1 BV1
  refine hK.out _ _ ⟨⟨_, BS1.out⟩, rfl⟩ (fun hS => ?_)
  clear hK K
  try simp only [Act.put, List.setIfInBounds_toArray, List.set_cons_zero, List.set_cons_succ, List.getElem_toArray, List.getElem_cons_zero, List.getElem_cons_succ]
  refine wpAnyH_take (i := 19) (v := (.pointer (some ⟨gl, 1, none⟩))) rfl (by kernel_rfl) (by kernel_rfl) (by kernel_rfl) (fun _ _ _ h => h) (Or.inl ⟨by rfl, fun w hw => by obtain ⟨x, rfl⟩ := hw; go_simp⟩) hS ?_
  try simp only [Act.put, List.setIfInBounds_toArray, List.set_cons_zero, List.set_cons_succ, List.getElem_toArray, List.getElem_cons_zero, List.getElem_cons_succ]
  obtain ⟨q0, q1, q2, q3⟩ := fB_cell RS1.out
  have f1 := fB_free RS1.out 1
  refine wpAnyH_ready (rs := [20]) (by kernel_rfl) (by simp) ?_
  refine AllReadyH.cons rfl (fun K hK => ?_) AllReadyH.nil
  go_simp
  have BU2 := Lib.hid (show Below t3.heap.size t3 (S1.setCell ⟨gl, 1, none⟩ (.int .i64 0)) from BS1.out.setCell (by rw [HL.out]; exact HG.out) _)
  have RU2 := Lib.hid (fB_set1 0 RS1.out)
  refine hK.out _ _ ⟨⟨_, BU2.out⟩, rfl⟩ (fun hS => ?_)
  clear hK K hS q0 q1 q2 q3 f1 BS1 RS1
  try simp only [Act.put, List.setIfInBounds_toArray, List.set_cons_zero, List.set_cons_succ, List.getElem_toArray, List.getElem_cons_zero, List.getElem_cons_succ]
  refine wpAnyH_done (by kernel_rfl) ?_ _
  generalize S1.setCell ⟨gl, 1, none⟩ (.int .i64 0) = U2 at *
  go_wp2_with fail
  rw [rounds_succ]
  go_wp2_with fail
  obtain ⟨V2, hV⟩ : ∃ Y, Y = World.drew U2 := ⟨_, rfl⟩
  have BV2 := Lib.hid (show Below t3.heap.size t3 V2 by rw [hV]; exact BU2.out.drew)
  have RV2 := Lib.hid (show V2.heap[gl]? = some (fB 0 0 0 0) by rw [hV]; exact RU2.out)
  refine wp_region_held_drew (S := fun w' => ∃ x : Grow t3, w' = x.w) (by kernel_rfl) ⟨⟨V2, BV2.out⟩, hV.symm⟩ (fun hS => ?_)
  rw [← hV] at hS ⊢
  clear hV BU2 RU2
  refine wpAnyH_take (i := 0) (v := (.int .i64 2)) rfl (by kernel_rfl) (by kernel_rfl) (by kernel_rfl) (fun _ _ _ h => h) (Or.inl ⟨by rfl, fun w hw => by obtain ⟨x, rfl⟩ := hw; go_simp⟩) hS ?_
  try simp only [Act.put, List.setIfInBounds_toArray, List.set_cons_zero, List.set_cons_succ, List.getElem_toArray, List.getElem_cons_zero]
  refine wpAnyH_take (i := 1) (v := (.func (.func 31) #[] #[])) rfl (by kernel_rfl) (by kernel_rfl) (by kernel_rfl) (fun _ _ _ h => h) (Or.inl ⟨by rfl, fun w hw => by obtain ⟨x, rfl⟩ := hw; go_simp⟩) hS ?_
  try simp only [Act.put, List.setIfInBounds_toArray, List.set_cons_zero, List.set_cons_succ, List.getElem_toArray, List.getElem_cons_zero, List.getElem_cons_succ]
  refine wpAnyH_take (i := 2) (v := (.int .i64 2)) rfl (by kernel_rfl) (by kernel_rfl) (by kernel_rfl) (fun _ _ _ h => h) (Or.inl ⟨by rfl, fun w hw => by obtain ⟨x, rfl⟩ := hw; go_simp⟩) hS ?_
  try simp only [Act.put, List.setIfInBounds_toArray, List.set_cons_zero, List.set_cons_succ, List.getElem_toArray, List.getElem_cons_zero, List.getElem_cons_succ]
  refine wpAnyH_take (i := 3) (v := (.pointer (some ⟨w.heap.size, 0, none⟩))) rfl (by kernel_rfl) (by kernel_rfl) (by kernel_rfl) (fun _ _ _ h => h) (Or.inl ⟨by rfl, fun w hw => by obtain ⟨x, rfl⟩ := hw; go_simp⟩) hS ?_
  try simp only [Act.put, List.setIfInBounds_toArray, List.set_cons_zero, List.set_cons_succ, List.getElem_toArray, List.getElem_cons_zero, List.getElem_cons_succ]
  refine wpAnyH_take (i := 4) (v := (.pointer (some ⟨w.heap.size, 3, none⟩))) rfl (by kernel_rfl) (by kernel_rfl) (by kernel_rfl) (fun _ _ _ h => h) (Or.inl ⟨by rfl, fun w hw => by obtain ⟨x, rfl⟩ := hw; go_simp⟩) hS ?_
  try simp only [Act.put, List.setIfInBounds_toArray, List.set_cons_zero, List.set_cons_succ, List.getElem_toArray, List.getElem_cons_zero, List.getElem_cons_succ]
  refine wpAnyH_take (i := 5) (v := (.pointer (some ⟨w.heap.size, 5, none⟩))) rfl (by kernel_rfl) (by kernel_rfl) (by kernel_rfl) (fun _ _ _ h => h) (Or.inl ⟨by rfl, fun w hw => by obtain ⟨x, rfl⟩ := hw; go_simp⟩) hS ?_
  try simp only [Act.put, List.setIfInBounds_toArray, List.set_cons_zero, List.set_cons_succ, List.getElem_toArray, List.getElem_cons_zero, List.getElem_cons_succ]
  refine wpAnyH_take (i := 6) (v := (.int .i64 a.c)) rfl (by kernel_rfl) (by kernel_rfl) (by kernel_rfl) (fun _ _ _ h => h) (Or.inl ⟨by rfl, fun w hw => by obtain ⟨x, rfl⟩ := hw; go_simp⟩) hS ?_
  try simp only [Act.put, List.setIfInBounds_toArray, List.set_cons_zero, List.set_cons_succ, List.getElem_toArray, List.getElem_cons_zero, List.getElem_cons_succ]
  refine wpAnyH_take (i := 7) (v := (.int .i64 2)) rfl (by kernel_rfl) (by kernel_rfl) (by kernel_rfl) (fun _ _ _ h => h) (Or.inl ⟨by rfl, fun w hw => by obtain ⟨x, rfl⟩ := hw; go_simp⟩) hS ?_
  try simp only [Act.put, List.setIfInBounds_toArray, List.set_cons_zero, List.set_cons_succ, List.getElem_toArray, List.getElem_cons_zero, List.getElem_cons_succ]
  refine wpAnyH_take (i := 8) (v := (.pointer (some ⟨w.heap.size, 7, none⟩))) rfl (by kernel_rfl) (by kernel_rfl) (by kernel_rfl) (fun _ _ _ h => h) (Or.inl ⟨by rfl, fun w hw => by obtain ⟨x, rfl⟩ := hw; go_simp⟩) hS ?_
  try simp only [Act.put, List.setIfInBounds_toArray, List.set_cons_zero, List.set_cons_succ, List.getElem_toArray, List.getElem_cons_zero, List.getElem_cons_succ]
  refine wpAnyH_take (i := 9) (v := (.pointer (some ⟨w.heap.size, 10, none⟩))) rfl (by kernel_rfl) (by kernel_rfl) (by kernel_rfl) (fun _ _ _ h => h) (Or.inl ⟨by rfl, fun w hw => by obtain ⟨x, rfl⟩ := hw; go_simp⟩) hS ?_
  try simp only [Act.put, List.setIfInBounds_toArray, List.set_cons_zero, List.set_cons_succ, List.getElem_toArray, List.getElem_cons_zero, List.getElem_cons_succ]
  refine wpAnyH_take (i := 10) (v := (.pointer (some ⟨w.heap.size, 12, none⟩))) rfl (by kernel_rfl) (by kernel_rfl) (by kernel_rfl) (fun _ _ _ h => h) (Or.inl ⟨by rfl, fun w hw => by obtain ⟨x, rfl⟩ := hw; go_simp⟩) hS ?_
  try simp only [Act.put, List.setIfInBounds_toArray, List.set_cons_zero, List.set_cons_succ, List.getElem_toArray, List.getElem_cons_zero, List.getElem_cons_succ]
  refine wpAnyH_take (i := 11) (v := (.int .i64 b.c)) rfl (by kernel_rfl) (by kernel_rfl) (by kernel_rfl) (fun _ _ _ h => h) (Or.inl ⟨by rfl, fun w hw => by obtain ⟨x, rfl⟩ := hw; go_simp⟩) hS ?_
  try simp only [Act.put, List.setIfInBounds_toArray, List.set_cons_zero, List.set_cons_succ, List.getElem_toArray, List.getElem_cons_zero, List.getElem_cons_succ]
  refine wpAnyH_take (i := 12) (v := (.int .i64 2)) rfl (by kernel_rfl) (by kernel_rfl) (by kernel_rfl) (fun _ _ _ h => h) (Or.inl ⟨by rfl, fun w hw => by obtain ⟨x, rfl⟩ := hw; go_simp⟩) hS ?_
  try simp only [Act.put, List.setIfInBounds_toArray, List.set_cons_zero, List.set_cons_succ, List.getElem_toArray, List.getElem_cons_zero, List.getElem_cons_succ]
  refine wpAnyH_take (i := 13) (v := (.pointer (some ⟨w.heap.size, 14, none⟩))) rfl (by kernel_rfl) (by kernel_rfl) (by kernel_rfl) (fun _ _ _ h => h) (Or.inl ⟨by rfl, fun w hw => by obtain ⟨x, rfl⟩ := hw; go_simp⟩) hS ?_
  try simp only [Act.put, List.setIfInBounds_toArray, List.set_cons_zero, List.set_cons_succ, List.getElem_toArray, List.getElem_cons_zero, List.getElem_cons_succ]
  refine wpAnyH_take (i := 14) (v := (.pointer (some ⟨w.heap.size, 17, none⟩))) rfl (by kernel_rfl) (by kernel_rfl) (by kernel_rfl) (fun _ _ _ h => h) (Or.inl ⟨by rfl, fun w hw => by obtain ⟨x, rfl⟩ := hw; go_simp⟩) hS ?_
  try simp only [Act.put, List.setIfInBounds_toArray, List.set_cons_zero, List.set_cons_succ, List.getElem_toArray, List.getElem_cons_zero, List.getElem_cons_succ]
  refine wpAnyH_take (i := 15) (v := (.pointer (some ⟨w.heap.size, 19, none⟩))) rfl (by kernel_rfl) (by kernel_rfl) (by kernel_rfl) (fun _ _ _ h => h) (Or.inl ⟨by rfl, fun w hw => by obtain ⟨x, rfl⟩ := hw; go_simp⟩) hS ?_
  try simp only [Act.put, List.setIfInBounds_toArray, List.set_cons_zero, List.set_cons_succ, List.getElem_toArray, List.getElem_cons_zero, List.getElem_cons_succ]
  refine wpAnyH_take (i := 16) (v := (.int .i64 c.c)) rfl (by kernel_rfl) (by kernel_rfl) (by kernel_rfl) (fun _ _ _ h => h) (Or.inl ⟨by rfl, fun w hw => by obtain ⟨x, rfl⟩ := hw; go_simp⟩) hS ?_
  try simp only [Act.put, List.setIfInBounds_toArray, List.set_cons_zero, List.set_cons_succ, List.getElem_toArray, List.getElem_cons_zero, List.getElem_cons_succ]
  refine wpAnyH_take (i := 17) (v := (.agg #[.int .i64 a.c, .int .i64 b.c, .int .i64 c.c])) rfl (by kernel_rfl) (by kernel_rfl) (by kernel_rfl) (fun _ _ _ h => h) (Or.inl ⟨by rfl, fun w hw => by obtain ⟨x, rfl⟩ := hw; go_simp⟩) hS ?_
  try simp only [Act.put, List.setIfInBounds_toArray, List.set_cons_zero, List.set_cons_succ, List.getElem_toArray, List.getElem_cons_zero, List.getElem_cons_succ]
  refine wpAnyH_ready (rs := [18]) (by kernel_rfl) (by simp) ?_
  refine AllReadyH.cons rfl (fun K hK => ?_) AllReadyH.nil
  go_simp
  with_reducible refine (over1_any _ _ _ _).mono ?_
  rintro e S2 ⟨rfl, hb⟩
  have BS2 := Lib.hid (bstep BV2.out BV2.out.size hb)
  have RS2 := Lib.hid (fB_grow RV2.out hb)
  clear hb RV2 BV2
  refine hK.out _ _ ⟨⟨_, BS2.out⟩, rfl⟩ (fun hS => ?_)
  clear hK K
  try simp only [Act.put, List.setIfInBounds_toArray, List.set_cons_zero, List.set_cons_succ, List.getElem_toArray, List.getElem_cons_zero, List.getElem_cons_succ]
  refine wpAnyH_take (i := 19) (v := (.pointer (some ⟨gl, 2, none⟩))) rfl (by kernel_rfl) (by kernel_rfl) (by kernel_rfl) (fun _ _ _ h => h) (Or.inl ⟨by rfl, fun w hw => by obtain ⟨x, rfl⟩ := hw; go_simp⟩) hS ?_
  try simp only [Act.put, List.setIfInBounds_toArray, List.set_cons_zero, List.set_cons_succ, List.getElem_toArray, List.getElem_cons_zero, List.getElem_cons_succ]
  obtain ⟨q0, q1, q2, q3⟩ := fB_cell RS2.out
  have f2 := fB_free RS2.out 2
  refine wpAnyH_ready (rs := [20]) (by kernel_rfl) (by simp) ?_
  refine AllReadyH.cons rfl (fun K hK => ?_) AllReadyH.nil
  go_simp
  have BU3 := Lib.hid (show Below t3.heap.size t3 (S2.setCell ⟨gl, 2, none⟩ (.int .i64 0)) from BS2.out.setCell (by rw [HL.out]; exact HG.out) _)
  have RU3 := Lib.hid (fB_set2 0 RS2.out)
  refine hK.out _ _ ⟨⟨_, BU3.out⟩, rfl⟩ (fun hS => ?_)
  clear hK K hS q0 q1 q2 q3 f2 BS2 RS2
  try simp only [Act.put, List.setIfInBounds_toArray, List.set_cons_zero, List.set_cons_succ, List.getElem_toArray, List.getElem_cons_zero, List.getElem_cons_succ]
  refine wpAnyH_done (by kernel_rfl) ?_ _
  generalize S2.setCell ⟨gl, 2, none⟩ (.int .i64 0) = U3 at *
  go_wp2_with fail
  rw [rounds_succ]
  go_wp2_with fail
  obtain ⟨V3, hV⟩ : ∃ Y, Y = World.drew U3 := ⟨_, rfl⟩
  have BV3 := Lib.hid (show Below t3.heap.size t3 V3 by rw [hV]; exact BU3.out.drew)
  have RV3 := Lib.hid (show V3.heap[gl]? = some (fB 0 0 0 0) by rw [hV]; exact RU3.out)
  refine wp_region_held_drew (S := fun w' => ∃ x : Grow t3, w' = x.w) (by kernel_rfl) ⟨⟨V3, BV3.out⟩, hV.symm⟩ (fun hS => ?_)
  rw [← hV] at hS ⊢
  clear hV BU3 RU3
  refine wpAnyH_take (i := 0) (v := (.int .i64 3)) rfl (by kernel_rfl) (by kernel_rfl) (by kernel_rfl) (fun _ _ _ h => h) (Or.inl ⟨by rfl, fun w hw => by obtain ⟨x, rfl⟩ := hw; go_simp⟩) hS ?_
  try simp only [Act.put, List.setIfInBounds_toArray, List.set_cons_zero, List.set_cons_succ, List.getElem_toArray, List.getElem_cons_zero]
  refine wpAnyH_take (i := 1) (v := (.func (.func 31) #[] #[])) rfl (by kernel_rfl) (by kernel_rfl) (by kernel_rfl) (fun _ _ _ h => h) (Or.inl ⟨by rfl, fun w hw => by obtain ⟨x, rfl⟩ := hw; go_simp⟩) hS ?_
  try simp only [Act.put, List.setIfInBounds_toArray, List.set_cons_zero, List.set_cons_succ, List.getElem_toArray, List.getElem_cons_zero, List.getElem_cons_succ]
  refine wpAnyH_take (i := 2) (v := (.int .i64 3)) rfl (by kernel_rfl) (by kernel_rfl) (by kernel_rfl) (fun _ _ _ h => h) (Or.inl ⟨by rfl, fun w hw => by obtain ⟨x, rfl⟩ := hw; go_simp⟩) hS ?_
  try simp only [Act.put, List.setIfInBounds_toArray, List.set_cons_zero, List.set_cons_succ, List.getElem_toArray, List.getElem_cons_zero, List.getElem_cons_succ]
  refine wpAnyH_take (i := 3) (v := (.pointer (some ⟨w.heap.size, 0, none⟩))) rfl (by kernel_rfl) (by kernel_rfl) (by kernel_rfl) (fun _ _ _ h => h) (Or.inl ⟨by rfl, fun w hw => by obtain ⟨x, rfl⟩ := hw; go_simp⟩) hS ?_
  try simp only [Act.put, List.setIfInBounds_toArray, List.set_cons_zero, List.set_cons_succ, List.getElem_toArray, List.getElem_cons_zero, List.getElem_cons_succ]
  refine wpAnyH_take (i := 4) (v := (.pointer (some ⟨w.heap.size, 3, none⟩))) rfl (by kernel_rfl) (by kernel_rfl) (by kernel_rfl) (fun _ _ _ h => h) (Or.inl ⟨by rfl, fun w hw => by obtain ⟨x, rfl⟩ := hw; go_simp⟩) hS ?_
  try simp only [Act.put, List.setIfInBounds_toArray, List.set_cons_zero, List.set_cons_succ, List.getElem_toArray, List.getElem_cons_zero, List.getElem_cons_succ]
  refine wpAnyH_take (i := 5) (v := (.pointer (some ⟨w.heap.size, 6, none⟩))) rfl (by kernel_rfl) (by kernel_rfl) (by kernel_rfl) (fun _ _ _ h => h) (Or.inl ⟨by rfl, fun w hw => by obtain ⟨x, rfl⟩ := hw; go_simp⟩) hS ?_
  try simp only [Act.put, List.setIfInBounds_toArray, List.set_cons_zero, List.set_cons_succ, List.getElem_toArray, List.getElem_cons_zero, List.getElem_cons_succ]
  refine wpAnyH_take (i := 6) (v := (.int .i64 a.d)) rfl (by kernel_rfl) (by kernel_rfl) (by kernel_rfl) (fun _ _ _ h => h) (Or.inl ⟨by rfl, fun w hw => by obtain ⟨x, rfl⟩ := hw; go_simp⟩) hS ?_
  try simp only [Act.put, List.setIfInBounds_toArray, List.set_cons_zero, List.set_cons_succ, List.getElem_toArray, List.getElem_cons_zero, List.getElem_cons_succ]
  refine wpAnyH_take (i := 7) (v := (.int .i64 3)) rfl (by kernel_rfl) (by kernel_rfl) (by kernel_rfl) (fun _ _ _ h => h) (Or.inl ⟨by rfl, fun w hw => by obtain ⟨x, rfl⟩ := hw; go_simp⟩) hS ?_
  try simp only [Act.put, List.setIfInBounds_toArray, List.set_cons_zero, List.set_cons_succ, List.getElem_toArray, List.getElem_cons_zero, List.getElem_cons_succ]
  refine wpAnyH_take (i := 8) (v := (.pointer (some ⟨w.heap.size, 7, none⟩))) rfl (by kernel_rfl) (by kernel_rfl) (by kernel_rfl) (fun _ _ _ h => h) (Or.inl ⟨by rfl, fun w hw => by obtain ⟨x, rfl⟩ := hw; go_simp⟩) hS ?_
  try simp only [Act.put, List.setIfInBounds_toArray, List.set_cons_zero, List.set_cons_succ, List.getElem_toArray, List.getElem_cons_zero, List.getElem_cons_succ]
  refine wpAnyH_take (i := 9) (v := (.pointer (some ⟨w.heap.size, 10, none⟩))) rfl (by kernel_rfl) (by kernel_rfl) (by kernel_rfl) (fun _ _ _ h => h) (Or.inl ⟨by rfl, fun w hw => by obtain ⟨x, rfl⟩ := hw; go_simp⟩) hS ?_
  try simp only [Act.put, List.setIfInBounds_toArray, List.set_cons_zero, List.set_cons_succ, List.getElem_toArray, List.getElem_cons_zero, List.getElem_cons_succ]
  refine wpAnyH_take (i := 10) (v := (.pointer (some ⟨w.heap.size, 13, none⟩))) rfl (by kernel_rfl) (by kernel_rfl) (by kernel_rfl) (fun _ _ _ h => h) (Or.inl ⟨by rfl, fun w hw => by obtain ⟨x, rfl⟩ := hw; go_simp⟩) hS ?_
  try simp only [Act.put, List.setIfInBounds_toArray, List.set_cons_zero, List.set_cons_succ, List.getElem_toArray, List.getElem_cons_zero, List.getElem_cons_succ]
  refine wpAnyH_take (i := 11) (v := (.int .i64 b.d)) rfl (by kernel_rfl) (by kernel_rfl) (by kernel_rfl) (fun _ _ _ h => h) (Or.inl ⟨by rfl, fun w hw => by obtain ⟨x, rfl⟩ := hw; go_simp⟩) hS ?_
  try simp only [Act.put, List.setIfInBounds_toArray, List.set_cons_zero, List.set_cons_succ, List.getElem_toArray, List.getElem_cons_zero, List.getElem_cons_succ]
  refine wpAnyH_take (i := 12) (v := (.int .i64 3)) rfl (by kernel_rfl) (by kernel_rfl) (by kernel_rfl) (fun _ _ _ h => h) (Or.inl ⟨by rfl, fun w hw => by obtain ⟨x, rfl⟩ := hw; go_simp⟩) hS ?_
  try simp only [Act.put, List.setIfInBounds_toArray, List.set_cons_zero, List.set_cons_succ, List.getElem_toArray, List.getElem_cons_zero, List.getElem_cons_succ]
  refine wpAnyH_take (i := 13) (v := (.pointer (some ⟨w.heap.size, 14, none⟩))) rfl (by kernel_rfl) (by kernel_rfl) (by kernel_rfl) (fun _ _ _ h => h) (Or.inl ⟨by rfl, fun w hw => by obtain ⟨x, rfl⟩ := hw; go_simp⟩) hS ?_
  try simp only [Act.put, List.setIfInBounds_toArray, List.set_cons_zero, List.set_cons_succ, List.getElem_toArray, List.getElem_cons_zero, List.getElem_cons_succ]
  refine wpAnyH_take (i := 14) (v := (.pointer (some ⟨w.heap.size, 17, none⟩))) rfl (by kernel_rfl) (by kernel_rfl) (by kernel_rfl) (fun _ _ _ h => h) (Or.inl ⟨by rfl, fun w hw => by obtain ⟨x, rfl⟩ := hw; go_simp⟩) hS ?_
  try simp only [Act.put, List.setIfInBounds_toArray, List.set_cons_zero, List.set_cons_succ, List.getElem_toArray, List.getElem_cons_zero, List.getElem_cons_succ]
  refine wpAnyH_take (i := 15) (v := (.pointer (some ⟨w.heap.size, 20, none⟩))) rfl (by kernel_rfl) (by kernel_rfl) (by kernel_rfl) (fun _ _ _ h => h) (Or.inl ⟨by rfl, fun w hw => by obtain ⟨x, rfl⟩ := hw; go_simp⟩) hS ?_
  try simp only [Act.put, List.setIfInBounds_toArray, List.set_cons_zero, List.set_cons_succ, List.getElem_toArray, List.getElem_cons_zero, List.getElem_cons_succ]
  refine wpAnyH_take (i := 16) (v := (.int .i64 c.d)) rfl (by kernel_rfl) (by kernel_rfl) (by kernel_rfl) (fun _ _ _ h => h) (Or.inl ⟨by rfl, fun w hw => by obtain ⟨x, rfl⟩ := hw; go_simp⟩) hS ?_
  try simp only [Act.put, List.setIfInBounds_toArray, List.set_cons_zero, List.set_cons_succ, List.getElem_toArray, List.getElem_cons_zero, List.getElem_cons_succ]
  refine wpAnyH_take (i := 17) (v := (.agg #[.int .i64 a.d, .int .i64 b.d, .int .i64 c.d])) rfl (by kernel_rfl) (by kernel_rfl) (by kernel_rfl) (fun _ _ _ h => h) (Or.inl ⟨by rfl, fun w hw => by obtain ⟨x, rfl⟩ := hw; go_simp⟩) hS ?_
  try simp only [Act.put, List.setIfInBounds_toArray, List.set_cons_zero, List.set_cons_succ, List.getElem_toArray, List.getElem_cons_zero, List.getElem_cons_succ]
  refine wpAnyH_ready (rs := [18]) (by kernel_rfl) (by simp) ?_
  refine AllReadyH.cons rfl (fun K hK => ?_) AllReadyH.nil
  go_simp
  with_reducible refine (over1_any _ _ _ _).mono ?_
  rintro e S3 ⟨rfl, hb⟩
  have BS3 := Lib.hid (bstep BV3.out BV3.out.size hb)
  have RS3 := Lib.hid (fB_grow RV3.out hb)
  clear hb RV3 BV3
  refine hK.out _ _ ⟨⟨_, BS3.out⟩, rfl⟩ (fun hS => ?_)
  clear hK K
  try simp only [Act.put, List.setIfInBounds_toArray, List.set_cons_zero, List.set_cons_succ, List.getElem_toArray, List.getElem_cons_zero, List.getElem_cons_succ]
  refine wpAnyH_take (i := 19) (v := (.pointer (some ⟨gl, 3, none⟩))) rfl (by kernel_rfl) (by kernel_rfl) (by kernel_rfl) (fun _ _ _ h => h) (Or.inl ⟨by rfl, fun w hw => by obtain ⟨x, rfl⟩ := hw; go_simp⟩) hS ?_
  try simp only [Act.put, List.setIfInBounds_toArray, List.set_cons_zero, List.set_cons_succ, List.getElem_toArray, List.getElem_cons_zero, List.getElem_cons_succ]
  obtain ⟨q0, q1, q2, q3⟩ := fB_cell RS3.out
  have f3 := fB_free RS3.out 3
  refine wpAnyH_ready (rs := [20]) (by kernel_rfl) (by simp) ?_
  refine AllReadyH.cons rfl (fun K hK => ?_) AllReadyH.nil
  go_simp
  have BU4 := Lib.hid (show Below t3.heap.size t3 (S3.setCell ⟨gl, 3, none⟩ (.int .i64 0)) from BS3.out.setCell (by rw [HL.out]; exact HG.out) _)
  have RU4 := Lib.hid (fB_set3 0 RS3.out)
  refine hK.out _ _ ⟨⟨_, BU4.out⟩, rfl⟩ (fun hS => ?_)
  clear hK K hS q0 q1 q2 q3 f3 BS3 RS3
  try simp only [Act.put, List.setIfInBounds_toArray, List.set_cons_zero, List.set_cons_succ, List.getElem_toArray, List.getElem_cons_zero, List.getElem_cons_succ]
  refine wpAnyH_done (by kernel_rfl) ?_ _
  generalize S3.setCell ⟨gl, 3, none⟩ (.int .i64 0) = U4 at *
  go_wp2_with fail
  rw [rounds_succ]
  obtain ⟨q0, q1, q2, q3⟩ := fB_cell RU4.out
  have RR := Lib.hid (fB_grow R3.out BU4.out)
  obtain ⟨z0, z1, z2, z3⟩ := fB_cell RR.out
  have f0 := fB_free RR.out 0
  have f1 := fB_free RR.out 1
  have f2 := fB_free RR.out 2
  have f3 := fB_free RR.out 3
  have BF := Lib.hid (bstep BT.out BT.out.size BU4.out)
  clear y0 y1 y2 y3 y4 y5 y6 y7 y8 y9 y10 y11 y12 y13 y14 y15 y16 y17 y18 y19 y20
  go_wp2
  refine bodyPost_ret (v := .agg #[.int .i64 0, .int .i64 0, .int .i64 0, .int .i64 0]) (by simp [results, Try.results16, go_sem, *]) rfl ⟨rfl, ?_⟩
  exact (((BF.out.setCell (by simp) _).setCell (by simp) _).setCell (by simp) _).setCell (by simp) _

set_option maxRecDepth 100000 in
set_option maxHeartbeats 4000000 in
theorem attrs_some (a b c : P) (x y X Y P1 Q1 R1' S1 p q r s : Int)
    (C1 : Hid (∀ w, Calls Try.prog 28 #[.int .i64 x] w fun e w' => e = .returned (.int .i64 X) ∧ w = w'))
    (C2 : Hid (∀ w, Calls Try.prog 28 #[.int .i64 y] w fun e w' => e = .returned (.int .i64 Y) ∧ w = w'))
    (CO : Hid (∀ w, Calls Try.prog 23 #[.agg #[.int .i64 a.x, .int .i64 a.y, .int .i64 a.z, .int .i64 a.a, .int .i64 a.b, .int .i64 a.c, .int .i64 a.d, .int .i64 b.x, .int .i64 b.y, .int .i64 b.z, .int .i64 b.a, .int .i64 b.b, .int .i64 b.c, .int .i64 b.d, .int .i64 c.x, .int .i64 c.y, .int .i64 c.z, .int .i64 c.a, .int .i64 c.b, .int .i64 c.c, .int .i64 c.d], .int .i64 X, .int .i64 Y] w (Kept w P1 Q1 R1' S1)))
    (D0 : Hid (∀ g h w, w.heap[g]? = some (nB P1 Q1 R1') → w.cell? ⟨h, 0, none⟩ = some (.int .i64 S1) → Calls Try.prog 33 #[.agg #[.int .i64 a.a, .int .i64 b.a, .int .i64 c.a], .pointer (some ⟨g, 0, none⟩), .pointer (some ⟨h, 0, none⟩)] w fun e w' => e = .returned (.int .i64 p) ∧ Below w.heap.size w w'))
    (D1 : Hid (∀ g h w, w.heap[g]? = some (nB P1 Q1 R1') → w.cell? ⟨h, 0, none⟩ = some (.int .i64 S1) → Calls Try.prog 33 #[.agg #[.int .i64 a.b, .int .i64 b.b, .int .i64 c.b], .pointer (some ⟨g, 0, none⟩), .pointer (some ⟨h, 0, none⟩)] w fun e w' => e = .returned (.int .i64 q) ∧ Below w.heap.size w w'))
    (D2 : Hid (∀ g h w, w.heap[g]? = some (nB P1 Q1 R1') → w.cell? ⟨h, 0, none⟩ = some (.int .i64 S1) → Calls Try.prog 33 #[.agg #[.int .i64 a.c, .int .i64 b.c, .int .i64 c.c], .pointer (some ⟨g, 0, none⟩), .pointer (some ⟨h, 0, none⟩)] w fun e w' => e = .returned (.int .i64 r) ∧ Below w.heap.size w w'))
    (D3 : Hid (∀ g h w, w.heap[g]? = some (nB P1 Q1 R1') → w.cell? ⟨h, 0, none⟩ = some (.int .i64 S1) → Calls Try.prog 33 #[.agg #[.int .i64 a.d, .int .i64 b.d, .int .i64 c.d], .pointer (some ⟨g, 0, none⟩), .pointer (some ⟨h, 0, none⟩)] w fun e w' => e = .returned (.int .i64 s) ∧ Below w.heap.size w w')) (w : World) :
    Calls Try.prog 16 #[.agg #[.int .i64 a.x, .int .i64 a.y, .int .i64 a.z, .int .i64 a.a, .int .i64 a.b, .int .i64 a.c, .int .i64 a.d, .int .i64 b.x, .int .i64 b.y, .int .i64 b.z, .int .i64 b.a, .int .i64 b.b, .int .i64 b.c, .int .i64 b.d, .int .i64 c.x, .int .i64 c.y, .int .i64 c.z, .int .i64 c.a, .int .i64 c.b, .int .i64 c.c, .int .i64 c.d], .int .i64 x, .int .i64 y] w fun e w' => e = .returned (.agg #[.int .i64 p, .int .i64 q, .int .i64 r, .int .i64 s]) ∧ Below w.heap.size w w' := by
  go_enter Try.func16, Try.ntmps16
  go_wp2_with fail
  obtain ⟨X1, hX1⟩ : ∃ X1, X1 = (w.alloc (Obj.cells #[.int .i64 a.x, .int .i64 a.y, .int .i64 a.z, .int .i64 a.a, .int .i64 a.b, .int .i64 a.c, .int .i64 a.d, .int .i64 b.x, .int .i64 b.y, .int .i64 b.z, .int .i64 b.a, .int .i64 b.b, .int .i64 b.c, .int .i64 b.d, .int .i64 c.x, .int .i64 c.y, .int .i64 c.z, .int .i64 c.a, .int .i64 c.b, .int .i64 c.c, .int .i64 c.d] 25)).alloc (Obj.cells #[.int .i64 0, .int .i64 0, .int .i64 0, .int .i64 0] 22) := ⟨_, rfl⟩
  rw [← hX1]
  have BW := Lib.hid (show Below w.heap.size w X1 by rw [hX1]; exact ((Below.refl _ _).alloc (Nat.le_refl _) _).alloc (by simp) _)
  have T1 := Lib.hid (show X1.heap[w.heap.size]? = some (tB a b c) by rw [hX1]; exact (new_two _ _).1)
  have R1 := Lib.hid (show X1.heap[w.heap.size + 1]? = some (fB 0 0 0 0) by rw [hX1]; exact (new_two _ _).2)
  clear hX1
  obtain ⟨Y0, hY0⟩ : ∃ Y0, Y0 = World.drew X1 := ⟨_, rfl⟩
  have B0 := Lib.hid (show Below X1.heap.size X1 Y0 by rw [hY0]; exact (Below.refl _ _).drew)
  refine wp_region_held_drew (S := fun w' => ∃ x : Grow X1, w' = x.w) (by kernel_rfl) ⟨⟨Y0, B0.out⟩, hY0.symm⟩ (fun hS => ?_)
  rw [← hY0] at hS ⊢
  clear hY0
  refine wpAnyH_take (i := 0) (v := .agg #[.int .i64 a.x, .int .i64 a.y, .int .i64 a.z, .int .i64 a.a, .int .i64 a.b, .int .i64 a.c, .int .i64 a.d, .int .i64 b.x, .int .i64 b.y, .int .i64 b.z, .int .i64 b.a, .int .i64 b.b, .int .i64 b.c, .int .i64 b.d, .int .i64 c.x, .int .i64 c.y, .int .i64 c.z, .int .i64 c.a, .int .i64 c.b, .int .i64 c.c, .int .i64 c.d]) rfl (by kernel_rfl) (by kernel_rfl) (by kernel_rfl) (fun _ _ _ h => h) (yields_loadT _ rfl rfl rfl T1.out) hS ?_
  try simp only [Act.put, List.setIfInBounds_toArray, List.set_cons_zero, List.set_cons_succ, List.getElem_toArray, List.getElem_cons_zero]
  refine wpAnyH_take (i := 1) (v := (.int .i64 x)) rfl (by kernel_rfl) (by kernel_rfl) (by kernel_rfl) (fun _ _ _ h => h) (Or.inl ⟨by rfl, fun w hw => by obtain ⟨x, rfl⟩ := hw; go_simp⟩) hS ?_
  try simp only [Act.put, List.setIfInBounds_toArray, List.set_cons_zero, List.set_cons_succ, List.getElem_toArray, List.getElem_cons_zero, List.getElem_cons_succ]
  refine wpAnyH_take (i := 3) (v := (.int .i64 y)) rfl (by kernel_rfl) (by kernel_rfl) (by kernel_rfl) (fun _ _ _ h => h) (Or.inl ⟨by rfl, fun w hw => by obtain ⟨x, rfl⟩ := hw; go_simp⟩) hS ?_
  try simp only [Act.put, List.setIfInBounds_toArray, List.set_cons_zero, List.set_cons_succ, List.getElem_toArray, List.getElem_cons_zero, List.getElem_cons_succ]
  refine wpAnyH_ready (rs := [2]) (by kernel_rfl) (by simp) ?_
  refine AllReadyH.cons rfl (fun K hK => ?_) AllReadyH.nil
  go_simp
  with_reducible refine (C1.out _).mono ?_
  rintro e t ⟨rfl, rfl⟩
  refine hK.out _ _ ⟨⟨_, B0.out⟩, rfl⟩ (fun hS => ?_)
  clear hK K
  try simp only [Act.put, List.setIfInBounds_toArray, List.set_cons_zero, List.set_cons_succ, List.getElem_toArray, List.getElem_cons_zero, List.getElem_cons_succ]
  refine wpAnyH_ready (rs := [4]) (by kernel_rfl) (by simp) ?_
  refine AllReadyH.cons rfl (fun K hK => ?_) AllReadyH.nil
  go_simp
  with_reducible refine (C2.out _).mono ?_
  rintro e t ⟨rfl, rfl⟩
  refine hK.out _ _ ⟨⟨_, B0.out⟩, rfl⟩ (fun hS => ?_)
  clear hK K
  try simp only [Act.put, List.setIfInBounds_toArray, List.set_cons_zero, List.set_cons_succ, List.getElem_toArray, List.getElem_cons_zero, List.getElem_cons_succ]
  refine wpAnyH_ready (rs := [5]) (by kernel_rfl) (by simp) ?_
  refine AllReadyH.cons rfl (fun K hK => ?_) AllReadyH.nil
  go_simp
  with_reducible refine (CO.out _).mono ?_
  rintro e t3 ⟨g, h, rfl, hg, hh, hb⟩
  have Hg := Lib.hid hg
  have Hh := Lib.hid hh
  clear hg hh
  have B1 := Lib.hid (bstep B0.out B0.out.size hb)
  clear hb
  refine hK.out _ _ ⟨⟨_, B1.out⟩, rfl⟩ (fun hS => ?_)
  clear hK K
  try simp only [Act.put, List.setIfInBounds_toArray, List.set_cons_zero, List.set_cons_succ, List.getElem_toArray, List.getElem_cons_zero, List.getElem_cons_succ]
  refine wpAnyH_ready (rs := [6]) (by kernel_rfl) (by simp) ?_
  refine AllReadyH.cons rfl (fun K hK => ?_) AllReadyH.nil
  go_simp
  refine hK.out _ _ ⟨⟨_, B1.out⟩, rfl⟩ (fun hS => ?_)
  clear hK K hS
  try simp only [Act.put, List.setIfInBounds_toArray, List.set_cons_zero, List.set_cons_succ, List.getElem_toArray, List.getElem_cons_zero, List.getElem_cons_succ]
  refine wpAnyH_done (by kernel_rfl) ?_ _
  have T3 := Lib.hid (tB_grow T1.out B1.out)
  have R3 := Lib.hid (fB_grow R1.out B1.out)
  have BT := Lib.hid (bstep BW.out BW.out.size B1.out)
  clear T1 R1 B0 B1 BW
  go_wp2_with fail
  refine wp_loop_rounds 5 ?_
  rw [rounds_succ]
  go_wp2_with fail
  obtain ⟨U0, hU⟩ : ∃ U, U = t3.alloc (Obj.cells #[.int .i64 0, .int .i64 0, .int .i64 0, .int .i64 0] 22) := ⟨_, rfl⟩
  rw [← hU]
  have BU0 := Lib.hid (show Below t3.heap.size t3 U0 by rw [hU]; exact (Below.refl _ _).alloc (Nat.le_refl _) _)
  have RU0 := Lib.hid (show U0.heap[t3.heap.size]? = some (fB 0 0 0 0) by rw [hU]; exact new_at rfl)
  clear hU
  obtain ⟨⟨x0, x1, x2, x3, x4, x5, x6⟩, ⟨x7, x8, x9, x10, x11, x12, x13⟩, ⟨x14, x15, x16, x17, x18, x19, x20⟩⟩ := tB_cell T3.out
  have y0 : ∀ x : Grow t3, x.w.cell? ⟨w.heap.size, 0, none⟩ = some (.int .i64 a.x) := fun x => x.cell x0
  have y1 : ∀ x : Grow t3, x.w.cell? ⟨w.heap.size, 1, none⟩ = some (.int .i64 a.y) := fun x => x.cell x1
  have y2 : ∀ x : Grow t3, x.w.cell? ⟨w.heap.size, 2, none⟩ = some (.int .i64 a.z) := fun x => x.cell x2
  have y3 : ∀ x : Grow t3, x.w.cell? ⟨w.heap.size, 3, none⟩ = some (.int .i64 a.a) := fun x => x.cell x3
  have y4 : ∀ x : Grow t3, x.w.cell? ⟨w.heap.size, 4, none⟩ = some (.int .i64 a.b) := fun x => x.cell x4
  have y5 : ∀ x : Grow t3, x.w.cell? ⟨w.heap.size, 5, none⟩ = some (.int .i64 a.c) := fun x => x.cell x5
  have y6 : ∀ x : Grow t3, x.w.cell? ⟨w.heap.size, 6, none⟩ = some (.int .i64 a.d) := fun x => x.cell x6
  have y7 : ∀ x : Grow t3, x.w.cell? ⟨w.heap.size, 7, none⟩ = some (.int .i64 b.x) := fun x => x.cell x7
  have y8 : ∀ x : Grow t3, x.w.cell? ⟨w.heap.size, 8, none⟩ = some (.int .i64 b.y) := fun x => x.cell x8
  have y9 : ∀ x : Grow t3, x.w.cell? ⟨w.heap.size, 9, none⟩ = some (.int .i64 b.z) := fun x => x.cell x9
  have y10 : ∀ x : Grow t3, x.w.cell? ⟨w.heap.size, 10, none⟩ = some (.int .i64 b.a) := fun x => x.cell x10
  have y11 : ∀ x : Grow t3, x.w.cell? ⟨w.heap.size, 11, none⟩ = some (.int .i64 b.b) := fun x => x.cell x11
  have y12 : ∀ x : Grow t3, x.w.cell? ⟨w.heap.size, 12, none⟩ = some (.int .i64 b.c) := fun x => x.cell x12
  have y13 : ∀ x : Grow t3, x.w.cell? ⟨w.heap.size, 13, none⟩ = some (.int .i64 b.d) := fun x => x.cell x13
  have y14 : ∀ x : Grow t3, x.w.cell? ⟨w.heap.size, 14, none⟩ = some (.int .i64 c.x) := fun x => x.cell x14
  have y15 : ∀ x : Grow t3, x.w.cell? ⟨w.heap.size, 15, none⟩ = some (.int .i64 c.y) := fun x => x.cell x15
  have y16 : ∀ x : Grow t3, x.w.cell? ⟨w.heap.size, 16, none⟩ = some (.int .i64 c.z) := fun x => x.cell x16
  have y17 : ∀ x : Grow t3, x.w.cell? ⟨w.heap.size, 17, none⟩ = some (.int .i64 c.a) := fun x => x.cell x17
  have y18 : ∀ x : Grow t3, x.w.cell? ⟨w.heap.size, 18, none⟩ = some (.int .i64 c.b) := fun x => x.cell x18
  have y19 : ∀ x : Grow t3, x.w.cell? ⟨w.heap.size, 19, none⟩ = some (.int .i64 c.c) := fun x => x.cell x19
  have y20 : ∀ x : Grow t3, x.w.cell? ⟨w.heap.size, 20, none⟩ = some (.int .i64 c.d) := fun x => x.cell x20
  have HG := Lib.hid (Nat.le_refl t3.heap.size)
  obtain ⟨gl, hgl⟩ : ∃ g, g = t3.heap.size := ⟨_, rfl⟩
  rw [← hgl] at RU0 ⊢
  have HL := Lib.hid hgl
  clear hgl x0 x1 x2 x3 x4 x5 x6 x7 x8 x9 x10 x11 x12 x13 x14 x15 x16 x17 x18 x19 x20
  obtain ⟨V0, hV⟩ : ∃ Y, Y = World.drew U0 := ⟨_, rfl⟩
  have BV0 := Lib.hid (show Below t3.heap.size t3 V0 by rw [hV]; exact BU0.out.drew)
  have RV0 := Lib.hid (show V0.heap[gl]? = some (fB 0 0 0 0) by rw [hV]; exact RU0.out)
  refine wp_region_held_drew (S := fun w' => ∃ x : Grow t3, w' = x.w) (by kernel_rfl) ⟨⟨V0, BV0.out⟩, hV.symm⟩ (fun hS => ?_)
  rw [← hV] at hS ⊢
  clear hV BU0 RU0
  refine wpAnyH_take (i := 0) (v := (.int .i64 0)) rfl (by kernel_rfl) (by kernel_rfl) (by kernel_rfl) (fun _ _ _ h => h) (Or.inl ⟨by rfl, fun w hw => by obtain ⟨x, rfl⟩ := hw; go_simp⟩) hS ?_
  try simp only [Act.put, List.setIfInBounds_toArray, List.set_cons_zero, List.set_cons_succ, List.getElem_toArray, List.getElem_cons_zero]
  refine wpAnyH_take (i := 1) (v := (.func (.func 33) #[] #[.pointer (some ⟨g, 0, none⟩), .pointer (some ⟨h, 0, none⟩)])) rfl (by kernel_rfl) (by kernel_rfl) (by kernel_rfl) (fun _ _ _ h => h) (Or.inl ⟨by rfl, fun w hw => by obtain ⟨x, rfl⟩ := hw; go_simp⟩) hS ?_
  try simp only [Act.put, List.setIfInBounds_toArray, List.set_cons_zero, List.set_cons_succ, List.getElem_toArray, List.getElem_cons_zero, List.getElem_cons_succ]
  refine wpAnyH_take (i := 2) (v := (.int .i64 0)) rfl (by kernel_rfl) (by kernel_rfl) (by kernel_rfl) (fun _ _ _ h => h) (Or.inl ⟨by rfl, fun w hw => by obtain ⟨x, rfl⟩ := hw; go_simp⟩) hS ?_
  try simp only [Act.put, List.setIfInBounds_toArray, List.set_cons_zero, List.set_cons_succ, List.getElem_toArray, List.getElem_cons_zero, List.getElem_cons_succ]
  refine wpAnyH_take (i := 3) (v := (.pointer (some ⟨w.heap.size, 0, none⟩))) rfl (by kernel_rfl) (by kernel_rfl) (by kernel_rfl) (fun _ _ _ h => h) (Or.inl ⟨by rfl, fun w hw => by obtain ⟨x, rfl⟩ := hw; go_simp⟩) hS ?_
  try simp only [Act.put, List.setIfInBounds_toArray, List.set_cons_zero, List.set_cons_succ, List.getElem_toArray, List.getElem_cons_zero, List.getElem_cons_succ]
  refine wpAnyH_take (i := 4) (v := (.pointer (some ⟨w.heap.size, 3, none⟩))) rfl (by kernel_rfl) (by kernel_rfl) (by kernel_rfl) (fun _ _ _ h => h) (Or.inl ⟨by rfl, fun w hw => by obtain ⟨x, rfl⟩ := hw; go_simp⟩) hS ?_
  try simp only [Act.put, List.setIfInBounds_toArray, List.set_cons_zero, List.set_cons_succ, List.getElem_toArray, List.getElem_cons_zero, List.getElem_cons_succ]
  refine wpAnyH_take (i := 5) (v := (.pointer (some ⟨w.heap.size, 3, none⟩))) rfl (by kernel_rfl) (by kernel_rfl) (by kernel_rfl) (fun _ _ _ h => h) (Or.inl ⟨by rfl, fun w hw => by obtain ⟨x, rfl⟩ := hw; go_simp⟩) hS ?_
  try simp only [Act.put, List.setIfInBounds_toArray, List.set_cons_zero, List.set_cons_succ, List.getElem_toArray, List.getElem_cons_zero, List.getElem_cons_succ]
  refine wpAnyH_take (i := 6) (v := (.int .i64 a.a)) rfl (by kernel_rfl) (by kernel_rfl) (by kernel_rfl) (fun _ _ _ h => h) (Or.inl ⟨by rfl, fun w hw => by obtain ⟨x, rfl⟩ := hw; go_simp⟩) hS ?_
  try simp only [Act.put, List.setIfInBounds_toArray, List.set_cons_zero, List.set_cons_succ, List.getElem_toArray, List.getElem_cons_zero, List.getElem_cons_succ]
  refine wpAnyH_take (i := 7) (v := (.int .i64 0)) rfl (by kernel_rfl) (by kernel_rfl) (by kernel_rfl) (fun _ _ _ h => h) (Or.inl ⟨by rfl, fun w hw => by obtain ⟨x, rfl⟩ := hw; go_simp⟩) hS ?_
  try simp only [Act.put, List.setIfInBounds_toArray, List.set_cons_zero, List.set_cons_succ, List.getElem_toArray, List.getElem_cons_zero, List.getElem_cons_succ]
  refine wpAnyH_take (i := 8) (v := (.pointer (some ⟨w.heap.size, 7, none⟩))) rfl (by kernel_rfl) (by kernel_rfl) (by kernel_rfl) (fun _ _ _ h => h) (Or.inl ⟨by rfl, fun w hw => by obtain ⟨x, rfl⟩ := hw; go_simp⟩) hS ?_
  try simp only [Act.put, List.setIfInBounds_toArray, List.set_cons_zero, List.set_cons_succ, List.getElem_toArray, List.getElem_cons_zero, List.getElem_cons_succ]
  refine wpAnyH_take (i := 9) (v := (.pointer (some ⟨w.heap.size, 10, none⟩))) rfl (by kernel_rfl) (by kernel_rfl) (by kernel_rfl) (fun _ _ _ h => h) (Or.inl ⟨by rfl, fun w hw => by obtain ⟨x, rfl⟩ := hw; go_simp⟩) hS ?_
  try simp only [Act.put, List.setIfInBounds_toArray, List.set_cons_zero, List.set_cons_succ, List.getElem_toArray, List.getElem_cons_zero, List.getElem_cons_succ]
  refine wpAnyH_take (i := 10) (v := (.pointer (some ⟨w.heap.size, 10, none⟩))) rfl (by kernel_rfl) (by kernel_rfl) (by kernel_rfl) (fun _ _ _ h => h) (Or.inl ⟨by rfl, fun w hw => by obtain ⟨x, rfl⟩ := hw; go_simp⟩) hS ?_
  try simp only [Act.put, List.setIfInBounds_toArray, List.set_cons_zero, List.set_cons_succ, List.getElem_toArray, List.getElem_cons_zero, List.getElem_cons_succ]
  refine wpAnyH_take (i := 11) (v := (.int .i64 b.a)) rfl (by kernel_rfl) (by kernel_rfl) (by kernel_rfl) (fun _ _ _ h => h) (Or.inl ⟨by rfl, fun w hw => by obtain ⟨x, rfl⟩ := hw; go_simp⟩) hS ?_
  try simp only [Act.put, List.setIfInBounds_toArray, List.set_cons_zero, List.set_cons_succ, List.getElem_toArray, List.getElem_cons_zero, List.getElem_cons_succ]
  refine wpAnyH_take (i := 12) (v := (.int .i64 0)) rfl (by kernel_rfl) (by kernel_rfl) (by kernel_rfl) (fun _ _ _ h => h) (Or.inl ⟨by rfl, fun w hw => by obtain ⟨x, rfl⟩ := hw; go_simp⟩) hS ?_
  try simp only [Act.put, List.setIfInBounds_toArray, List.set_cons_zero, List.set_cons_succ, List.getElem_toArray, List.getElem_cons_zero, List.getElem_cons_succ]
  refine wpAnyH_take (i := 13) (v := (.pointer (some ⟨w.heap.size, 14, none⟩))) rfl (by kernel_rfl) (by kernel_rfl) (by kernel_rfl) (fun _ _ _ h => h) (Or.inl ⟨by rfl, fun w hw => by obtain ⟨x, rfl⟩ := hw; go_simp⟩) hS ?_
  try simp only [Act.put, List.setIfInBounds_toArray, List.set_cons_zero, List.set_cons_succ, List.getElem_toArray, List.getElem_cons_zero, List.getElem_cons_succ]
  refine wpAnyH_take (i := 14) (v := (.pointer (some ⟨w.heap.size, 17, none⟩))) rfl (by kernel_rfl) (by kernel_rfl) (by kernel_rfl) (fun _ _ _ h => h) (Or.inl ⟨by rfl, fun w hw => by obtain ⟨x, rfl⟩ := hw; go_simp⟩) hS ?_
  try simp only [Act.put, List.setIfInBounds_toArray, List.set_cons_zero, List.set_cons_succ, List.getElem_toArray, List.getElem_cons_zero, List.getElem_cons_succ]
  refine wpAnyH_take (i := 15) (v := (.pointer (some ⟨w.heap.size, 17, none⟩))) rfl (by kernel_rfl) (by kernel_rfl) (by kernel_rfl) (fun _ _ _ h => h) (Or.inl ⟨by rfl, fun w hw => by obtain ⟨x, rfl⟩ := hw; go_simp⟩) hS ?_
  try simp only [Act.put, List.setIfInBounds_toArray, List.set_cons_zero, List.set_cons_succ, List.getElem_toArray, List.getElem_cons_zero, List.getElem_cons_succ]
  refine wpAnyH_take (i := 16) (v := (.int .i64 c.a)) rfl (by kernel_rfl) (by kernel_rfl) (by kernel_rfl) (fun _ _ _ h => h) (Or.inl ⟨by rfl, fun w hw => by obtain ⟨x, rfl⟩ := hw; go_simp⟩) hS ?_
  try simp only [Act.put, List.setIfInBounds_toArray, List.set_cons_zero, List.set_cons_succ, List.getElem_toArray, List.getElem_cons_zero, List.getElem_cons_succ]
  refine wpAnyH_take (i := 17) (v := (.agg #[.int .i64 a.a, .int .i64 b.a, .int .i64 c.a])) rfl (by kernel_rfl) (by kernel_rfl) (by kernel_rfl) (fun _ _ _ h => h) (Or.inl ⟨by rfl, fun w hw => by obtain ⟨x, rfl⟩ := hw; go_simp⟩) hS ?_
  try simp only [Act.put, List.setIfInBounds_toArray, List.set_cons_zero, List.set_cons_succ, List.getElem_toArray, List.getElem_cons_zero, List.getElem_cons_succ]
  refine wpAnyH_ready (rs := [18]) (by kernel_rfl) (by simp) ?_
  refine AllReadyH.cons rfl (fun K hK => ?_) AllReadyH.nil
  go_simp
  with_reducible refine (D0.out _ _ _ (nB_grow Hg.out BV0.out) (cell_grow Hh.out BV0.out)).mono ?_
  rintro e S0 ⟨rfl, hb⟩
  have BS0 := Lib.hid (bstep BV0.out BV0.out.size hb)
  have RS0 := Lib.hid (fB_grow RV0.out hb)
  clear hb RV0 BV0
  refine hK.out _ _ ⟨⟨_, BS0.out⟩, rfl⟩ (fun hS => ?_)
  clear hK K
  try simp only [Act.put, List.setIfInBounds_toArray, List.set_cons_zero, List.set_cons_succ, List.getElem_toArray, List.getElem_cons_zero, List.getElem_cons_succ]
  refine wpAnyH_take (i := 19) (v := (.pointer (some ⟨gl, 0, none⟩))) rfl (by kernel_rfl) (by kernel_rfl) (by kernel_rfl) (fun _ _ _ h => h) (Or.inl ⟨by rfl, fun w hw => by obtain ⟨x, rfl⟩ := hw; go_simp⟩) hS ?_
  try simp only [Act.put, List.setIfInBounds_toArray, List.set_cons_zero, List.set_cons_succ, List.getElem_toArray, List.getElem_cons_zero, List.getElem_cons_succ]
  obtain ⟨q0, q1, q2, q3⟩ := fB_cell RS0.out
  have f0 := fB_free RS0.out 0
  refine wpAnyH_ready (rs := [20]) (by kernel_rfl) (by simp) ?_
  refine AllReadyH.cons rfl (fun K hK => ?_) AllReadyH.nil
  go_simp
  have BU1 := Lib.hid (show Below t3.heap.size t3 (S0.setCell ⟨gl, 0, none⟩ (.int .i64 p)) from BS0.out.setCell (by rw [HL.out]; exact HG.out) _)
  have RU1 := Lib.hid (fB_set0 p RS0.out)
  refine hK.out _ _ ⟨⟨_, BU1.out⟩, rfl⟩ (fun hS => ?_)
  clear hK K hS q0 q1 q2 q3 f0 BS0 RS0
  try simp only [Act.put, List.setIfInBounds_toArray, List.set_cons_zero, List.set_cons_succ, List.getElem_toArray, List.getElem_cons_zero, List.getElem_cons_succ]
  refine wpAnyH_done (by kernel_rfl) ?_ _
  generalize S0.setCell ⟨gl, 0, none⟩ (.int .i64 p) = U1 at *
  go_wp2_with fail
  rw [rounds_succ]
  go_wp2_with fail
  obtain ⟨V1, hV⟩ : ∃ Y, Y = World.drew U1 := ⟨_, rfl⟩
  have BV1 := Lib.hid (show Below t3.heap.size t3 V1 by rw [hV]; exact BU1.out.drew)
  have RV1 := Lib.hid (show V1.heap[gl]? = some (fB p 0 0 0) by rw [hV]; exact RU1.out)
  refine wp_region_held_drew (S := fun w' => ∃ x : Grow t3, w' = x.w) (by kernel_rfl) ⟨⟨V1, BV1.out⟩, hV.symm⟩ (fun hS => ?_)
  rw [← hV] at hS ⊢
  clear hV BU1 RU1
  refine wpAnyH_take (i := 0) (v := (.int .i64 1)) rfl (by kernel_rfl) (by kernel_rfl) (by kernel_rfl) (fun _ _ _ h => h) (Or.inl ⟨by rfl, fun w hw => by obtain ⟨x, rfl⟩ := hw; go_simp⟩) hS ?_
  try simp only [Act.put, List.setIfInBounds_toArray, List.set_cons_zero, List.set_cons_succ, List.getElem_toArray, List.getElem_cons_zero]
  refine wpAnyH_take (i := 1) (v := (.func (.func 33) #[] #[.pointer (some ⟨g, 0, none⟩), .pointer (some ⟨h, 0, none⟩)])) rfl (by kernel_rfl) (by kernel_rfl) (by kernel_rfl) (fun _ _ _ h => h) (Or.inl ⟨by rfl, fun w hw => by obtain ⟨x, rfl⟩ := hw; go_simp⟩) hS ?_
  try simp only [Act.put, List.setIfInBounds_toArray, List.set_cons_zero, List.set_cons_succ, List.getElem_toArray, List.getElem_cons_zero, List.getElem_cons_succ]
  refine wpAnyH_take (i := 2) (v := (.int .i64 1)) rfl (by kernel_rfl) (by kernel_rfl) (by kernel_rfl) (fun _ _ _ h => h) (Or.inl ⟨by rfl, fun w hw => by obtain ⟨x, rfl⟩ := hw; go_simp⟩) hS ?_
  try simp only [Act.put, List.setIfInBounds_toArray, List.set_cons_zero, List.set_cons_succ, List.getElem_toArray, List.getElem_cons_zero, List.getElem_cons_succ]
  refine wpAnyH_take (i := 3) (v := (.pointer (some ⟨w.heap.size, 0, none⟩))) rfl (by kernel_rfl) (by kernel_rfl) (by kernel_rfl) (fun _ _ _ h => h) (Or.inl ⟨by rfl, fun w hw => by obtain ⟨x, rfl⟩ := hw; go_simp⟩) hS ?_
  try simp only [Act.put, List.setIfInBounds_toArray, List.set_cons_zero, List.set_cons_succ, List.getElem_toArray, List.getElem_cons_zero, List.getElem_cons_succ]
  refine wpAnyH_take (i := 4) (v := (.pointer (some ⟨w.heap.size, 3, none⟩))) rfl (by kernel_rfl) (by kernel_rfl) (by kernel_rfl) (fun _ _ _ h => h) (Or.inl ⟨by rfl, fun w hw => by obtain ⟨x, rfl⟩ := hw; go_simp⟩) hS ?_
  try simp only [Act.put, List.setIfInBounds_toArray, List.set_cons_zero, List.set_cons_succ, List.getElem_toArray, List.getElem_cons_zero, List.getElem_cons_succ]
  refine wpAnyH_take (i := 5) (v := (.pointer (some ⟨w.heap.size, 4, none⟩))) rfl (by kernel_rfl) (by kernel_rfl) (by kernel_rfl) (fun _ _ _ h => h) (Or.inl ⟨by rfl, fun w hw => by obtain ⟨x, rfl⟩ := hw; go_simp⟩) hS ?_
  try simp only [Act.put, List.setIfInBounds_toArray, List.set_cons_zero, List.set_cons_succ, List.getElem_toArray, List.getElem_cons_zero, List.getElem_cons_succ]
  refine wpAnyH_take (i := 6) (v := (.int .i64 a.b)) rfl (by kernel_rfl) (by kernel_rfl) (by kernel_rfl) (fun _ _ _ h => h) (Or.inl ⟨by rfl, fun w hw => by obtain ⟨x, rfl⟩ := hw; go_simp⟩) hS ?_
  try simp only [Act.put, List.setIfInBounds_toArray, List.set_cons_zero, List.set_cons_succ, List.getElem_toArray, List.getElem_cons_zero, List.getElem_cons_succ]
  refine wpAnyH_take (i := 7) (v := (.int .i64 1)) rfl (by kernel_rfl) (by kernel_rfl) (by kernel_rfl) (fun _ _ _ h => h) (Or.inl ⟨by rfl, fun w hw => by obtain ⟨x, rfl⟩ := hw; go_simp⟩) hS ?_
  try simp only [Act.put, List.setIfInBounds_toArray, List.set_cons_zero, List.set_cons_succ, List.getElem_toArray, List.getElem_cons_zero, List.getElem_cons_succ]
  refine wpAnyH_take (i := 8) (v := (.pointer (some ⟨w.heap.size, 7, none⟩))) rfl (by kernel_rfl) (by kernel_rfl) (by kernel_rfl) (fun _ _ _ h => h) (Or.inl ⟨by rfl, fun w hw => by obtain ⟨x, rfl⟩ := hw; go_simp⟩) hS ?_
  try simp only [Act.put, List.setIfInBounds_toArray, List.set_cons_zero, List.set_cons_succ, List.getElem_toArray, List.getElem_cons_zero, List.getElem_cons_succ]
  refine wpAnyH_take (i := 9) (v := (.pointer (some ⟨w.heap.size, 10, none⟩))) rfl (by kernel_rfl) (by kernel_rfl) (by kernel_rfl) (fun _ _ _ h => h) (Or.inl ⟨by rfl, fun w hw => by obtain ⟨x, rfl⟩ := hw; go_simp⟩) hS ?_
  try simp only [Act.put, List.setIfInBounds_toArray, List.set_cons_zero, List.set_cons_succ, List.getElem_toArray, List.getElem_cons_zero, List.getElem_cons_succ]
  refine wpAnyH_take (i := 10) (v := (.pointer (some ⟨w.heap.size, 11, none⟩))) rfl (by kernel_rfl) (by kernel_rfl) (by kernel_rfl) (fun _ _ _ h => h) (Or.inl ⟨by rfl, fun w hw => by obtain ⟨x, rfl⟩ := hw; go_simp⟩) hS ?_
  try simp only [Act.put, List.setIfInBounds_toArray, List.set_cons_zero, List.set_cons_succ, List.getElem_toArray, List.getElem_cons_zero, List.getElem_cons_succ]
  refine wpAnyH_take (i := 11) (v := (.int .i64 b.b)) rfl (by kernel_rfl) (by kernel_rfl) (by kernel_rfl) (fun _ _ _ h => h) (Or.inl ⟨by rfl, fun w hw => by obtain ⟨x, rfl⟩ := hw; go_simp⟩) hS ?_
  try simp only [Act.put, List.setIfInBounds_toArray, List.set_cons_zero, List.set_cons_succ, List.getElem_toArray, List.getElem_cons_zero, List.getElem_cons_succ]
  refine wpAnyH_take (i := 12) (v := (.int .i64 1)) rfl (by kernel_rfl) (by kernel_rfl) (by kernel_rfl) (fun _ _ _ h => h) (Or.inl ⟨by rfl, fun w hw => by obtain ⟨x, rfl⟩ := hw; go_simp⟩) hS ?_
  try simp only [Act.put, List.setIfInBounds_toArray, List.set_cons_zero, List.set_cons_succ, List.getElem_toArray, List.getElem_cons_zero, List.getElem_cons_succ]
  refine wpAnyH_take (i := 13) (v := (.pointer (some ⟨w.heap.size, 14, none⟩))) rfl (by kernel_rfl) (by kernel_rfl) (by kernel_rfl) (fun _ _ _ h => h) (Or.inl ⟨by rfl, fun w hw => by obtain ⟨x, rfl⟩ := hw; go_simp⟩) hS ?_
  try simp only [Act.put, List.setIfInBounds_toArray, List.set_cons_zero, List.set_cons_succ, List.getElem_toArray, List.getElem_cons_zero, List.getElem_cons_succ]
  refine wpAnyH_take (i := 14) (v := (.pointer (some ⟨w.heap.size, 17, none⟩))) rfl (by kernel_rfl) (by kernel_rfl) (by kernel_rfl) (fun _ _ _ h => h) (Or.inl ⟨by rfl, fun w hw => by obtain ⟨x, rfl⟩ := hw; go_simp⟩) hS ?_
  try simp only [Act.put, List.setIfInBounds_toArray, List.set_cons_zero, List.set_cons_succ, List.getElem_toArray, List.getElem_cons_zero, List.getElem_cons_succ]
  refine wpAnyH_take (i := 15) (v := (.pointer (some ⟨w.heap.size, 18, none⟩))) rfl (by kernel_rfl) (by kernel_rfl) (by kernel_rfl) (fun _ _ _ h => h) (Or.inl ⟨by rfl, fun w hw => by obtain ⟨x, rfl⟩ := hw; go_simp⟩) hS ?_
  try simp only [Act.put, List.setIfInBounds_toArray, List.set_cons_zero, List.set_cons_succ, List.getElem_toArray, List.getElem_cons_zero, List.getElem_cons_succ]
  refine wpAnyH_take (i := 16) (v := (.int .i64 c.b)) rfl (by kernel_rfl) (by kernel_rfl) (by kernel_rfl) (fun _ _ _ h => h) (Or.inl ⟨by rfl, fun w hw => by obtain ⟨x, rfl⟩ := hw; go_simp⟩) hS ?_
  try simp only [Act.put, List.setIfInBounds_toArray, List.set_cons_zero, List.set_cons_succ, List.getElem_toArray, List.getElem_cons_zero, List.getElem_cons_succ]
  refine wpAnyH_take (i := 17) (v := (.agg #[.int .i64 a.b, .int .i64 b.b, .int .i64 c.b])) rfl (by kernel_rfl) (by kernel_rfl) (by kernel_rfl) (fun _ _ _ h => h) (Or.inl ⟨by rfl, fun w hw => by obtain ⟨x, rfl⟩ := hw; go_simp⟩) hS ?_
  try simp only [Act.put, List.setIfInBounds_toArray, List.set_cons_zero, List.set_cons_succ, List.getElem_toArray, List.getElem_cons_zero, List.getElem_cons_succ]
  refine wpAnyH_ready (rs := [18]) (by kernel_rfl) (by simp) ?_
  refine AllReadyH.cons rfl (fun K hK => ?_) AllReadyH.nil
  go_simp
  with_reducible refine (D1.out _ _ _ (nB_grow Hg.out BV1.out) (cell_grow Hh.out BV1.out)).mono ?_
  rintro e S1 ⟨rfl, hb⟩
  have BS1 := Lib.hid (bstep BV1.out BV1.out.size hb)
  have RS1 := Lib.hid (fB_grow RV1.out hb)
  clear hb RV1 BV1
  refine hK.out _ _ ⟨⟨_, BS1.out⟩, rfl⟩ (fun hS => ?_)
  clear hK K
  try simp only [Act.put, List.setIfInBounds_toArray, List.set_cons_zero, List.set_cons_succ, List.getElem_toArray, List.getElem_cons_zero, List.getElem_cons_succ]
  refine wpAnyH_take (i := 19) (v := (.pointer (some ⟨gl, 1, none⟩))) rfl (by kernel_rfl) (by kernel_rfl) (by kernel_rfl) (fun _ _ _ h => h) (Or.inl ⟨by rfl, fun w hw => by obtain ⟨x, rfl⟩ := hw; go_simp⟩) hS ?_
  try simp only [Act.put, List.setIfInBounds_toArray, List.set_cons_zero, List.set_cons_succ, List.getElem_toArray, List.getElem_cons_zero, List.getElem_cons_succ]
  obtain ⟨q0, q1, q2, q3⟩ := fB_cell RS1.out
  have f1 := fB_free RS1.out 1
  refine wpAnyH_ready (rs := [20]) (by kernel_rfl) (by simp) ?_
  refine AllReadyH.cons rfl (fun K hK => ?_) AllReadyH.nil
  go_simp
  have BU2 := Lib.hid (show Below t3.heap.size t3 (S1.setCell ⟨gl, 1, none⟩ (.int .i64 q)) from BS1.out.setCell (by rw [HL.out]; exact HG.out) _)
  have RU2 := Lib.hid (fB_set1 q RS1.out)
  refine hK.out _ _ ⟨⟨_, BU2.out⟩, rfl⟩ (fun hS => ?_)
  clear hK K hS q0 q1 q2 q3 f1 BS1 RS1
  try simp only [Act.put, List.setIfInBounds_toArray, List.set_cons_zero, List.set_cons_succ, List.getElem_toArray, List.getElem_cons_zero, List.getElem_cons_succ]
  refine wpAnyH_done (by kernel_rfl) ?_ _
  generalize S1.setCell ⟨gl, 1, none⟩ (.int .i64 q) = U2 at *
  go_wp2_with fail
  rw [rounds_succ]
  go_wp2_with fail
  obtain ⟨V2, hV⟩ : ∃ Y, Y = World.drew U2 := ⟨_, rfl⟩
  have BV2 := Lib.hid (show Below t3.heap.size t3 V2 by rw [hV]; exact BU2.out.drew)
  have RV2 := Lib.hid (show V2.heap[gl]? = some (fB p q 0 0) by rw [hV]; exact RU2.out)
  refine wp_region_held_drew (S := fun w' => ∃ x : Grow t3, w' = x.w) (by kernel_rfl) ⟨⟨V2, BV2.out⟩, hV.symm⟩ (fun hS => ?_)
  rw [← hV] at hS ⊢
  clear hV BU2 RU2
  refine wpAnyH_take (i := 0) (v := (.int .i64 2)) rfl (by kernel_rfl) (by kernel_rfl) (by kernel_rfl) (fun _ _ _ h => h) (Or.inl ⟨by rfl, fun w hw => by obtain ⟨x, rfl⟩ := hw; go_simp⟩) hS ?_
  try simp only [Act.put, List.setIfInBounds_toArray, List.set_cons_zero, List.set_cons_succ, List.getElem_toArray, List.getElem_cons_zero]
  refine wpAnyH_take (i := 1) (v := (.func (.func 33) #[] #[.pointer (some ⟨g, 0, none⟩), .pointer (some ⟨h, 0, none⟩)])) rfl (by kernel_rfl) (by kernel_rfl) (by kernel_rfl) (fun _ _ _ h => h) (Or.inl ⟨by rfl, fun w hw => by obtain ⟨x, rfl⟩ := hw; go_simp⟩) hS ?_
  try simp only [Act.put, List.setIfInBounds_toArray, List.set_cons_zero, List.set_cons_succ, List.getElem_toArray, List.getElem_cons_zero, List.getElem_cons_succ]
  refine wpAnyH_take (i := 2) (v := (.int .i64 2)) rfl (by kernel_rfl) (by kernel_rfl) (by kernel_rfl) (fun _ _ _ h => h) (Or.inl ⟨by rfl, fun w hw => by obtain ⟨x, rfl⟩ := hw; go_simp⟩) hS ?_
  try simp only [Act.put, List.setIfInBounds_toArray, List.set_cons_zero, List.set_cons_succ, List.getElem_toArray, List.getElem_cons_zero, List.getElem_cons_succ]
  refine wpAnyH_take (i := 3) (v := (.pointer (some ⟨w.heap.size, 0, none⟩))) rfl (by kernel_rfl) (by kernel_rfl) (by kernel_rfl) (fun _ _ _ h => h) (Or.inl ⟨by rfl, fun w hw => by obtain ⟨x, rfl⟩ := hw; go_simp⟩) hS ?_
  try simp only [Act.put, List.setIfInBounds_toArray, List.set_cons_zero, List.set_cons_succ, List.getElem_toArray, List.getElem_cons_zero, List.getElem_cons_succ]
  refine wpAnyH_take (i := 4) (v := (.pointer (some ⟨w.heap.size, 3, none⟩))) rfl (by kernel_rfl) (by kernel_rfl) (by kernel_rfl) (fun _ _ _ h => h) (Or.inl ⟨by rfl, fun w hw => by obtain ⟨x, rfl⟩ := hw; go_simp⟩) hS ?_
  try simp only [Act.put, List.setIfInBounds_toArray, List.set_cons_zero, List.set_cons_succ, List.getElem_toArray, List.getElem_cons_zero, List.getElem_cons_succ]
  refine wpAnyH_take (i := 5) (v := (.pointer (some ⟨w.heap.size, 5, none⟩))) rfl (by kernel_rfl) (by kernel_rfl) (by kernel_rfl) (fun _ _ _ h => h) (Or.inl ⟨by rfl, fun w hw => by obtain ⟨x, rfl⟩ := hw; go_simp⟩) hS ?_
  try simp only [Act.put, List.setIfInBounds_toArray, List.set_cons_zero, List.set_cons_succ, List.getElem_toArray, List.getElem_cons_zero, List.getElem_cons_succ]
  refine wpAnyH_take (i := 6) (v := (.int .i64 a.c)) rfl (by kernel_rfl) (by kernel_rfl) (by kernel_rfl) (fun _ _ _ h => h) (Or.inl ⟨by rfl, fun w hw => by obtain ⟨x, rfl⟩ := hw; go_simp⟩) hS ?_
  try simp only [Act.put, List.setIfInBounds_toArray, List.set_cons_zero, List.set_cons_succ, List.getElem_toArray, List.getElem_cons_zero, List.getElem_cons_succ]
  refine wpAnyH_take (i := 7) (v := (.int .i64 2)) rfl (by kernel_rfl) (by kernel_rfl) (by kernel_rfl) (fun _ _ _ h => h) (Or.inl ⟨by rfl, fun w hw => by obtain ⟨x, rfl⟩ := hw; go_simp⟩) hS ?_
  try simp only [Act.put, List.setIfInBounds_toArray, List.set_cons_zero, List.set_cons_succ, List.getElem_toArray, List.getElem_cons_zero, List.getElem_cons_succ]
  refine wpAnyH_take (i := 8) (v := (.pointer (some ⟨w.heap.size, 7, none⟩))) rfl (by kernel_rfl) (by kernel_rfl) (by kernel_rfl) (fun _ _ _ h => h) (Or.inl ⟨by rfl, fun w hw => by obtain ⟨x, rfl⟩ := hw; go_simp⟩) hS ?_
  try simp only [Act.put, List.setIfInBounds_toArray, List.set_cons_zero, List.set_cons_succ, List.getElem_toArray, List.getElem_cons_zero, List.getElem_cons_succ]
  refine wpAnyH_take (i := 9) (v := (.pointer (some ⟨w.heap.size, 10, none⟩))) rfl (by kernel_rfl) (by kernel_rfl) (by kernel_rfl) (fun _ _ _ h => h) (Or.inl ⟨by rfl, fun w hw => by obtain ⟨x, rfl⟩ := hw; go_simp⟩) hS ?_
  try simp only [Act.put, List.setIfInBounds_toArray, List.set_cons_zero, List.set_cons_succ, List.getElem_toArray, List.getElem_cons_zero, List.getElem_cons_succ]
  refine wpAnyH_take (i := 10) (v := (.pointer (some ⟨w.heap.size, 12, none⟩))) rfl (by kernel_rfl) (by kernel_rfl) (by kernel_rfl) (fun _ _ _ h => h) (Or.inl ⟨by rfl, fun w hw => by obtain ⟨x, rfl⟩ := hw; go_simp⟩) hS ?_
  try simp only [Act.put, List.setIfInBounds_toArray, List.set_cons_zero, List.set_cons_succ, List.getElem_toArray, List.getElem_cons_zero, List.getElem_cons_succ]
  refine wpAnyH_take (i := 11) (v := (.int .i64 b.c)) rfl (by kernel_rfl) (by kernel_rfl) (by kernel_rfl) (fun _ _ _ h => h) (Or.inl ⟨by rfl, fun w hw => by obtain ⟨x, rfl⟩ := hw; go_simp⟩) hS ?_
  try simp only [Act.put, List.setIfInBounds_toArray, List.set_cons_zero, List.set_cons_succ, List.getElem_toArray, List.getElem_cons_zero, List.getElem_cons_succ]
  refine wpAnyH_take (i := 12) (v := (.int .i64 2)) rfl (by kernel_rfl) (by kernel_rfl) (by kernel_rfl) (fun _ _ _ h => h) (Or.inl ⟨by rfl, fun w hw => by obtain ⟨x, rfl⟩ := hw; go_simp⟩) hS ?_
  try simp only [Act.put, List.setIfInBounds_toArray, List.set_cons_zero, List.set_cons_succ, List.getElem_toArray, List.getElem_cons_zero, List.getElem_cons_succ]
  refine wpAnyH_take (i := 13) (v := (.pointer (some ⟨w.heap.size, 14, none⟩))) rfl (by kernel_rfl) (by kernel_rfl) (by kernel_rfl) (fun _ _ _ h => h) (Or.inl ⟨by rfl, fun w hw => by obtain ⟨x, rfl⟩ := hw; go_simp⟩) hS ?_
  try simp only [Act.put, List.setIfInBounds_toArray, List.set_cons_zero, List.set_cons_succ, List.getElem_toArray, List.getElem_cons_zero, List.getElem_cons_succ]
  refine wpAnyH_take (i := 14) (v := (.pointer (some ⟨w.heap.size, 17, none⟩))) rfl (by kernel_rfl) (by kernel_rfl) (by kernel_rfl) (fun _ _ _ h => h) (Or.inl ⟨by rfl, fun w hw => by obtain ⟨x, rfl⟩ := hw; go_simp⟩) hS ?_
  try simp only [Act.put, List.setIfInBounds_toArray, List.set_cons_zero, List.set_cons_succ, List.getElem_toArray, List.getElem_cons_zero, List.getElem_cons_succ]
  refine wpAnyH_take (i := 15) (v := (.pointer (some ⟨w.heap.size, 19, none⟩))) rfl (by kernel_rfl) (by kernel_rfl) (by kernel_rfl) (fun _ _ _ h => h) (Or.inl ⟨by rfl, fun w hw => by obtain ⟨x, rfl⟩ := hw; go_simp⟩) hS ?_
  try simp only [Act.put, List.setIfInBounds_toArray, List.set_cons_zero, List.set_cons_succ, List.getElem_toArray, List.getElem_cons_zero, List.getElem_cons_succ]
  refine wpAnyH_take (i := 16) (v := (.int .i64 c.c)) rfl (by kernel_rfl) (by kernel_rfl) (by kernel_rfl) (fun _ _ _ h => h) (Or.inl ⟨by rfl, fun w hw => by obtain ⟨x, rfl⟩ := hw; go_simp⟩) hS ?_
  try simp only [Act.put, List.setIfInBounds_toArray, List.set_cons_zero, List.set_cons_succ, List.getElem_toArray, List.getElem_cons_zero, List.getElem_cons_succ]
  refine wpAnyH_take (i := 17) (v := (.agg #[.int .i64 a.c, .int .i64 b.c, .int .i64 c.c])) rfl (by kernel_rfl) (by kernel_rfl) (by kernel_rfl) (fun _ _ _ h => h) (Or.inl ⟨by rfl, fun w hw => by obtain ⟨x, rfl⟩ := hw; go_simp⟩) hS ?_
  try simp only [Act.put, List.setIfInBounds_toArray, List.set_cons_zero, List.set_cons_succ, List.getElem_toArray, List.getElem_cons_zero, List.getElem_cons_succ]
  refine wpAnyH_ready (rs := [18]) (by kernel_rfl) (by simp) ?_
  refine AllReadyH.cons rfl (fun K hK => ?_) AllReadyH.nil
  go_simp
  with_reducible refine (D2.out _ _ _ (nB_grow Hg.out BV2.out) (cell_grow Hh.out BV2.out)).mono ?_
  rintro e S2 ⟨rfl, hb⟩
  have BS2 := Lib.hid (bstep BV2.out BV2.out.size hb)
  have RS2 := Lib.hid (fB_grow RV2.out hb)
  clear hb RV2 BV2
  refine hK.out _ _ ⟨⟨_, BS2.out⟩, rfl⟩ (fun hS => ?_)
  clear hK K
  try simp only [Act.put, List.setIfInBounds_toArray, List.set_cons_zero, List.set_cons_succ, List.getElem_toArray, List.getElem_cons_zero, List.getElem_cons_succ]
  refine wpAnyH_take (i := 19) (v := (.pointer (some ⟨gl, 2, none⟩))) rfl (by kernel_rfl) (by kernel_rfl) (by kernel_rfl) (fun _ _ _ h => h) (Or.inl ⟨by rfl, fun w hw => by obtain ⟨x, rfl⟩ := hw; go_simp⟩) hS ?_
  try simp only [Act.put, List.setIfInBounds_toArray, List.set_cons_zero, List.set_cons_succ, List.getElem_toArray, List.getElem_cons_zero, List.getElem_cons_succ]
  obtain ⟨q0, q1, q2, q3⟩ := fB_cell RS2.out
  have f2 := fB_free RS2.out 2
  refine wpAnyH_ready (rs := [20]) (by kernel_rfl) (by simp) ?_
  refine AllReadyH.cons rfl (fun K hK => ?_) AllReadyH.nil
  go_simp
  have BU3 := Lib.hid (show Below t3.heap.size t3 (S2.setCell ⟨gl, 2, none⟩ (.int .i64 r)) from BS2.out.setCell (by rw [HL.out]; exact HG.out) _)
  have RU3 := Lib.hid (fB_set2 r RS2.out)
  refine hK.out _ _ ⟨⟨_, BU3.out⟩, rfl⟩ (fun hS => ?_)
  clear hK K hS q0 q1 q2 q3 f2 BS2 RS2
  try simp only [Act.put, List.setIfInBounds_toArray, List.set_cons_zero, List.set_cons_succ, List.getElem_toArray, List.getElem_cons_zero, List.getElem_cons_succ]
  refine wpAnyH_done (by kernel_rfl) ?_ _
  generalize S2.setCell ⟨gl, 2, none⟩ (.int .i64 r) = U3 at *
  go_wp2_with fail
  rw [rounds_succ]
  go_wp2_with fail
  obtain ⟨V3, hV⟩ : ∃ Y, Y = World.drew U3 := ⟨_, rfl⟩
  have BV3 := Lib.hid (show Below t3.heap.size t3 V3 by rw [hV]; exact BU3.out.drew)
  have RV3 := Lib.hid (show V3.heap[gl]? = some (fB p q r 0) by rw [hV]; exact RU3.out)
  refine wp_region_held_drew (S := fun w' => ∃ x : Grow t3, w' = x.w) (by kernel_rfl) ⟨⟨V3, BV3.out⟩, hV.symm⟩ (fun hS => ?_)
  rw [← hV] at hS ⊢
  clear hV BU3 RU3
  refine wpAnyH_take (i := 0) (v := (.int .i64 3)) rfl (by kernel_rfl) (by kernel_rfl) (by kernel_rfl) (fun _ _ _ h => h) (Or.inl ⟨by rfl, fun w hw => by obtain ⟨x, rfl⟩ := hw; go_simp⟩) hS ?_
  try simp only [Act.put, List.setIfInBounds_toArray, List.set_cons_zero, List.set_cons_succ, List.getElem_toArray, List.getElem_cons_zero]
  refine wpAnyH_take (i := 1) (v := (.func (.func 33) #[] #[.pointer (some ⟨g, 0, none⟩), .pointer (some ⟨h, 0, none⟩)])) rfl (by kernel_rfl) (by kernel_rfl) (by kernel_rfl) (fun _ _ _ h => h) (Or.inl ⟨by rfl, fun w hw => by obtain ⟨x, rfl⟩ := hw; go_simp⟩) hS ?_
  try simp only [Act.put, List.setIfInBounds_toArray, List.set_cons_zero, List.set_cons_succ, List.getElem_toArray, List.getElem_cons_zero, List.getElem_cons_succ]
  refine wpAnyH_take (i := 2) (v := (.int .i64 3)) rfl (by kernel_rfl) (by kernel_rfl) (by kernel_rfl) (fun _ _ _ h => h) (Or.inl ⟨by rfl, fun w hw => by obtain ⟨x, rfl⟩ := hw; go_simp⟩) hS ?_
  try simp only [Act.put, List.setIfInBounds_toArray, List.set_cons_zero, List.set_cons_succ, List.getElem_toArray, List.getElem_cons_zero, List.getElem_cons_succ]
  refine wpAnyH_take (i := 3) (v := (.pointer (some ⟨w.heap.size, 0, none⟩))) rfl (by kernel_rfl) (by kernel_rfl) (by kernel_rfl) (fun _ _ _ h => h) (Or.inl ⟨by rfl, fun w hw => by obtain ⟨x, rfl⟩ := hw; go_simp⟩) hS ?_
  try simp only [Act.put, List.setIfInBounds_toArray, List.set_cons_zero, List.set_cons_succ, List.getElem_toArray, List.getElem_cons_zero, List.getElem_cons_succ]
  refine wpAnyH_take (i := 4) (v := (.pointer (some ⟨w.heap.size, 3, none⟩))) rfl (by kernel_rfl) (by kernel_rfl) (by kernel_rfl) (fun _ _ _ h => h) (Or.inl ⟨by rfl, fun w hw => by obtain ⟨x, rfl⟩ := hw; go_simp⟩) hS ?_
  try simp only [Act.put, List.setIfInBounds_toArray, List.set_cons_zero, List.set_cons_succ, List.getElem_toArray, List.getElem_cons_zero, List.getElem_cons_succ]
  refine wpAnyH_take (i := 5) (v := (.pointer (some ⟨w.heap.size, 6, none⟩))) rfl (by kernel_rfl) (by kernel_rfl) (by kernel_rfl) (fun _ _ _ h => h) (Or.inl ⟨by rfl, fun w hw => by obtain ⟨x, rfl⟩ := hw; go_simp⟩) hS ?_
  try simp only [Act.put, List.setIfInBounds_toArray, List.set_cons_zero, List.set_cons_succ, List.getElem_toArray, List.getElem_cons_zero, List.getElem_cons_succ]
  refine wpAnyH_take (i := 6) (v := (.int .i64 a.d)) rfl (by kernel_rfl) (by kernel_rfl) (by kernel_rfl) (fun _ _ _ h => h) (Or.inl ⟨by rfl, fun w hw => by obtain ⟨x, rfl⟩ := hw; go_simp⟩) hS ?_
  try simp only [Act.put, List.setIfInBounds_toArray, List.set_cons_zero, List.set_cons_succ, List.getElem_toArray, List.getElem_cons_zero, List.getElem_cons_succ]
  refine wpAnyH_take (i := 7) (v := (.int .i64 3)) rfl (by kernel_rfl) (by kernel_rfl) (by kernel_rfl) (fun _ _ _ h => h) (Or.inl ⟨by rfl, fun w hw => by obtain ⟨x, rfl⟩ := hw; go_simp⟩) hS ?_
  try simp only [Act.put, List.setIfInBounds_toArray, List.set_cons_zero, List.set_cons_succ, List.getElem_toArray, List.getElem_cons_zero, List.getElem_cons_succ]
  refine wpAnyH_take (i := 8) (v := (.pointer (some ⟨w.heap.size, 7, none⟩))) rfl (by kernel_rfl) (by kernel_rfl) (by kernel_rfl) (fun _ _ _ h => h) (Or.inl ⟨by rfl, fun w hw => by obtain ⟨x, rfl⟩ := hw; go_simp⟩) hS ?_
  try simp only [Act.put, List.setIfInBounds_toArray, List.set_cons_zero, List.set_cons_succ, List.getElem_toArray, List.getElem_cons_zero, List.getElem_cons_succ]
  refine wpAnyH_take (i := 9) (v := (.pointer (some ⟨w.heap.size, 10, none⟩))) rfl (by kernel_rfl) (by kernel_rfl) (by kernel_rfl) (fun _ _ _ h => h) (Or.inl ⟨by rfl, fun w hw => by obtain ⟨x, rfl⟩ := hw; go_simp⟩) hS ?_
  try simp only [Act.put, List.setIfInBounds_toArray, List.set_cons_zero, List.set_cons_succ, List.getElem_toArray, List.getElem_cons_zero, List.getElem_cons_succ]
  refine wpAnyH_take (i := 10) (v := (.pointer (some ⟨w.heap.size, 13, none⟩))) rfl (by kernel_rfl) (by kernel_rfl) (by kernel_rfl) (fun _ _ _ h => h) (Or.inl ⟨by rfl, fun w hw => by obtain ⟨x, rfl⟩ := hw; go_simp⟩) hS ?_
  try simp only [Act.put, List.setIfInBounds_toArray, List.set_cons_zero, List.set_cons_succ, List.getElem_toArray, List.getElem_cons_zero, List.getElem_cons_succ]
  refine wpAnyH_take (i := 11) (v := (.int .i64 b.d)) rfl (by kernel_rfl) (by kernel_rfl) (by kernel_rfl) (fun _ _ _ h => h) (Or.inl ⟨by rfl, fun w hw => by obtain ⟨x, rfl⟩ := hw; go_simp⟩) hS ?_
  try simp only [Act.put, List.setIfInBounds_toArray, List.set_cons_zero, List.set_cons_succ, List.getElem_toArray, List.getElem_cons_zero, List.getElem_cons_succ]
  refine wpAnyH_take (i := 12) (v := (.int .i64 3)) rfl (by kernel_rfl) (by kernel_rfl) (by kernel_rfl) (fun _ _ _ h => h) (Or.inl ⟨by rfl, fun w hw => by obtain ⟨x, rfl⟩ := hw; go_simp⟩) hS ?_
  try simp only [Act.put, List.setIfInBounds_toArray, List.set_cons_zero, List.set_cons_succ, List.getElem_toArray, List.getElem_cons_zero, List.getElem_cons_succ]
  refine wpAnyH_take (i := 13) (v := (.pointer (some ⟨w.heap.size, 14, none⟩))) rfl (by kernel_rfl) (by kernel_rfl) (by kernel_rfl) (fun _ _ _ h => h) (Or.inl ⟨by rfl, fun w hw => by obtain ⟨x, rfl⟩ := hw; go_simp⟩) hS ?_
  try simp only [Act.put, List.setIfInBounds_toArray, List.set_cons_zero, List.set_cons_succ, List.getElem_toArray, List.getElem_cons_zero, List.getElem_cons_succ]
  refine wpAnyH_take (i := 14) (v := (.pointer (some ⟨w.heap.size, 17, none⟩))) rfl (by kernel_rfl) (by kernel_rfl) (by kernel_rfl) (fun _ _ _ h => h) (Or.inl ⟨by rfl, fun w hw => by obtain ⟨x, rfl⟩ := hw; go_simp⟩) hS ?_
  try simp only [Act.put, List.setIfInBounds_toArray, List.set_cons_zero, List.set_cons_succ, List.getElem_toArray, List.getElem_cons_zero, List.getElem_cons_succ]
  refine wpAnyH_take (i := 15) (v := (.pointer (some ⟨w.heap.size, 20, none⟩))) rfl (by kernel_rfl) (by kernel_rfl) (by kernel_rfl) (fun _ _ _ h => h) (Or.inl ⟨by rfl, fun w hw => by obtain ⟨x, rfl⟩ := hw; go_simp⟩) hS ?_
  try simp only [Act.put, List.setIfInBounds_toArray, List.set_cons_zero, List.set_cons_succ, List.getElem_toArray, List.getElem_cons_zero, List.getElem_cons_succ]
  refine wpAnyH_take (i := 16) (v := (.int .i64 c.d)) rfl (by kernel_rfl) (by kernel_rfl) (by kernel_rfl) (fun _ _ _ h => h) (Or.inl ⟨by rfl, fun w hw => by obtain ⟨x, rfl⟩ := hw; go_simp⟩) hS ?_
  try simp only [Act.put, List.setIfInBounds_toArray, List.set_cons_zero, List.set_cons_succ, List.getElem_toArray, List.getElem_cons_zero, List.getElem_cons_succ]
  refine wpAnyH_take (i := 17) (v := (.agg #[.int .i64 a.d, .int .i64 b.d, .int .i64 c.d])) rfl (by kernel_rfl) (by kernel_rfl) (by kernel_rfl) (fun _ _ _ h => h) (Or.inl ⟨by rfl, fun w hw => by obtain ⟨x, rfl⟩ := hw; go_simp⟩) hS ?_
  try simp only [Act.put, List.setIfInBounds_toArray, List.set_cons_zero, List.set_cons_succ, List.getElem_toArray, List.getElem_cons_zero, List.getElem_cons_succ]
  refine wpAnyH_ready (rs := [18]) (by kernel_rfl) (by simp) ?_
  refine AllReadyH.cons rfl (fun K hK => ?_) AllReadyH.nil
  go_simp
  with_reducible refine (D3.out _ _ _ (nB_grow Hg.out BV3.out) (cell_grow Hh.out BV3.out)).mono ?_
  rintro e S3 ⟨rfl, hb⟩
  have BS3 := Lib.hid (bstep BV3.out BV3.out.size hb)
  have RS3 := Lib.hid (fB_grow RV3.out hb)
  clear hb RV3 BV3
  refine hK.out _ _ ⟨⟨_, BS3.out⟩, rfl⟩ (fun hS => ?_)
  clear hK K
  try simp only [Act.put, List.setIfInBounds_toArray, List.set_cons_zero, List.set_cons_succ, List.getElem_toArray, List.getElem_cons_zero, List.getElem_cons_succ]
  refine wpAnyH_take (i := 19) (v := (.pointer (some ⟨gl, 3, none⟩))) rfl (by kernel_rfl) (by kernel_rfl) (by kernel_rfl) (fun _ _ _ h => h) (Or.inl ⟨by rfl, fun w hw => by obtain ⟨x, rfl⟩ := hw; go_simp⟩) hS ?_
  try simp only [Act.put, List.setIfInBounds_toArray, List.set_cons_zero, List.set_cons_succ, List.getElem_toArray, List.getElem_cons_zero, List.getElem_cons_succ]
  obtain ⟨q0, q1, q2, q3⟩ := fB_cell RS3.out
  have f3 := fB_free RS3.out 3
  refine wpAnyH_ready (rs := [20]) (by kernel_rfl) (by simp) ?_
  refine AllReadyH.cons rfl (fun K hK => ?_) AllReadyH.nil
  go_simp
  have BU4 := Lib.hid (show Below t3.heap.size t3 (S3.setCell ⟨gl, 3, none⟩ (.int .i64 s)) from BS3.out.setCell (by rw [HL.out]; exact HG.out) _)
  have RU4 := Lib.hid (fB_set3 s RS3.out)
  refine hK.out _ _ ⟨⟨_, BU4.out⟩, rfl⟩ (fun hS => ?_)
  clear hK K hS q0 q1 q2 q3 f3 BS3 RS3
  try simp only [Act.put, List.setIfInBounds_toArray, List.set_cons_zero, List.set_cons_succ, List.getElem_toArray, List.getElem_cons_zero, List.getElem_cons_succ]
  refine wpAnyH_done (by kernel_rfl) ?_ _
  generalize S3.setCell ⟨gl, 3, none⟩ (.int .i64 s) = U4 at *
  go_wp2_with fail
  rw [rounds_succ]
  obtain ⟨q0, q1, q2, q3⟩ := fB_cell RU4.out
  have RR := Lib.hid (fB_grow R3.out BU4.out)
  obtain ⟨z0, z1, z2, z3⟩ := fB_cell RR.out
  have f0 := fB_free RR.out 0
  have f1 := fB_free RR.out 1
  have f2 := fB_free RR.out 2
  have f3 := fB_free RR.out 3
  have BF := Lib.hid (bstep BT.out BT.out.size BU4.out)
  clear y0 y1 y2 y3 y4 y5 y6 y7 y8 y9 y10 y11 y12 y13 y14 y15 y16 y17 y18 y19 y20
  go_wp2
  refine bodyPost_ret (v := .agg #[.int .i64 p, .int .i64 q, .int .i64 r, .int .i64 s]) (by simp [results, Try.results16, go_sem, *]) rfl ⟨rfl, ?_⟩
  exact (((BF.out.setCell (by simp) _).setCell (by simp) _).setCell (by simp) _).setCell (by simp) _

/-- Attributes that are asked. -/
structure P.at (v : P) : Prop where
  a : Ask v.a
  b : Ask v.b
  c : Ask v.c
  d : Ask v.d
theorem attrs_any (a b c : P) (x y p q r s : Int) (ha : a.ok) (hb : b.ok) (hc : c.ok) (ka : a.at) (kb : b.at) (kc : c.at) (hx : Pxl x) (hy : Pxl y)
    (hp : num a b c a.a b.a c.a (16 * x + 8) (16 * y + 8) = p)
    (hq : num a b c a.b b.b c.b (16 * x + 8) (16 * y + 8) = q)
    (hr : num a b c a.c b.c c.c (16 * x + 8) (16 * y + 8) = r)
    (hs : num a b c a.d b.d c.d (16 * x + 8) (16 * y + 8) = s) (w : World) :
    Calls Try.prog 16 #[.agg #[.int .i64 a.x, .int .i64 a.y, .int .i64 a.z, .int .i64 a.a, .int .i64 a.b, .int .i64 a.c, .int .i64 a.d, .int .i64 b.x, .int .i64 b.y, .int .i64 b.z, .int .i64 b.a, .int .i64 b.b, .int .i64 b.c, .int .i64 b.d, .int .i64 c.x, .int .i64 c.y, .int .i64 c.z, .int .i64 c.a, .int .i64 c.b, .int .i64 c.c, .int .i64 c.d], .int .i64 x, .int .i64 y] w fun e w' => e = .returned (.agg #[.int .i64 p, .int .i64 q, .int .i64 r, .int .i64 s]) ∧ Below w.heap.size w w' := by
  subst hp hq hr hs
  have C1 := Lib.hid (fun w => centre_any x _ (by have := hx.1; omega) (by have := hx.2; omega) rfl w)
  have C2 := Lib.hid (fun w => centre_any y _ (by have := hy.1; omega) (by have := hy.2; omega) rfl w)
  obtain ⟨x0, x1⟩ := hx.in14
  obtain ⟨y0, y1⟩ := hy.in14
  rcases Int.lt_or_le 0 (area a b c) with h | h
  · rw [num_pos h, num_pos h, num_pos h, num_pos h]
    refine attrs_some a b c x y _ _ _ _ _ _ _ _ _ _ C1 C2 (Lib.hid (fun w => over_some a b c _ _ ha.sm hb.sm hc.sm (by omega) (by omega) (by omega) (by omega) h w)) ?_ ?_ ?_ ?_ w
    · exact Lib.hid (fun g h' w => over2_any _ _ _ _ _ _ _ _ g h' w ka.a kb.a kc.a (crs_in hb hc x0 x1 y0 y1) (crs_in hc ha x0 x1 y0 y1) (crs_in ha hb x0 x1 y0 y1) h (area_in ha hb hc).2 rfl)
    · exact Lib.hid (fun g h' w => over2_any _ _ _ _ _ _ _ _ g h' w ka.b kb.b kc.b (crs_in hb hc x0 x1 y0 y1) (crs_in hc ha x0 x1 y0 y1) (crs_in ha hb x0 x1 y0 y1) h (area_in ha hb hc).2 rfl)
    · exact Lib.hid (fun g h' w => over2_any _ _ _ _ _ _ _ _ g h' w ka.c kb.c kc.c (crs_in hb hc x0 x1 y0 y1) (crs_in hc ha x0 x1 y0 y1) (crs_in ha hb x0 x1 y0 y1) h (area_in ha hb hc).2 rfl)
    · exact Lib.hid (fun g h' w => over2_any _ _ _ _ _ _ _ _ g h' w ka.d kb.d kc.d (crs_in hb hc x0 x1 y0 y1) (crs_in hc ha x0 x1 y0 y1) (crs_in ha hb x0 x1 y0 y1) h (area_in ha hb hc).2 rfl)
  · rw [num_neg h, num_neg h, num_neg h, num_neg h]
    exact attrs_none a b c x y _ _ C1 C2 (Lib.hid (fun w => over_none a b c _ _ ha.sm hb.sm hc.sm h w)) w
end Go.Proofs.Ytiijpehchifheaa
