/-
  The contract of plane.over.
-/
import Derived.Test.YtiijpehchifheaaOver2
namespace Go.Proofs.Ytiijpehchifheaa
open Go.RowKit
attribute [local go_sem ↓] Go.wp_at_zero Go.wp_at_succ

theorem mk_func (fn : Fn) (first cap : Array Value) (w : World) : (Instr.makeFunc fn first cap).run Try.prog w = .ok (.func fn first cap) w := rfl

theorem over_none (a b c : P) (x y : Int) (ha : a.sm) (hb : b.sm) (hc : c.sm) (hs : area a b c ≤ 0) (w : World) :
    Calls Try.prog 23 #[.agg #[.int .i64 a.x, .int .i64 a.y, .int .i64 a.z, .int .i64 a.a, .int .i64 a.b, .int .i64 a.c, .int .i64 a.d, .int .i64 b.x, .int .i64 b.y, .int .i64 b.z, .int .i64 b.a, .int .i64 b.b, .int .i64 b.c, .int .i64 b.d, .int .i64 c.x, .int .i64 c.y, .int .i64 c.z, .int .i64 c.a, .int .i64 c.b, .int .i64 c.c, .int .i64 c.d], .int .i64 x, .int .i64 y] w fun e w' => e = .returned (.func (.func 31) #[] #[]) ∧ Below w.heap.size w w' := by
  have HK := Lib.hid fun o => ((Below.refl w.heap.size w).alloc (Nat.le_refl _) o)
  have HA := Lib.hid (area_any a b c ha hb hc)
  generalize area a b c = s at *
  clear ha hb hc
  go_enter Try.func23, Try.ntmps23
  go_wp2_with (refine wp_loadT _ rfl rfl rfl (new_at rfl) ?_)
  with_reducible refine (HA.out _).mono ?_
  rintro e w1 ⟨rfl, hb⟩
  have K1 := Lib.hid (bstep (HK.out _) (by simp) hb)
  clear hb
  go_wp2
  go_ret
  exact ⟨rfl, K1.out.alloc K1.out.size _⟩

/-- What plane.over hands back where a triangle is one: what keeps the three weights, and the area. -/
def Kept (w : World) (p q r s : Int) (e : Ending) (w' : World) : Prop :=
  ∃ g h, e = .returned (.func (.func 33) #[] #[.pointer (some ⟨g, 0, none⟩), .pointer (some ⟨h, 0, none⟩)]) ∧ w'.heap[g]? = some (nB p q r) ∧ w'.cell? ⟨h, 0, none⟩ = some (.int .i64 s) ∧ Below w.heap.size w w'

set_option maxRecDepth 100000 in
set_option maxHeartbeats 2000000 in
theorem over_some (a b c : P) (x y : Int) (ha : a.sm) (hb : b.sm) (hc : c.sm) (hx0 : -65536 ≤ x) (hx1 : x ≤ 65536) (hy0 : -65536 ≤ y) (hy1 : y ≤ 65536) (hs : 0 < area a b c) (w : World) :
    Calls Try.prog 23 #[.agg #[.int .i64 a.x, .int .i64 a.y, .int .i64 a.z, .int .i64 a.a, .int .i64 a.b, .int .i64 a.c, .int .i64 a.d, .int .i64 b.x, .int .i64 b.y, .int .i64 b.z, .int .i64 b.a, .int .i64 b.b, .int .i64 b.c, .int .i64 b.d, .int .i64 c.x, .int .i64 c.y, .int .i64 c.z, .int .i64 c.a, .int .i64 c.b, .int .i64 c.c, .int .i64 c.d], .int .i64 x, .int .i64 y] w (Kept w (crs b c x y) (crs c a x y) (crs a b x y) (area a b c)) := by
  have HK := Lib.hid fun o => ((Below.refl w.heap.size w).alloc (Nat.le_refl _) o)
  have HA := Lib.hid (area_any a b c ha hb hc)
  have H1 := Lib.hid (fun w => cross_any b c x y hb hc hx0 hx1 hy0 hy1 w)
  have H2 := Lib.hid (fun w => cross_any c a x y hc ha hx0 hx1 hy0 hy1 w)
  have H3 := Lib.hid (fun w => cross_any a b x y ha hb hx0 hx1 hy0 hy1 w)
  have hmf := mk_func
  generalize area a b c = s at *
  generalize crs b c x y = p at *
  generalize crs c a x y = q at *
  generalize crs a b x y = r at *
  clear ha hb hc hx0 hx1 hy0 hy1
  unfold Kept
  go_enter Try.func23, Try.ntmps23
  go_wp2_with (refine wp_loadT _ rfl rfl rfl (new_at rfl) ?_)
  with_reducible refine (HA.out _).mono ?_
  rintro e w1 ⟨rfl, hb⟩
  have K1 := Lib.hid (bstep (HK.out _) (by simp) hb)
  have T1 := Lib.hid (show w1.heap[w.heap.size]? = some (tB a b c) from tB_grow (new_at rfl) hb)
  clear hb
  go_upto_region 4 with fail
  obtain ⟨X1, hX1⟩ : ∃ X1, X1 = w1.alloc (Obj.cells #[.int .i64 s] 3) := ⟨_, rfl⟩
  rw [← hX1]
  have BW := Lib.hid (show Below w.heap.size w X1 by rw [hX1]; exact K1.out.alloc K1.out.size _)
  have T2 := Lib.hid (show X1.heap[w.heap.size]? = some (tB a b c) by rw [hX1]; exact tB_alloc _ T1.out)
  have hh := Lib.hid (show X1.cell? ⟨w1.heap.size, 0, none⟩ = some (.int .i64 s) by rw [hX1]; simp [go_sem])
  generalize w1.heap.size = h at *
  have G3 := Lib.hid (BW.out.size)
  clear hX1 T1 K1
  obtain ⟨⟨x0, x1, x2, x3, x4, x5, x6⟩, ⟨x7, x8, x9, x10, x11, x12, x13⟩, ⟨x14, x15, x16, x17, x18, x19, x20⟩⟩ := tB_cell T2.out
  obtain ⟨Y0, hY0⟩ : ∃ Y0, Y0 = World.drew X1 := ⟨_, rfl⟩
  have BY0 := Lib.hid (show Below X1.heap.size X1 Y0 by rw [hY0]; exact (Below.refl _ _).drew)
  refine wp_region_held_drew (S := fun w' => ∃ x : Grow X1, w' = x.w) (by kernel_rfl) ⟨⟨Y0, BY0.out⟩, hY0.symm⟩ (fun hS => ?_)
  rw [← hY0] at hS ⊢
  have y0 : ∀ x : Grow X1, x.w.cell? ⟨w.heap.size, 0, none⟩ = some (.int .i64 a.x) := fun x => x.cell x0
  have y1 : ∀ x : Grow X1, x.w.cell? ⟨w.heap.size, 1, none⟩ = some (.int .i64 a.y) := fun x => x.cell x1
  have y2 : ∀ x : Grow X1, x.w.cell? ⟨w.heap.size, 2, none⟩ = some (.int .i64 a.z) := fun x => x.cell x2
  have y3 : ∀ x : Grow X1, x.w.cell? ⟨w.heap.size, 3, none⟩ = some (.int .i64 a.a) := fun x => x.cell x3
  have y4 : ∀ x : Grow X1, x.w.cell? ⟨w.heap.size, 4, none⟩ = some (.int .i64 a.b) := fun x => x.cell x4
  have y5 : ∀ x : Grow X1, x.w.cell? ⟨w.heap.size, 5, none⟩ = some (.int .i64 a.c) := fun x => x.cell x5
  have y6 : ∀ x : Grow X1, x.w.cell? ⟨w.heap.size, 6, none⟩ = some (.int .i64 a.d) := fun x => x.cell x6
  have y7 : ∀ x : Grow X1, x.w.cell? ⟨w.heap.size, 7, none⟩ = some (.int .i64 b.x) := fun x => x.cell x7
  have y8 : ∀ x : Grow X1, x.w.cell? ⟨w.heap.size, 8, none⟩ = some (.int .i64 b.y) := fun x => x.cell x8
  have y9 : ∀ x : Grow X1, x.w.cell? ⟨w.heap.size, 9, none⟩ = some (.int .i64 b.z) := fun x => x.cell x9
  have y10 : ∀ x : Grow X1, x.w.cell? ⟨w.heap.size, 10, none⟩ = some (.int .i64 b.a) := fun x => x.cell x10
  have y11 : ∀ x : Grow X1, x.w.cell? ⟨w.heap.size, 11, none⟩ = some (.int .i64 b.b) := fun x => x.cell x11
  have y12 : ∀ x : Grow X1, x.w.cell? ⟨w.heap.size, 12, none⟩ = some (.int .i64 b.c) := fun x => x.cell x12
  have y13 : ∀ x : Grow X1, x.w.cell? ⟨w.heap.size, 13, none⟩ = some (.int .i64 b.d) := fun x => x.cell x13
  have y14 : ∀ x : Grow X1, x.w.cell? ⟨w.heap.size, 14, none⟩ = some (.int .i64 c.x) := fun x => x.cell x14
  have y15 : ∀ x : Grow X1, x.w.cell? ⟨w.heap.size, 15, none⟩ = some (.int .i64 c.y) := fun x => x.cell x15
  have y16 : ∀ x : Grow X1, x.w.cell? ⟨w.heap.size, 16, none⟩ = some (.int .i64 c.z) := fun x => x.cell x16
  have y17 : ∀ x : Grow X1, x.w.cell? ⟨w.heap.size, 17, none⟩ = some (.int .i64 c.a) := fun x => x.cell x17
  have y18 : ∀ x : Grow X1, x.w.cell? ⟨w.heap.size, 18, none⟩ = some (.int .i64 c.b) := fun x => x.cell x18
  have y19 : ∀ x : Grow X1, x.w.cell? ⟨w.heap.size, 19, none⟩ = some (.int .i64 c.c) := fun x => x.cell x19
  have y20 : ∀ x : Grow X1, x.w.cell? ⟨w.heap.size, 20, none⟩ = some (.int .i64 c.d) := fun x => x.cell x20
  clear hY0 x0 x1 x2 x3 x4 x5 x6 x7 x8 x9 x10 x11 x12 x13 x14 x15 x16 x17 x18 x19 x20
  refine wpAnyH_take (i := 0) (v := (.pointer (some ⟨w.heap.size, 7, none⟩))) rfl (by kernel_rfl) (by kernel_rfl) (by kernel_rfl) (fun _ _ _ h => h) (Or.inl ⟨by rfl, fun w hw => by obtain ⟨x, rfl⟩ := hw; go_simp⟩) hS ?_
  try simp only [Act.put, List.setIfInBounds_toArray, List.set_cons_zero, List.set_cons_succ, List.getElem_toArray, List.getElem_cons_zero]
  refine wpAnyH_take (i := 1) (v := (.agg #[.int .i64 b.x, .int .i64 b.y, .int .i64 b.z, .int .i64 b.a, .int .i64 b.b, .int .i64 b.c, .int .i64 b.d])) rfl (by kernel_rfl) (by kernel_rfl) (by kernel_rfl) (fun _ _ _ h => h) (Or.inl ⟨by rfl, fun w hw => by obtain ⟨x, rfl⟩ := hw; go_simp⟩) hS ?_
  try simp only [Act.put, List.setIfInBounds_toArray, List.set_cons_zero, List.set_cons_succ, List.getElem_toArray, List.getElem_cons_zero, List.getElem_cons_succ]
  refine wpAnyH_take (i := 2) (v := (.pointer (some ⟨w.heap.size, 14, none⟩))) rfl (by kernel_rfl) (by kernel_rfl) (by kernel_rfl) (fun _ _ _ h => h) (Or.inl ⟨by rfl, fun w hw => by obtain ⟨x, rfl⟩ := hw; go_simp⟩) hS ?_
  try simp only [Act.put, List.setIfInBounds_toArray, List.set_cons_zero, List.set_cons_succ, List.getElem_toArray, List.getElem_cons_zero, List.getElem_cons_succ]
  refine wpAnyH_take (i := 3) (v := (.agg #[.int .i64 c.x, .int .i64 c.y, .int .i64 c.z, .int .i64 c.a, .int .i64 c.b, .int .i64 c.c, .int .i64 c.d])) rfl (by kernel_rfl) (by kernel_rfl) (by kernel_rfl) (fun _ _ _ h => h) (Or.inl ⟨by rfl, fun w hw => by obtain ⟨x, rfl⟩ := hw; go_simp⟩) hS ?_
  try simp only [Act.put, List.setIfInBounds_toArray, List.set_cons_zero, List.set_cons_succ, List.getElem_toArray, List.getElem_cons_zero, List.getElem_cons_succ]
  refine wpAnyH_take (i := 4) (v := (.int .i64 x)) rfl (by kernel_rfl) (by kernel_rfl) (by kernel_rfl) (fun _ _ _ h => h) (Or.inl ⟨by rfl, fun w hw => by obtain ⟨x, rfl⟩ := hw; go_simp⟩) hS ?_
  try simp only [Act.put, List.setIfInBounds_toArray, List.set_cons_zero, List.set_cons_succ, List.getElem_toArray, List.getElem_cons_zero, List.getElem_cons_succ]
  refine wpAnyH_take (i := 5) (v := (.int .i64 y)) rfl (by kernel_rfl) (by kernel_rfl) (by kernel_rfl) (fun _ _ _ h => h) (Or.inl ⟨by rfl, fun w hw => by obtain ⟨x, rfl⟩ := hw; go_simp⟩) hS ?_
  try simp only [Act.put, List.setIfInBounds_toArray, List.set_cons_zero, List.set_cons_succ, List.getElem_toArray, List.getElem_cons_zero, List.getElem_cons_succ]
  refine wpAnyH_take (i := 7) (v := (.pointer (some ⟨w.heap.size, 14, none⟩))) rfl (by kernel_rfl) (by kernel_rfl) (by kernel_rfl) (fun _ _ _ h => h) (Or.inl ⟨by rfl, fun w hw => by obtain ⟨x, rfl⟩ := hw; go_simp⟩) hS ?_
  try simp only [Act.put, List.setIfInBounds_toArray, List.set_cons_zero, List.set_cons_succ, List.getElem_toArray, List.getElem_cons_zero, List.getElem_cons_succ]
  refine wpAnyH_take (i := 8) (v := (.agg #[.int .i64 c.x, .int .i64 c.y, .int .i64 c.z, .int .i64 c.a, .int .i64 c.b, .int .i64 c.c, .int .i64 c.d])) rfl (by kernel_rfl) (by kernel_rfl) (by kernel_rfl) (fun _ _ _ h => h) (Or.inl ⟨by rfl, fun w hw => by obtain ⟨x, rfl⟩ := hw; go_simp⟩) hS ?_
  try simp only [Act.put, List.setIfInBounds_toArray, List.set_cons_zero, List.set_cons_succ, List.getElem_toArray, List.getElem_cons_zero, List.getElem_cons_succ]
  refine wpAnyH_take (i := 9) (v := (.pointer (some ⟨w.heap.size, 0, none⟩))) rfl (by kernel_rfl) (by kernel_rfl) (by kernel_rfl) (fun _ _ _ h => h) (Or.inl ⟨by rfl, fun w hw => by obtain ⟨x, rfl⟩ := hw; go_simp⟩) hS ?_
  try simp only [Act.put, List.setIfInBounds_toArray, List.set_cons_zero, List.set_cons_succ, List.getElem_toArray, List.getElem_cons_zero, List.getElem_cons_succ]
  refine wpAnyH_take (i := 10) (v := (.agg #[.int .i64 a.x, .int .i64 a.y, .int .i64 a.z, .int .i64 a.a, .int .i64 a.b, .int .i64 a.c, .int .i64 a.d])) rfl (by kernel_rfl) (by kernel_rfl) (by kernel_rfl) (fun _ _ _ h => h) (Or.inl ⟨by rfl, fun w hw => by obtain ⟨x, rfl⟩ := hw; go_simp⟩) hS ?_
  try simp only [Act.put, List.setIfInBounds_toArray, List.set_cons_zero, List.set_cons_succ, List.getElem_toArray, List.getElem_cons_zero, List.getElem_cons_succ]
  refine wpAnyH_take (i := 11) (v := (.int .i64 x)) rfl (by kernel_rfl) (by kernel_rfl) (by kernel_rfl) (fun _ _ _ h => h) (Or.inl ⟨by rfl, fun w hw => by obtain ⟨x, rfl⟩ := hw; go_simp⟩) hS ?_
  try simp only [Act.put, List.setIfInBounds_toArray, List.set_cons_zero, List.set_cons_succ, List.getElem_toArray, List.getElem_cons_zero, List.getElem_cons_succ]
  refine wpAnyH_take (i := 12) (v := (.int .i64 y)) rfl (by kernel_rfl) (by kernel_rfl) (by kernel_rfl) (fun _ _ _ h => h) (Or.inl ⟨by rfl, fun w hw => by obtain ⟨x, rfl⟩ := hw; go_simp⟩) hS ?_
  try simp only [Act.put, List.setIfInBounds_toArray, List.set_cons_zero, List.set_cons_succ, List.getElem_toArray, List.getElem_cons_zero, List.getElem_cons_succ]
  refine wpAnyH_take (i := 14) (v := (.pointer (some ⟨w.heap.size, 0, none⟩))) rfl (by kernel_rfl) (by kernel_rfl) (by kernel_rfl) (fun _ _ _ h => h) (Or.inl ⟨by rfl, fun w hw => by obtain ⟨x, rfl⟩ := hw; go_simp⟩) hS ?_
  try simp only [Act.put, List.setIfInBounds_toArray, List.set_cons_zero, List.set_cons_succ, List.getElem_toArray, List.getElem_cons_zero, List.getElem_cons_succ]
  refine wpAnyH_take (i := 15) (v := (.agg #[.int .i64 a.x, .int .i64 a.y, .int .i64 a.z, .int .i64 a.a, .int .i64 a.b, .int .i64 a.c, .int .i64 a.d])) rfl (by kernel_rfl) (by kernel_rfl) (by kernel_rfl) (fun _ _ _ h => h) (Or.inl ⟨by rfl, fun w hw => by obtain ⟨x, rfl⟩ := hw; go_simp⟩) hS ?_
  try simp only [Act.put, List.setIfInBounds_toArray, List.set_cons_zero, List.set_cons_succ, List.getElem_toArray, List.getElem_cons_zero, List.getElem_cons_succ]
  refine wpAnyH_take (i := 16) (v := (.pointer (some ⟨w.heap.size, 7, none⟩))) rfl (by kernel_rfl) (by kernel_rfl) (by kernel_rfl) (fun _ _ _ h => h) (Or.inl ⟨by rfl, fun w hw => by obtain ⟨x, rfl⟩ := hw; go_simp⟩) hS ?_
  try simp only [Act.put, List.setIfInBounds_toArray, List.set_cons_zero, List.set_cons_succ, List.getElem_toArray, List.getElem_cons_zero, List.getElem_cons_succ]
  refine wpAnyH_take (i := 17) (v := (.agg #[.int .i64 b.x, .int .i64 b.y, .int .i64 b.z, .int .i64 b.a, .int .i64 b.b, .int .i64 b.c, .int .i64 b.d])) rfl (by kernel_rfl) (by kernel_rfl) (by kernel_rfl) (fun _ _ _ h => h) (Or.inl ⟨by rfl, fun w hw => by obtain ⟨x, rfl⟩ := hw; go_simp⟩) hS ?_
  try simp only [Act.put, List.setIfInBounds_toArray, List.set_cons_zero, List.set_cons_succ, List.getElem_toArray, List.getElem_cons_zero, List.getElem_cons_succ]
  refine wpAnyH_take (i := 18) (v := (.int .i64 x)) rfl (by kernel_rfl) (by kernel_rfl) (by kernel_rfl) (fun _ _ _ h => h) (Or.inl ⟨by rfl, fun w hw => by obtain ⟨x, rfl⟩ := hw; go_simp⟩) hS ?_
  try simp only [Act.put, List.setIfInBounds_toArray, List.set_cons_zero, List.set_cons_succ, List.getElem_toArray, List.getElem_cons_zero, List.getElem_cons_succ]
  refine wpAnyH_take (i := 19) (v := (.int .i64 y)) rfl (by kernel_rfl) (by kernel_rfl) (by kernel_rfl) (fun _ _ _ h => h) (Or.inl ⟨by rfl, fun w hw => by obtain ⟨x, rfl⟩ := hw; go_simp⟩) hS ?_
  try simp only [Act.put, List.setIfInBounds_toArray, List.set_cons_zero, List.set_cons_succ, List.getElem_toArray, List.getElem_cons_zero, List.getElem_cons_succ]
  refine wpAnyH_ready (rs := [6, 22]) (by kernel_rfl) (by simp) ?_
  refine AllReadyH.cons rfl (fun K hK => ?_) ?_
  · skip
    go_simp
    with_reducible refine (H1.out _).mono ?_
    rintro e t1 ⟨rfl, hb⟩
    have Bt1 := Lib.hid (bstep BY0.out BY0.out.size hb)
    clear hb
    refine hK.out _ _ ⟨⟨_, Bt1.out⟩, rfl⟩ (fun hS => ?_)
    clear hK K
    try simp only [Act.put, List.setIfInBounds_toArray, List.set_cons_zero, List.set_cons_succ, List.getElem_toArray, List.getElem_cons_zero, List.getElem_cons_succ]
    refine wpAnyH_ready (rs := [13, 22]) (by kernel_rfl) (by simp) ?_
    refine AllReadyH.cons rfl (fun K hK => ?_) ?_
    · skip
      go_simp
      with_reducible refine (H2.out _).mono ?_
      rintro e t2 ⟨rfl, hb⟩
      have Bt2 := Lib.hid (bstep Bt1.out Bt1.out.size hb)
      clear hb
      refine hK.out _ _ ⟨⟨_, Bt2.out⟩, rfl⟩ (fun hS => ?_)
      clear hK K
      try simp only [Act.put, List.setIfInBounds_toArray, List.set_cons_zero, List.set_cons_succ, List.getElem_toArray, List.getElem_cons_zero, List.getElem_cons_succ]
      refine wpAnyH_ready (rs := [20, 22]) (by kernel_rfl) (by simp) ?_
      refine AllReadyH.cons rfl (fun K hK => ?_) ?_
      · skip
        go_simp
        with_reducible refine (H3.out _).mono ?_
        rintro e t3 ⟨rfl, hb⟩
        have Bt3 := Lib.hid (bstep Bt2.out Bt2.out.size hb)
        clear hb
        refine hK.out _ _ ⟨⟨_, Bt3.out⟩, rfl⟩ (fun hS => ?_)
        clear hK K
        try simp only [Act.put, List.setIfInBounds_toArray, List.set_cons_zero, List.set_cons_succ, List.getElem_toArray, List.getElem_cons_zero, List.getElem_cons_succ]
        refine wpAnyH_take (i := 21) (v := (.agg #[.int .i64 p, .int .i64 q, .int .i64 r])) rfl (by kernel_rfl) (by kernel_rfl) (by kernel_rfl) (fun _ _ _ h => h) (Or.inl ⟨by rfl, fun w hw => by obtain ⟨x, rfl⟩ := hw; go_simp⟩) hS ?_
        try simp only [Act.put, List.setIfInBounds_toArray, List.set_cons_zero, List.set_cons_succ, List.getElem_toArray, List.getElem_cons_zero, List.getElem_cons_succ]
        refine wpAnyH_ready (rs := [22]) (by kernel_rfl) (by simp) ?_
        refine AllReadyH.cons rfl (fun K hK => ?_) ?_
        · skip
          go_simp
          refine hK.out _ _ ⟨⟨_, Bt3.out.alloc Bt3.out.size _⟩, rfl⟩ (fun hS => ?_)
          clear hK K hS
          try simp only [Act.put, List.setIfInBounds_toArray, List.set_cons_zero, List.set_cons_succ, List.getElem_toArray, List.getElem_cons_zero, List.getElem_cons_succ]
          obtain ⟨t4, ht⟩ : ∃ t, t = t3.alloc (nB 0 0 0) := ⟨_, rfl⟩
          change wpAnyH _ _ _ _ _ _ _ _ (t3.alloc (nB 0 0 0))
          rw [← ht]
          have Bt4 := Lib.hid (show Below X1.heap.size X1 t4 by rw [ht]; exact Bt3.out.alloc Bt3.out.size _)
          have Gt4 := Lib.hid (show t4.heap[t3.heap.size]? = some (nB 0 0 0) by rw [ht]; exact new_at rfl)
          have hge := Lib.hid (show X1.heap.size ≤ t3.heap.size from Bt3.out.size)
          clear ht
          have hS : (fun w' => ∃ x : Grow X1, w' = x.w) t4 := ⟨⟨_, Bt4.out⟩, rfl⟩
          obtain ⟨g, eg⟩ : ∃ g, g = t3.heap.size := ⟨_, rfl⟩
          rw [← eg] at Gt4 hge ⊢
          clear eg
          obtain ⟨q0, q1, q2⟩ := nB_cell Gt4.out
          have f0 := nB_free Gt4.out 0
          have f1 := nB_free Gt4.out 1
          have f2 := nB_free Gt4.out 2
          refine wpAnyH_ready (rs := [23]) (by kernel_rfl) (by simp) ?_
          refine AllReadyH.cons rfl (fun K hK => ?_) AllReadyH.nil
          go_simp
          have BS := Lib.hid (show Below X1.heap.size X1 (((t4.setCell ⟨g, 0, none⟩ (.int .i64 p)).setCell ⟨g, 1, none⟩ (.int .i64 q)).setCell ⟨g, 2, none⟩ (.int .i64 r)) from ((Bt4.out.setCell hge.out _).setCell hge.out _).setCell hge.out _)
          have GS := Lib.hid (nB_set p q r Gt4.out)
          refine hK.out _ _ ⟨⟨_, BS.out⟩, rfl⟩ (fun hS => ?_)
          clear hK K hS q0 q1 q2 f0 f1 f2
          try simp only [Act.put, List.setIfInBounds_toArray, List.set_cons_zero, List.set_cons_succ, List.getElem_toArray, List.getElem_cons_zero, List.getElem_cons_succ]
          refine wpAnyH_done (by kernel_rfl) ?_ _
          generalize (((t4.setCell ⟨g, 0, none⟩ (.int .i64 p)).setCell ⟨g, 1, none⟩ (.int .i64 q)).setCell ⟨g, 2, none⟩ (.int .i64 r)) = Z at *
          go_wp2
          go_ret
          exact ⟨g, h, rfl, GS.out, cell_grow hh.out BS.out, bstep BW.out G3.out BS.out⟩
        exact AllReadyH.nil
      refine AllReadyH.cons rfl (fun K hK => ?_) ?_
      · skip
        go_simp
        refine hK.out _ _ ⟨⟨_, Bt2.out.alloc Bt2.out.size _⟩, rfl⟩ (fun hS => ?_)
        clear hK K hS
        try simp only [Act.put, List.setIfInBounds_toArray, List.set_cons_zero, List.set_cons_succ, List.getElem_toArray, List.getElem_cons_zero, List.getElem_cons_succ]
        obtain ⟨t5, ht⟩ : ∃ t, t = t2.alloc (nB 0 0 0) := ⟨_, rfl⟩
        change wpAnyH _ _ _ _ _ _ _ _ (t2.alloc (nB 0 0 0))
        rw [← ht]
        have Bt5 := Lib.hid (show Below X1.heap.size X1 t5 by rw [ht]; exact Bt2.out.alloc Bt2.out.size _)
        have Gt5 := Lib.hid (show t5.heap[t2.heap.size]? = some (nB 0 0 0) by rw [ht]; exact new_at rfl)
        have hge := Lib.hid (show X1.heap.size ≤ t2.heap.size from Bt2.out.size)
        clear ht
        have hS : (fun w' => ∃ x : Grow X1, w' = x.w) t5 := ⟨⟨_, Bt5.out⟩, rfl⟩
        refine wpAnyH_ready (rs := [20]) (by kernel_rfl) (by simp) ?_
        refine AllReadyH.cons rfl (fun K hK => ?_) ?_
        · skip
          go_simp
          with_reducible refine (H3.out _).mono ?_
          rintro e t6 ⟨rfl, hb⟩
          have Bt6 := Lib.hid (bstep Bt5.out Bt5.out.size hb)
          have Gt6 := Lib.hid (nB_grow Gt5.out hb)
          clear hb
          refine hK.out _ _ ⟨⟨_, Bt6.out⟩, rfl⟩ (fun hS => ?_)
          clear hK K
          try simp only [Act.put, List.setIfInBounds_toArray, List.set_cons_zero, List.set_cons_succ, List.getElem_toArray, List.getElem_cons_zero, List.getElem_cons_succ]
          refine wpAnyH_take (i := 21) (v := (.agg #[.int .i64 p, .int .i64 q, .int .i64 r])) rfl (by kernel_rfl) (by kernel_rfl) (by kernel_rfl) (fun _ _ _ h => h) (Or.inl ⟨by rfl, fun w hw => by obtain ⟨x, rfl⟩ := hw; go_simp⟩) hS ?_
          try simp only [Act.put, List.setIfInBounds_toArray, List.set_cons_zero, List.set_cons_succ, List.getElem_toArray, List.getElem_cons_zero, List.getElem_cons_succ]
          obtain ⟨g, eg⟩ : ∃ g, g = t2.heap.size := ⟨_, rfl⟩
          rw [← eg] at Gt6 hge ⊢
          clear eg
          obtain ⟨q0, q1, q2⟩ := nB_cell Gt6.out
          have f0 := nB_free Gt6.out 0
          have f1 := nB_free Gt6.out 1
          have f2 := nB_free Gt6.out 2
          refine wpAnyH_ready (rs := [23]) (by kernel_rfl) (by simp) ?_
          refine AllReadyH.cons rfl (fun K hK => ?_) AllReadyH.nil
          go_simp
          have BS := Lib.hid (show Below X1.heap.size X1 (((t6.setCell ⟨g, 0, none⟩ (.int .i64 p)).setCell ⟨g, 1, none⟩ (.int .i64 q)).setCell ⟨g, 2, none⟩ (.int .i64 r)) from ((Bt6.out.setCell hge.out _).setCell hge.out _).setCell hge.out _)
          have GS := Lib.hid (nB_set p q r Gt6.out)
          refine hK.out _ _ ⟨⟨_, BS.out⟩, rfl⟩ (fun hS => ?_)
          clear hK K hS q0 q1 q2 f0 f1 f2
          try simp only [Act.put, List.setIfInBounds_toArray, List.set_cons_zero, List.set_cons_succ, List.getElem_toArray, List.getElem_cons_zero, List.getElem_cons_succ]
          refine wpAnyH_done (by kernel_rfl) ?_ _
          generalize (((t6.setCell ⟨g, 0, none⟩ (.int .i64 p)).setCell ⟨g, 1, none⟩ (.int .i64 q)).setCell ⟨g, 2, none⟩ (.int .i64 r)) = Z at *
          go_wp2
          go_ret
          exact ⟨g, h, rfl, GS.out, cell_grow hh.out BS.out, bstep BW.out G3.out BS.out⟩
        exact AllReadyH.nil
      exact AllReadyH.nil
    refine AllReadyH.cons rfl (fun K hK => ?_) ?_
    · skip
      go_simp
      refine hK.out _ _ ⟨⟨_, Bt1.out.alloc Bt1.out.size _⟩, rfl⟩ (fun hS => ?_)
      clear hK K hS
      try simp only [Act.put, List.setIfInBounds_toArray, List.set_cons_zero, List.set_cons_succ, List.getElem_toArray, List.getElem_cons_zero, List.getElem_cons_succ]
      obtain ⟨t7, ht⟩ : ∃ t, t = t1.alloc (nB 0 0 0) := ⟨_, rfl⟩
      change wpAnyH _ _ _ _ _ _ _ _ (t1.alloc (nB 0 0 0))
      rw [← ht]
      have Bt7 := Lib.hid (show Below X1.heap.size X1 t7 by rw [ht]; exact Bt1.out.alloc Bt1.out.size _)
      have Gt7 := Lib.hid (show t7.heap[t1.heap.size]? = some (nB 0 0 0) by rw [ht]; exact new_at rfl)
      have hge := Lib.hid (show X1.heap.size ≤ t1.heap.size from Bt1.out.size)
      clear ht
      have hS : (fun w' => ∃ x : Grow X1, w' = x.w) t7 := ⟨⟨_, Bt7.out⟩, rfl⟩
      refine wpAnyH_ready (rs := [13]) (by kernel_rfl) (by simp) ?_
      refine AllReadyH.cons rfl (fun K hK => ?_) ?_
      · skip
        go_simp
        with_reducible refine (H2.out _).mono ?_
        rintro e t8 ⟨rfl, hb⟩
        have Bt8 := Lib.hid (bstep Bt7.out Bt7.out.size hb)
        have Gt8 := Lib.hid (nB_grow Gt7.out hb)
        clear hb
        refine hK.out _ _ ⟨⟨_, Bt8.out⟩, rfl⟩ (fun hS => ?_)
        clear hK K
        try simp only [Act.put, List.setIfInBounds_toArray, List.set_cons_zero, List.set_cons_succ, List.getElem_toArray, List.getElem_cons_zero, List.getElem_cons_succ]
        refine wpAnyH_ready (rs := [20]) (by kernel_rfl) (by simp) ?_
        refine AllReadyH.cons rfl (fun K hK => ?_) ?_
        · skip
          go_simp
          with_reducible refine (H3.out _).mono ?_
          rintro e t9 ⟨rfl, hb⟩
          have Bt9 := Lib.hid (bstep Bt8.out Bt8.out.size hb)
          have Gt9 := Lib.hid (nB_grow Gt8.out hb)
          clear hb
          refine hK.out _ _ ⟨⟨_, Bt9.out⟩, rfl⟩ (fun hS => ?_)
          clear hK K
          try simp only [Act.put, List.setIfInBounds_toArray, List.set_cons_zero, List.set_cons_succ, List.getElem_toArray, List.getElem_cons_zero, List.getElem_cons_succ]
          refine wpAnyH_take (i := 21) (v := (.agg #[.int .i64 p, .int .i64 q, .int .i64 r])) rfl (by kernel_rfl) (by kernel_rfl) (by kernel_rfl) (fun _ _ _ h => h) (Or.inl ⟨by rfl, fun w hw => by obtain ⟨x, rfl⟩ := hw; go_simp⟩) hS ?_
          try simp only [Act.put, List.setIfInBounds_toArray, List.set_cons_zero, List.set_cons_succ, List.getElem_toArray, List.getElem_cons_zero, List.getElem_cons_succ]
          obtain ⟨g, eg⟩ : ∃ g, g = t1.heap.size := ⟨_, rfl⟩
          rw [← eg] at Gt9 hge ⊢
          clear eg
          obtain ⟨q0, q1, q2⟩ := nB_cell Gt9.out
          have f0 := nB_free Gt9.out 0
          have f1 := nB_free Gt9.out 1
          have f2 := nB_free Gt9.out 2
          refine wpAnyH_ready (rs := [23]) (by kernel_rfl) (by simp) ?_
          refine AllReadyH.cons rfl (fun K hK => ?_) AllReadyH.nil
          go_simp
          have BS := Lib.hid (show Below X1.heap.size X1 (((t9.setCell ⟨g, 0, none⟩ (.int .i64 p)).setCell ⟨g, 1, none⟩ (.int .i64 q)).setCell ⟨g, 2, none⟩ (.int .i64 r)) from ((Bt9.out.setCell hge.out _).setCell hge.out _).setCell hge.out _)
          have GS := Lib.hid (nB_set p q r Gt9.out)
          refine hK.out _ _ ⟨⟨_, BS.out⟩, rfl⟩ (fun hS => ?_)
          clear hK K hS q0 q1 q2 f0 f1 f2
          try simp only [Act.put, List.setIfInBounds_toArray, List.set_cons_zero, List.set_cons_succ, List.getElem_toArray, List.getElem_cons_zero, List.getElem_cons_succ]
          refine wpAnyH_done (by kernel_rfl) ?_ _
          generalize (((t9.setCell ⟨g, 0, none⟩ (.int .i64 p)).setCell ⟨g, 1, none⟩ (.int .i64 q)).setCell ⟨g, 2, none⟩ (.int .i64 r)) = Z at *
          go_wp2
          go_ret
          exact ⟨g, h, rfl, GS.out, cell_grow hh.out BS.out, bstep BW.out G3.out BS.out⟩
        exact AllReadyH.nil
      exact AllReadyH.nil
    exact AllReadyH.nil
  refine AllReadyH.cons rfl (fun K hK => ?_) ?_
  · skip
    go_simp
    refine hK.out _ _ ⟨⟨_, BY0.out.alloc BY0.out.size _⟩, rfl⟩ (fun hS => ?_)
    clear hK K hS
    try simp only [Act.put, List.setIfInBounds_toArray, List.set_cons_zero, List.set_cons_succ, List.getElem_toArray, List.getElem_cons_zero, List.getElem_cons_succ]
    obtain ⟨t10, ht⟩ : ∃ t, t = Y0.alloc (nB 0 0 0) := ⟨_, rfl⟩
    change wpAnyH _ _ _ _ _ _ _ _ (Y0.alloc (nB 0 0 0))
    rw [← ht]
    have Bt10 := Lib.hid (show Below X1.heap.size X1 t10 by rw [ht]; exact BY0.out.alloc BY0.out.size _)
    have Gt10 := Lib.hid (show t10.heap[Y0.heap.size]? = some (nB 0 0 0) by rw [ht]; exact new_at rfl)
    have hge := Lib.hid (show X1.heap.size ≤ Y0.heap.size from BY0.out.size)
    clear ht
    have hS : (fun w' => ∃ x : Grow X1, w' = x.w) t10 := ⟨⟨_, Bt10.out⟩, rfl⟩
    refine wpAnyH_ready (rs := [6]) (by kernel_rfl) (by simp) ?_
    refine AllReadyH.cons rfl (fun K hK => ?_) ?_
    · skip
      go_simp
      with_reducible refine (H1.out _).mono ?_
      rintro e t11 ⟨rfl, hb⟩
      have Bt11 := Lib.hid (bstep Bt10.out Bt10.out.size hb)
      have Gt11 := Lib.hid (nB_grow Gt10.out hb)
      clear hb
      refine hK.out _ _ ⟨⟨_, Bt11.out⟩, rfl⟩ (fun hS => ?_)
      clear hK K
      try simp only [Act.put, List.setIfInBounds_toArray, List.set_cons_zero, List.set_cons_succ, List.getElem_toArray, List.getElem_cons_zero, List.getElem_cons_succ]
      refine wpAnyH_ready (rs := [13]) (by kernel_rfl) (by simp) ?_
      refine AllReadyH.cons rfl (fun K hK => ?_) ?_
      · skip
        go_simp
        with_reducible refine (H2.out _).mono ?_
        rintro e t12 ⟨rfl, hb⟩
        have Bt12 := Lib.hid (bstep Bt11.out Bt11.out.size hb)
        have Gt12 := Lib.hid (nB_grow Gt11.out hb)
        clear hb
        refine hK.out _ _ ⟨⟨_, Bt12.out⟩, rfl⟩ (fun hS => ?_)
        clear hK K
        try simp only [Act.put, List.setIfInBounds_toArray, List.set_cons_zero, List.set_cons_succ, List.getElem_toArray, List.getElem_cons_zero, List.getElem_cons_succ]
        refine wpAnyH_ready (rs := [20]) (by kernel_rfl) (by simp) ?_
        refine AllReadyH.cons rfl (fun K hK => ?_) ?_
        · skip
          go_simp
          with_reducible refine (H3.out _).mono ?_
          rintro e t13 ⟨rfl, hb⟩
          have Bt13 := Lib.hid (bstep Bt12.out Bt12.out.size hb)
          have Gt13 := Lib.hid (nB_grow Gt12.out hb)
          clear hb
          refine hK.out _ _ ⟨⟨_, Bt13.out⟩, rfl⟩ (fun hS => ?_)
          clear hK K
          try simp only [Act.put, List.setIfInBounds_toArray, List.set_cons_zero, List.set_cons_succ, List.getElem_toArray, List.getElem_cons_zero, List.getElem_cons_succ]
          refine wpAnyH_take (i := 21) (v := (.agg #[.int .i64 p, .int .i64 q, .int .i64 r])) rfl (by kernel_rfl) (by kernel_rfl) (by kernel_rfl) (fun _ _ _ h => h) (Or.inl ⟨by rfl, fun w hw => by obtain ⟨x, rfl⟩ := hw; go_simp⟩) hS ?_
          try simp only [Act.put, List.setIfInBounds_toArray, List.set_cons_zero, List.set_cons_succ, List.getElem_toArray, List.getElem_cons_zero, List.getElem_cons_succ]
          obtain ⟨g, eg⟩ : ∃ g, g = Y0.heap.size := ⟨_, rfl⟩
          rw [← eg] at Gt13 hge ⊢
          clear eg
          obtain ⟨q0, q1, q2⟩ := nB_cell Gt13.out
          have f0 := nB_free Gt13.out 0
          have f1 := nB_free Gt13.out 1
          have f2 := nB_free Gt13.out 2
          refine wpAnyH_ready (rs := [23]) (by kernel_rfl) (by simp) ?_
          refine AllReadyH.cons rfl (fun K hK => ?_) AllReadyH.nil
          go_simp
          have BS := Lib.hid (show Below X1.heap.size X1 (((t13.setCell ⟨g, 0, none⟩ (.int .i64 p)).setCell ⟨g, 1, none⟩ (.int .i64 q)).setCell ⟨g, 2, none⟩ (.int .i64 r)) from ((Bt13.out.setCell hge.out _).setCell hge.out _).setCell hge.out _)
          have GS := Lib.hid (nB_set p q r Gt13.out)
          refine hK.out _ _ ⟨⟨_, BS.out⟩, rfl⟩ (fun hS => ?_)
          clear hK K hS q0 q1 q2 f0 f1 f2
          try simp only [Act.put, List.setIfInBounds_toArray, List.set_cons_zero, List.set_cons_succ, List.getElem_toArray, List.getElem_cons_zero, List.getElem_cons_succ]
          refine wpAnyH_done (by kernel_rfl) ?_ _
          generalize (((t13.setCell ⟨g, 0, none⟩ (.int .i64 p)).setCell ⟨g, 1, none⟩ (.int .i64 q)).setCell ⟨g, 2, none⟩ (.int .i64 r)) = Z at *
          go_wp2
          go_ret
          exact ⟨g, h, rfl, GS.out, cell_grow hh.out BS.out, bstep BW.out G3.out BS.out⟩
        exact AllReadyH.nil
      exact AllReadyH.nil
    exact AllReadyH.nil
  exact AllReadyH.nil
end Go.Proofs.Ytiijpehchifheaa
