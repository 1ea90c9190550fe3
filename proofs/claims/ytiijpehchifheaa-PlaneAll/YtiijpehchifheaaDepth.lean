/-
  The contract of plane.Depth.
-/
import Derived.Test.YtiijpehchifheaaHead
namespace Go.Proofs.Ytiijpehchifheaa
open Go.RowKit
attribute [local go_sem ↓] Go.wp_at_zero Go.wp_at_succ

/-- A pixel whose middle is a place that is asked. -/
def Pxl (n : Int) : Prop := -1000 ≤ n ∧ n ≤ 1000
theorem Pxl.in14 {n : Int} (h : Pxl n) : In14 (16 * n + 8) := by
  unfold Pxl In14 at *
  omega

set_option maxRecDepth 100000 in
set_option maxHeartbeats 2000000 in
theorem depth_none (a b c : P) (x y : Int) (ha : a.sm) (hb : b.sm) (hc : c.sm) (hs : area a b c ≤ 0) (w : World) :
    Calls Try.prog 14 #[.agg #[.int .i64 a.x, .int .i64 a.y, .int .i64 a.z, .int .i64 a.a, .int .i64 a.b, .int .i64 a.c, .int .i64 a.d, .int .i64 b.x, .int .i64 b.y, .int .i64 b.z, .int .i64 b.a, .int .i64 b.b, .int .i64 b.c, .int .i64 b.d, .int .i64 c.x, .int .i64 c.y, .int .i64 c.z, .int .i64 c.a, .int .i64 c.b, .int .i64 c.c, .int .i64 c.d], .int .i64 x, .int .i64 y] w fun e w' => e = .returned (.int .i64 0) ∧ Below w.heap.size w w' := by
  have HK := Lib.hid fun o => ((Below.refl w.heap.size w).alloc (Nat.le_refl _) o)
  have HA := Lib.hid (area_any a b c ha hb hc)
  generalize area a b c = s at *
  clear ha hb hc
  go_enter Try.func14, Try.ntmps14
  go_wp2_with (refine wp_loadT _ rfl rfl rfl (new_at rfl) ?_)
  with_reducible refine (HA.out _).mono ?_
  rintro e w1 ⟨rfl, hb⟩
  have K1 := Lib.hid (bstep (HK.out _) (by simp) hb)
  clear hb
  go_wp2
  go_ret
  exact ⟨rfl, K1.out⟩

set_option maxRecDepth 100000 in
set_option maxHeartbeats 2000000 in
theorem depth_some (a b c : P) (x y X Y v d : Int) (ha : a.sm) (hb : b.sm) (hc : c.sm) (hs : 0 < area a b c)
    (C1 : Hid (∀ w, Calls Try.prog 28 #[.int .i64 x] w fun e w' => e = .returned (.int .i64 X) ∧ w = w'))
    (C2 : Hid (∀ w, Calls Try.prog 28 #[.int .i64 y] w fun e w' => e = .returned (.int .i64 Y) ∧ w = w'))
    (CA : Hid (∀ w, Calls Try.prog 12 #[.agg #[.int .i64 a.x, .int .i64 a.y, .int .i64 a.z, .int .i64 a.a, .int .i64 a.b, .int .i64 a.c, .int .i64 a.d, .int .i64 b.x, .int .i64 b.y, .int .i64 b.z, .int .i64 b.a, .int .i64 b.b, .int .i64 b.c, .int .i64 b.d, .int .i64 c.x, .int .i64 c.y, .int .i64 c.z, .int .i64 c.a, .int .i64 c.b, .int .i64 c.c, .int .i64 c.d], .agg #[.int .i64 a.z, .int .i64 b.z, .int .i64 c.z], .int .i64 X, .int .i64 Y] w fun e w' => e = .returned (.int .i64 v) ∧ Below w.heap.size w w'))
    (hd : hld v a.z b.z c.z = d) (w : World) :
    Calls Try.prog 14 #[.agg #[.int .i64 a.x, .int .i64 a.y, .int .i64 a.z, .int .i64 a.a, .int .i64 a.b, .int .i64 a.c, .int .i64 a.d, .int .i64 b.x, .int .i64 b.y, .int .i64 b.z, .int .i64 b.a, .int .i64 b.b, .int .i64 b.c, .int .i64 b.d, .int .i64 c.x, .int .i64 c.y, .int .i64 c.z, .int .i64 c.a, .int .i64 c.b, .int .i64 c.c, .int .i64 c.d], .int .i64 x, .int .i64 y] w fun e w' => e = .returned (.int .i64 d) ∧ Below w.heap.size w w' := by
  have HK := Lib.hid fun o => ((Below.refl w.heap.size w).alloc (Nat.le_refl _) o)
  have HA := Lib.hid (area_any a b c ha hb hc)
  have CH := Lib.hid (held_any v a.z b.z c.z)
  rw [hd] at CH
  clear hd
  generalize area a b c = s at *
  clear ha hb hc
  go_enter Try.func14, Try.ntmps14
  go_wp2_with (refine wp_loadT _ rfl rfl rfl (new_at rfl) ?_)
  with_reducible refine (HA.out _).mono ?_
  rintro e w1 ⟨rfl, hb⟩
  have K1 := Lib.hid (bstep (HK.out _) (by simp) hb)
  have T1 := Lib.hid (show w1.heap[w.heap.size]? = some (tB a b c) from tB_grow (new_at rfl) hb)
  clear hb
  obtain ⟨⟨c0, c1, c2, c3, c4, c5, c6⟩, ⟨c7, c8, c9, c10, c11, c12, c13⟩, ⟨c14, c15, c16, c17, c18, c19, c20⟩⟩ := tB_cell T1.out
  have l1 := tB_lt T1.out
  go_upto_region 4 with fail
  obtain ⟨X1, hX1⟩ : ∃ X1, X1 = w1.alloc (Obj.cells #[.int .i64 a.z, .int .i64 b.z, .int .i64 c.z] 26) := ⟨_, rfl⟩
  rw [← hX1]
  have BW := Lib.hid (show Below w.heap.size w X1 by rw [hX1]; exact K1.out.alloc K1.out.size _)
  have T2 := Lib.hid (show X1.heap[w.heap.size]? = some (tB a b c) by rw [hX1]; exact tB_alloc _ T1.out)
  have N1 := Lib.hid (show X1.heap[w1.heap.size]? = some (nB a.z b.z c.z) by rw [hX1]; exact new_at rfl)
  generalize w1.heap.size = g at *
  clear hX1 T1 K1 c0 c1 c2 c3 c4 c5 c6 c7 c8 c9 c10 c11 c12 c13 c14 c15 c16 c17 c18 c19 c20 l1
  obtain ⟨n0, n1, n2⟩ := nB_cell N1.out
  obtain ⟨Y0, hY0⟩ : ∃ Y0, Y0 = World.drew X1 := ⟨_, rfl⟩
  have B0 := Lib.hid (show Below X1.heap.size X1 Y0 by rw [hY0]; exact (Below.refl _ _).drew)
  refine wp_region_held_drew (S := fun w' => ∃ x : Grow X1, w' = x.w) (by kernel_rfl) ⟨⟨Y0, B0.out⟩, hY0.symm⟩ (fun hS => ?_)
  rw [← hY0] at hS ⊢
  have y0 : ∀ x : Grow X1, x.w.cell? ⟨g, 0, none⟩ = some (.int .i64 a.z) := fun x => x.cell n0
  have y1 : ∀ x : Grow X1, x.w.cell? ⟨g, 1, none⟩ = some (.int .i64 b.z) := fun x => x.cell n1
  have y2 : ∀ x : Grow X1, x.w.cell? ⟨g, 2, none⟩ = some (.int .i64 c.z) := fun x => x.cell n2
  clear hY0 n0 n1 n2
  refine wpAnyH_take (i := 0) (v := .agg #[.int .i64 a.x, .int .i64 a.y, .int .i64 a.z, .int .i64 a.a, .int .i64 a.b, .int .i64 a.c, .int .i64 a.d, .int .i64 b.x, .int .i64 b.y, .int .i64 b.z, .int .i64 b.a, .int .i64 b.b, .int .i64 b.c, .int .i64 b.d, .int .i64 c.x, .int .i64 c.y, .int .i64 c.z, .int .i64 c.a, .int .i64 c.b, .int .i64 c.c, .int .i64 c.d]) rfl (by kernel_rfl) (by kernel_rfl) (by kernel_rfl) (fun _ _ _ h => h) (yields_loadT _ rfl rfl rfl T2.out) hS ?_
  try simp only [Act.put, List.setIfInBounds_toArray, List.set_cons_zero, List.set_cons_succ, List.getElem_toArray, List.getElem_cons_zero]
  refine wpAnyH_take (i := 1) (v := (.agg #[.int .i64 a.z, .int .i64 b.z, .int .i64 c.z])) rfl (by kernel_rfl) (by kernel_rfl) (by kernel_rfl) (fun _ _ _ h => h) (Or.inl ⟨by rfl, fun w hw => by obtain ⟨x, rfl⟩ := hw; go_simp⟩) hS ?_
  try simp only [Act.put, List.setIfInBounds_toArray, List.set_cons_zero, List.set_cons_succ, List.getElem_toArray, List.getElem_cons_zero, List.getElem_cons_succ]
  refine wpAnyH_take (i := 2) (v := (.int .i64 x)) rfl (by kernel_rfl) (by kernel_rfl) (by kernel_rfl) (fun _ _ _ h => h) (Or.inl ⟨by rfl, fun w hw => by obtain ⟨x, rfl⟩ := hw; go_simp⟩) hS ?_
  try simp only [Act.put, List.setIfInBounds_toArray, List.set_cons_zero, List.set_cons_succ, List.getElem_toArray, List.getElem_cons_zero, List.getElem_cons_succ]
  refine wpAnyH_take (i := 4) (v := (.int .i64 y)) rfl (by kernel_rfl) (by kernel_rfl) (by kernel_rfl) (fun _ _ _ h => h) (Or.inl ⟨by rfl, fun w hw => by obtain ⟨x, rfl⟩ := hw; go_simp⟩) hS ?_
  try simp only [Act.put, List.setIfInBounds_toArray, List.set_cons_zero, List.set_cons_succ, List.getElem_toArray, List.getElem_cons_zero, List.getElem_cons_succ]
  refine wpAnyH_take (i := 7) (v := (.agg #[.int .i64 a.z, .int .i64 b.z, .int .i64 c.z])) rfl (by kernel_rfl) (by kernel_rfl) (by kernel_rfl) (fun _ _ _ h => h) (Or.inl ⟨by rfl, fun w hw => by obtain ⟨x, rfl⟩ := hw; go_simp⟩) hS ?_
  try simp only [Act.put, List.setIfInBounds_toArray, List.set_cons_zero, List.set_cons_succ, List.getElem_toArray, List.getElem_cons_zero, List.getElem_cons_succ]
  refine wpAnyH_ready (rs := [3]) (by kernel_rfl) (by simp) ?_
  refine AllReadyH.cons rfl (fun K hK => ?_) AllReadyH.nil
  go_simp
  with_reducible refine (C1.out _).mono ?_
  rintro e t1 ⟨rfl, rfl⟩
  refine hK.out _ _ ⟨⟨_, B0.out⟩, rfl⟩ (fun hS => ?_)
  have B1 := B0
  clear hK K
  try simp only [Act.put, List.setIfInBounds_toArray, List.set_cons_zero, List.set_cons_succ, List.getElem_toArray, List.getElem_cons_zero, List.getElem_cons_succ]
  refine wpAnyH_ready (rs := [5]) (by kernel_rfl) (by simp) ?_
  refine AllReadyH.cons rfl (fun K hK => ?_) AllReadyH.nil
  go_simp
  with_reducible refine (C2.out _).mono ?_
  rintro e t2 ⟨rfl, rfl⟩
  refine hK.out _ _ ⟨⟨_, B1.out⟩, rfl⟩ (fun hS => ?_)
  have B2 := B1
  clear hK K
  try simp only [Act.put, List.setIfInBounds_toArray, List.set_cons_zero, List.set_cons_succ, List.getElem_toArray, List.getElem_cons_zero, List.getElem_cons_succ]
  refine wpAnyH_ready (rs := [6]) (by kernel_rfl) (by simp) ?_
  refine AllReadyH.cons rfl (fun K hK => ?_) AllReadyH.nil
  go_simp
  with_reducible refine (CA.out _).mono ?_
  rintro e t3 ⟨rfl, hb⟩
  have B3 := Lib.hid (bstep B2.out B2.out.size hb)
  clear hb
  refine hK.out _ _ ⟨⟨_, B3.out⟩, rfl⟩ (fun hS => ?_)
  clear hK K
  try simp only [Act.put, List.setIfInBounds_toArray, List.set_cons_zero, List.set_cons_succ, List.getElem_toArray, List.getElem_cons_zero, List.getElem_cons_succ]
  refine wpAnyH_ready (rs := [8]) (by kernel_rfl) (by simp) ?_
  refine AllReadyH.cons rfl (fun K hK => ?_) AllReadyH.nil
  go_simp
  with_reducible refine (CH.out _).mono ?_
  rintro e t4 ⟨rfl, hb⟩
  have B4 := Lib.hid (bstep B3.out B3.out.size hb)
  clear hb
  refine hK.out _ _ ⟨⟨_, B4.out⟩, rfl⟩ (fun hS => ?_)
  clear hK K
  try simp only [Act.put, List.setIfInBounds_toArray, List.set_cons_zero, List.set_cons_succ, List.getElem_toArray, List.getElem_cons_zero, List.getElem_cons_succ]
  refine wpAnyH_ready (rs := [9]) (by kernel_rfl) (by simp) ?_
  refine AllReadyH.cons rfl (fun K hK => ?_) AllReadyH.nil
  go_simp
  refine hK.out _ _ ⟨⟨_, B4.out⟩, rfl⟩ (fun hS => ?_)
  clear hK K hS
  try simp only [Act.put, List.setIfInBounds_toArray, List.set_cons_zero, List.set_cons_succ, List.getElem_toArray, List.getElem_cons_zero, List.getElem_cons_succ]
  refine wpAnyH_done (by kernel_rfl) ?_ _
  go_wp2
  go_ret
  exact ⟨rfl, bstep BW.out BW.out.size B4.out⟩

theorem depth_any (a b c : P) (x y d : Int) (ha : a.ok) (hb : b.ok) (hc : c.ok) (hl : Ask a.z) (hm : Ask b.z) (hn : Ask c.z) (hx : Pxl x) (hy : Pxl y) (hd : dep a b c x y = d) (w : World) :
    Calls Try.prog 14 #[.agg #[.int .i64 a.x, .int .i64 a.y, .int .i64 a.z, .int .i64 a.a, .int .i64 a.b, .int .i64 a.c, .int .i64 a.d, .int .i64 b.x, .int .i64 b.y, .int .i64 b.z, .int .i64 b.a, .int .i64 b.b, .int .i64 b.c, .int .i64 b.d, .int .i64 c.x, .int .i64 c.y, .int .i64 c.z, .int .i64 c.a, .int .i64 c.b, .int .i64 c.c, .int .i64 c.d], .int .i64 x, .int .i64 y] w fun e w' => e = .returned (.int .i64 d) ∧ Below w.heap.size w w' := by
  subst hd
  rcases Int.lt_or_le 0 (area a b c) with h | h
  · refine depth_some a b c x y (16 * x + 8) (16 * y + 8) (num a b c a.z b.z c.z (16 * x + 8) (16 * y + 8)) _ ha.sm hb.sm hc.sm h ?_ ?_ ?_ ?_ w
    · exact Lib.hid (fun w => centre_any x _ (by have := hx.1; omega) (by have := hx.2; omega) rfl w)
    · exact Lib.hid (fun w => centre_any y _ (by have := hy.1; omega) (by have := hy.2; omega) rfl w)
    · exact Lib.hid (fun w => at_any a b c _ _ _ _ _ _ ha hb hc hl hm hn hx.in14 hy.in14 rfl w)
    · unfold dep
      rw [if_neg (by omega)]
  · have e : dep a b c x y = 0 := by unfold dep; rw [if_pos h]
    rw [e]
    exact depth_none a b c x y ha.sm hb.sm hc.sm h w
end Go.Proofs.Ytiijpehchifheaa
