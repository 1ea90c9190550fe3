/-
  The contract of plane.At.
-/
import Derived.Test.YtiijpehchifheaaOver
namespace Go.Proofs.Ytiijpehchifheaa
open Go.RowKit
attribute [local go_sem ↓] Go.wp_at_zero Go.wp_at_succ

theorem yields_loadT {ops : Array Oper} {o : Oper} {k : Act} {X : World} {g : Nat} {a b c : P} (x : Operand) (ho : o.op = .load 25 x) (hw : Region.wanted o (yielded ops k.tmps) = true)
    (hx : k.eval x = .pointer (some ⟨g, 0, none⟩)) (hg : X.heap[g]? = some (tB a b c)) : YieldsIf Try.prog ops (fun w' => ∃ x : Grow X, w' = x.w) o (.agg #[.int .i64 a.x, .int .i64 a.y, .int .i64 a.z, .int .i64 a.a, .int .i64 a.b, .int .i64 a.c, .int .i64 a.d, .int .i64 b.x, .int .i64 b.y, .int .i64 b.z, .int .i64 b.a, .int .i64 b.b, .int .i64 b.c, .int .i64 b.d, .int .i64 c.x, .int .i64 c.y, .int .i64 c.z, .int .i64 c.a, .int .i64 c.b, .int .i64 c.c, .int .i64 c.d]) k :=
  Or.inl ⟨hw, fun w hw => by
    obtain ⟨y, rfl⟩ := hw
    have hl := loadT (tB_grow hg y.below)
    simp [execOp, ho, hx, hl]⟩

/-- A number that is asked: 2^31 at most without its sign. -/
def Ask (n : Int) : Prop := -2147483648 ≤ n ∧ n ≤ 2147483648
/-- A place within 2^14. -/
def In14 (n : Int) : Prop := -16384 ≤ n ∧ n ≤ 16384

set_option maxRecDepth 100000 in
set_option maxHeartbeats 2000000 in
theorem at_none (a b c : P) (l m n x y : Int) (ha : a.sm) (hb : b.sm) (hc : c.sm) (hs : area a b c ≤ 0) (w : World) :
    Calls Try.prog 12 #[.agg #[.int .i64 a.x, .int .i64 a.y, .int .i64 a.z, .int .i64 a.a, .int .i64 a.b, .int .i64 a.c, .int .i64 a.d, .int .i64 b.x, .int .i64 b.y, .int .i64 b.z, .int .i64 b.a, .int .i64 b.b, .int .i64 b.c, .int .i64 b.d, .int .i64 c.x, .int .i64 c.y, .int .i64 c.z, .int .i64 c.a, .int .i64 c.b, .int .i64 c.c, .int .i64 c.d], .agg #[.int .i64 l, .int .i64 m, .int .i64 n], .int .i64 x, .int .i64 y] w fun e w' => e = .returned (.int .i64 0) ∧ Below w.heap.size w w' := by
  have HO := Lib.hid (fun w => over_none a b c x y ha hb hc hs w)
  clear ha hb hc hs
  go_enter Try.func12, Try.ntmps12
  go_wp2_with fail
  obtain ⟨X1, hX1⟩ : ∃ X1, X1 = (w.alloc (Obj.cells #[.int .i64 a.x, .int .i64 a.y, .int .i64 a.z, .int .i64 a.a, .int .i64 a.b, .int .i64 a.c, .int .i64 a.d, .int .i64 b.x, .int .i64 b.y, .int .i64 b.z, .int .i64 b.a, .int .i64 b.b, .int .i64 b.c, .int .i64 b.d, .int .i64 c.x, .int .i64 c.y, .int .i64 c.z, .int .i64 c.a, .int .i64 c.b, .int .i64 c.c, .int .i64 c.d] 25)).alloc (Obj.cells #[.int .i64 l, .int .i64 m, .int .i64 n] 26) := ⟨_, rfl⟩
  rw [← hX1]
  have BW := Lib.hid (show Below w.heap.size w X1 by rw [hX1]; exact ((Below.refl _ _).alloc (Nat.le_refl _) _).alloc (by simp) _)
  have T1 := Lib.hid (show X1.heap[w.heap.size]? = some (tB a b c) by rw [hX1]; exact (new_two _ _).1)
  have N1 := Lib.hid (show X1.heap[w.heap.size + 1]? = some (nB l m n) by rw [hX1]; exact (new_two _ _).2)
  clear hX1
  obtain ⟨n0, n1, n2⟩ := nB_cell N1.out
  obtain ⟨Y0, hY0⟩ : ∃ Y0, Y0 = World.drew X1 := ⟨_, rfl⟩
  have B0 := Lib.hid (show Below X1.heap.size X1 Y0 by rw [hY0]; exact (Below.refl _ _).drew)
  refine wp_region_held_drew (S := fun w' => ∃ x : Grow X1, w' = x.w) (by kernel_rfl) ⟨⟨Y0, B0.out⟩, hY0.symm⟩ (fun hS => ?_)
  rw [← hY0] at hS ⊢
  have y0 : ∀ x : Grow X1, x.w.cell? ⟨w.heap.size + 1, 0, none⟩ = some (.int .i64 l) := fun x => x.cell n0
  have y1 : ∀ x : Grow X1, x.w.cell? ⟨w.heap.size + 1, 1, none⟩ = some (.int .i64 m) := fun x => x.cell n1
  have y2 : ∀ x : Grow X1, x.w.cell? ⟨w.heap.size + 1, 2, none⟩ = some (.int .i64 n) := fun x => x.cell n2
  clear hY0 n0 n1 n2
  refine wpAnyH_take (i := 0) (v := .agg #[.int .i64 a.x, .int .i64 a.y, .int .i64 a.z, .int .i64 a.a, .int .i64 a.b, .int .i64 a.c, .int .i64 a.d, .int .i64 b.x, .int .i64 b.y, .int .i64 b.z, .int .i64 b.a, .int .i64 b.b, .int .i64 b.c, .int .i64 b.d, .int .i64 c.x, .int .i64 c.y, .int .i64 c.z, .int .i64 c.a, .int .i64 c.b, .int .i64 c.c, .int .i64 c.d]) rfl (by kernel_rfl) (by kernel_rfl) (by kernel_rfl) (fun _ _ _ h => h) (yields_loadT _ rfl rfl rfl T1.out) hS ?_
  try simp only [Act.put, List.setIfInBounds_toArray, List.set_cons_zero, List.set_cons_succ, List.getElem_toArray, List.getElem_cons_zero]
  refine wpAnyH_take (i := 1) (v := (.int .i64 x)) rfl (by kernel_rfl) (by kernel_rfl) (by kernel_rfl) (fun _ _ _ h => h) (Or.inl ⟨by rfl, fun w hw => by obtain ⟨x, rfl⟩ := hw; go_simp⟩) hS ?_
  try simp only [Act.put, List.setIfInBounds_toArray, List.set_cons_zero, List.set_cons_succ, List.getElem_toArray, List.getElem_cons_zero, List.getElem_cons_succ]
  refine wpAnyH_take (i := 2) (v := (.int .i64 y)) rfl (by kernel_rfl) (by kernel_rfl) (by kernel_rfl) (fun _ _ _ h => h) (Or.inl ⟨by rfl, fun w hw => by obtain ⟨x, rfl⟩ := hw; go_simp⟩) hS ?_
  try simp only [Act.put, List.setIfInBounds_toArray, List.set_cons_zero, List.set_cons_succ, List.getElem_toArray, List.getElem_cons_zero, List.getElem_cons_succ]
  refine wpAnyH_take (i := 4) (v := (.agg #[.int .i64 l, .int .i64 m, .int .i64 n])) rfl (by kernel_rfl) (by kernel_rfl) (by kernel_rfl) (fun _ _ _ h => h) (Or.inl ⟨by rfl, fun w hw => by obtain ⟨x, rfl⟩ := hw; go_simp⟩) hS ?_
  try simp only [Act.put, List.setIfInBounds_toArray, List.set_cons_zero, List.set_cons_succ, List.getElem_toArray, List.getElem_cons_zero, List.getElem_cons_succ]
  refine wpAnyH_ready (rs := [3]) (by kernel_rfl) (by simp) ?_
  refine AllReadyH.cons rfl (fun K hK => ?_) AllReadyH.nil
  go_simp
  with_reducible refine (HO.out _).mono ?_
  rintro e t1 ⟨rfl, hb⟩
  have B1 := Lib.hid (bstep B0.out B0.out.size hb)
  clear hb
  refine hK.out _ _ ⟨⟨_, B1.out⟩, rfl⟩ (fun hS => ?_)
  clear hK K
  try simp only [Act.put, List.setIfInBounds_toArray, List.set_cons_zero, List.set_cons_succ, List.getElem_toArray, List.getElem_cons_zero, List.getElem_cons_succ]
  refine wpAnyH_ready (rs := [5]) (by kernel_rfl) (by simp) ?_
  refine AllReadyH.cons rfl (fun K hK => ?_) AllReadyH.nil
  go_simp
  with_reducible refine (over1_any l m n _).mono ?_
  rintro e t2 ⟨rfl, hb⟩
  have B2 := Lib.hid (bstep B1.out B1.out.size hb)
  clear hb
  refine hK.out _ _ ⟨⟨_, B2.out⟩, rfl⟩ (fun hS => ?_)
  clear hK K
  try simp only [Act.put, List.setIfInBounds_toArray, List.set_cons_zero, List.set_cons_succ, List.getElem_toArray, List.getElem_cons_zero, List.getElem_cons_succ]
  refine wpAnyH_ready (rs := [6]) (by kernel_rfl) (by simp) ?_
  refine AllReadyH.cons rfl (fun K hK => ?_) AllReadyH.nil
  go_simp
  refine hK.out _ _ ⟨⟨_, B2.out⟩, rfl⟩ (fun hS => ?_)
  clear hK K hS
  try simp only [Act.put, List.setIfInBounds_toArray, List.set_cons_zero, List.set_cons_succ, List.getElem_toArray, List.getElem_cons_zero, List.getElem_cons_succ]
  refine wpAnyH_done (by kernel_rfl) ?_ _
  go_wp2
  go_ret
  exact ⟨rfl, bstep BW.out BW.out.size B2.out⟩

set_option maxRecDepth 100000 in
set_option maxHeartbeats 2000000 in
theorem at_some (a b c : P) (l m n x y v : Int) (ha : a.ok) (hb : b.ok) (hc : c.ok) (hl : Ask l) (hm : Ask m) (hn : Ask n) (hx : In14 x) (hy : In14 y) (hs : 0 < area a b c) (hv : wsum a b c l m n x y / area a b c = v) (w : World) :
    Calls Try.prog 12 #[.agg #[.int .i64 a.x, .int .i64 a.y, .int .i64 a.z, .int .i64 a.a, .int .i64 a.b, .int .i64 a.c, .int .i64 a.d, .int .i64 b.x, .int .i64 b.y, .int .i64 b.z, .int .i64 b.a, .int .i64 b.b, .int .i64 b.c, .int .i64 b.d, .int .i64 c.x, .int .i64 c.y, .int .i64 c.z, .int .i64 c.a, .int .i64 c.b, .int .i64 c.c, .int .i64 c.d], .agg #[.int .i64 l, .int .i64 m, .int .i64 n], .int .i64 x, .int .i64 y] w fun e w' => e = .returned (.int .i64 v) ∧ Below w.heap.size w w' := by
  obtain ⟨x0, x1⟩ := hx
  obtain ⟨y0, y1⟩ := hy
  have HO := Lib.hid (fun w => over_some a b c x y ha.sm hb.sm hc.sm (by omega) (by omega) (by omega) (by omega) hs w)
  have HC := Lib.hid (fun g h w => over2_any l m n _ _ _ _ v g h w hl hm hn (crs_in hb hc x0 x1 y0 y1) (crs_in hc ha x0 x1 y0 y1) (crs_in ha hb x0 x1 y0 y1) hs (area_in ha hb hc).2 hv)
  clear ha hb hc hs hl hm hn x0 x1 y0 y1 hv
  generalize area a b c = s at *
  generalize crs b c x y = p at *
  generalize crs c a x y = q at *
  generalize crs a b x y = r at *
  go_enter Try.func12, Try.ntmps12
  go_wp2_with fail
  obtain ⟨X1, hX1⟩ : ∃ X1, X1 = (w.alloc (Obj.cells #[.int .i64 a.x, .int .i64 a.y, .int .i64 a.z, .int .i64 a.a, .int .i64 a.b, .int .i64 a.c, .int .i64 a.d, .int .i64 b.x, .int .i64 b.y, .int .i64 b.z, .int .i64 b.a, .int .i64 b.b, .int .i64 b.c, .int .i64 b.d, .int .i64 c.x, .int .i64 c.y, .int .i64 c.z, .int .i64 c.a, .int .i64 c.b, .int .i64 c.c, .int .i64 c.d] 25)).alloc (Obj.cells #[.int .i64 l, .int .i64 m, .int .i64 n] 26) := ⟨_, rfl⟩
  rw [← hX1]
  have BW := Lib.hid (show Below w.heap.size w X1 by rw [hX1]; exact ((Below.refl _ _).alloc (Nat.le_refl _) _).alloc (by simp) _)
  have T1 := Lib.hid (show X1.heap[w.heap.size]? = some (tB a b c) by rw [hX1]; exact (new_two _ _).1)
  have N1 := Lib.hid (show X1.heap[w.heap.size + 1]? = some (nB l m n) by rw [hX1]; exact (new_two _ _).2)
  clear hX1
  obtain ⟨n0, n1, n2⟩ := nB_cell N1.out
  obtain ⟨Y0, hY0⟩ : ∃ Y0, Y0 = World.drew X1 := ⟨_, rfl⟩
  have B0 := Lib.hid (show Below X1.heap.size X1 Y0 by rw [hY0]; exact (Below.refl _ _).drew)
  refine wp_region_held_drew (S := fun w' => ∃ x : Grow X1, w' = x.w) (by kernel_rfl) ⟨⟨Y0, B0.out⟩, hY0.symm⟩ (fun hS => ?_)
  rw [← hY0] at hS ⊢
  have y0 : ∀ x : Grow X1, x.w.cell? ⟨w.heap.size + 1, 0, none⟩ = some (.int .i64 l) := fun x => x.cell n0
  have y1 : ∀ x : Grow X1, x.w.cell? ⟨w.heap.size + 1, 1, none⟩ = some (.int .i64 m) := fun x => x.cell n1
  have y2 : ∀ x : Grow X1, x.w.cell? ⟨w.heap.size + 1, 2, none⟩ = some (.int .i64 n) := fun x => x.cell n2
  clear hY0 n0 n1 n2
  refine wpAnyH_take (i := 0) (v := .agg #[.int .i64 a.x, .int .i64 a.y, .int .i64 a.z, .int .i64 a.a, .int .i64 a.b, .int .i64 a.c, .int .i64 a.d, .int .i64 b.x, .int .i64 b.y, .int .i64 b.z, .int .i64 b.a, .int .i64 b.b, .int .i64 b.c, .int .i64 b.d, .int .i64 c.x, .int .i64 c.y, .int .i64 c.z, .int .i64 c.a, .int .i64 c.b, .int .i64 c.c, .int .i64 c.d]) rfl (by kernel_rfl) (by kernel_rfl) (by kernel_rfl) (fun _ _ _ h => h) (yields_loadT _ rfl rfl rfl T1.out) hS ?_
  try simp only [Act.put, List.setIfInBounds_toArray, List.set_cons_zero, List.set_cons_succ, List.getElem_toArray, List.getElem_cons_zero]
  refine wpAnyH_take (i := 1) (v := (.int .i64 x)) rfl (by kernel_rfl) (by kernel_rfl) (by kernel_rfl) (fun _ _ _ h => h) (Or.inl ⟨by rfl, fun w hw => by obtain ⟨x, rfl⟩ := hw; go_simp⟩) hS ?_
  try simp only [Act.put, List.setIfInBounds_toArray, List.set_cons_zero, List.set_cons_succ, List.getElem_toArray, List.getElem_cons_zero, List.getElem_cons_succ]
  refine wpAnyH_take (i := 2) (v := (.int .i64 y)) rfl (by kernel_rfl) (by kernel_rfl) (by kernel_rfl) (fun _ _ _ h => h) (Or.inl ⟨by rfl, fun w hw => by obtain ⟨x, rfl⟩ := hw; go_simp⟩) hS ?_
  try simp only [Act.put, List.setIfInBounds_toArray, List.set_cons_zero, List.set_cons_succ, List.getElem_toArray, List.getElem_cons_zero, List.getElem_cons_succ]
  refine wpAnyH_take (i := 4) (v := (.agg #[.int .i64 l, .int .i64 m, .int .i64 n])) rfl (by kernel_rfl) (by kernel_rfl) (by kernel_rfl) (fun _ _ _ h => h) (Or.inl ⟨by rfl, fun w hw => by obtain ⟨x, rfl⟩ := hw; go_simp⟩) hS ?_
  try simp only [Act.put, List.setIfInBounds_toArray, List.set_cons_zero, List.set_cons_succ, List.getElem_toArray, List.getElem_cons_zero, List.getElem_cons_succ]
  refine wpAnyH_ready (rs := [3]) (by kernel_rfl) (by simp) ?_
  refine AllReadyH.cons rfl (fun K hK => ?_) AllReadyH.nil
  go_simp
  with_reducible refine (HO.out _).mono ?_
  rintro e t1 ⟨g, h, rfl, hg, hh, hb⟩
  have Hg := Lib.hid hg
  have Hh := Lib.hid hh
  clear hg hh
  have B1 := Lib.hid (bstep B0.out B0.out.size hb)
  clear hb
  refine hK.out _ _ ⟨⟨_, B1.out⟩, rfl⟩ (fun hS => ?_)
  clear hK K
  try simp only [Act.put, List.setIfInBounds_toArray, List.set_cons_zero, List.set_cons_succ, List.getElem_toArray, List.getElem_cons_zero, List.getElem_cons_succ]
  refine wpAnyH_ready (rs := [5]) (by kernel_rfl) (by simp) ?_
  refine AllReadyH.cons rfl (fun K hK => ?_) AllReadyH.nil
  go_simp
  with_reducible refine (HC.out _ _ _ Hg.out Hh.out).mono ?_
  rintro e t2 ⟨rfl, hb⟩
  have B2 := Lib.hid (bstep B1.out B1.out.size hb)
  clear hb
  refine hK.out _ _ ⟨⟨_, B2.out⟩, rfl⟩ (fun hS => ?_)
  clear hK K
  try simp only [Act.put, List.setIfInBounds_toArray, List.set_cons_zero, List.set_cons_succ, List.getElem_toArray, List.getElem_cons_zero, List.getElem_cons_succ]
  refine wpAnyH_ready (rs := [6]) (by kernel_rfl) (by simp) ?_
  refine AllReadyH.cons rfl (fun K hK => ?_) AllReadyH.nil
  go_simp
  refine hK.out _ _ ⟨⟨_, B2.out⟩, rfl⟩ (fun hS => ?_)
  clear hK K hS
  try simp only [Act.put, List.setIfInBounds_toArray, List.set_cons_zero, List.set_cons_succ, List.getElem_toArray, List.getElem_cons_zero, List.getElem_cons_succ]
  refine wpAnyH_done (by kernel_rfl) ?_ _
  go_wp2
  go_ret
  exact ⟨rfl, bstep BW.out BW.out.size B2.out⟩

theorem at_any (a b c : P) (l m n x y v : Int) (ha : a.ok) (hb : b.ok) (hc : c.ok) (hl : Ask l) (hm : Ask m) (hn : Ask n) (hx : In14 x) (hy : In14 y) (hv : num a b c l m n x y = v) (w : World) :
    Calls Try.prog 12 #[.agg #[.int .i64 a.x, .int .i64 a.y, .int .i64 a.z, .int .i64 a.a, .int .i64 a.b, .int .i64 a.c, .int .i64 a.d, .int .i64 b.x, .int .i64 b.y, .int .i64 b.z, .int .i64 b.a, .int .i64 b.b, .int .i64 b.c, .int .i64 b.d, .int .i64 c.x, .int .i64 c.y, .int .i64 c.z, .int .i64 c.a, .int .i64 c.b, .int .i64 c.c, .int .i64 c.d], .agg #[.int .i64 l, .int .i64 m, .int .i64 n], .int .i64 x, .int .i64 y] w fun e w' => e = .returned (.int .i64 v) ∧ Below w.heap.size w w' := by
  subst hv
  rcases Int.lt_or_le 0 (area a b c) with h | h
  · exact at_some a b c l m n x y _ ha hb hc hl hm hn hx hy h (num_pos h).symm w
  · rw [num_neg h]
    exact at_none a b c l m n x y ha.sm hb.sm hc.sm h w
end Go.Proofs.Ytiijpehchifheaa
