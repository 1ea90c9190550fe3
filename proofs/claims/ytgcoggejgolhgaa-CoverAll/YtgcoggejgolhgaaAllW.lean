/-
  CoverAll's walk.
-/
import Derived.Test.YtgcoggejgolhgaaRefM
import Derived.Test.YtgcoggejgolhgaaQuiet
namespace Go.Proofs.Ytgcoggejgolhgaa
open Go.RowKit
attribute [local go_sem ↓] Go.wp_at_zero Go.wp_at_succ

/-- Three points out of a block, in a region that is held. -/
theorem yields_loadT {ops : Array Oper} {o : Oper} {k : Act} {X : World} {g : Nat} {a b c : P} (x : Operand) (ho : o.op = .load 25 x) (hw : Region.wanted o (yielded ops k.tmps) = true)
    (hx : k.eval x = .pointer (some ⟨g, 0, none⟩)) (hg : X.heap[g]? = some (tB a b c)) : YieldsIf Try.prog ops (fun w' => ∃ x : Grow X, w' = x.w) o (.agg #[.int .i64 a.x, .int .i64 a.y, .int .i64 a.z, .int .i64 a.a, .int .i64 a.b, .int .i64 a.c, .int .i64 a.d, .int .i64 b.x, .int .i64 b.y, .int .i64 b.z, .int .i64 b.a, .int .i64 b.b, .int .i64 b.c, .int .i64 b.d, .int .i64 c.x, .int .i64 c.y, .int .i64 c.z, .int .i64 c.a, .int .i64 c.b, .int .i64 c.c, .int .i64 c.d]) k :=
  Or.inl ⟨hw, fun w hw => by
    obtain ⟨y, rfl⟩ := hw
    have hl := loadT (tB_grow hg y.below)
    simp [execOp, ho, hx, hl, Result.andThen]
    try rfl⟩

set_option maxRecDepth 100000 in
set_option maxHeartbeats 2000000 in
theorem all_walk (a b c : P) (e f i m : Int) (w : World) (hm0 : 0 ≤ m) (hm1 : m ≤ 255) :
    Calls Try.prog 3 #[.agg #[.int .i64 a.x, .int .i64 a.y, .int .i64 a.z, .int .i64 a.a, .int .i64 a.b, .int .i64 a.c, .int .i64 a.d, .int .i64 b.x, .int .i64 b.y, .int .i64 b.z, .int .i64 b.a, .int .i64 b.b, .int .i64 b.c, .int .i64 b.d, .int .i64 c.x, .int .i64 c.y, .int .i64 c.z, .int .i64 c.a, .int .i64 c.b, .int .i64 c.c, .int .i64 c.d], .agg #[.int .i64 e, .int .i64 f, .int .i64 i], .int .u8 m] w fun e w' => e = .returned (.bool true) ∧ Below w.heap.size w w' := by
  have HSh := Lib.hid shown_any
  have H3 := three_any a b c
  have oa := (smallP_ok a).sm
  have ob := (smallP_ok b).sm
  have oc := (smallP_ok c).sm
  generalize smallP a = p at *
  generalize smallP b = q at *
  generalize smallP c = r at *
  replace H3 := Lib.hid H3
  have hx' := tmod_bd e 1025 (by decide)
  have hy' := tmod_bd f 1025 (by decide)
  obtain ⟨x, ex⟩ : ∃ x, e.tmod 1025 = x := ⟨_, rfl⟩
  obtain ⟨y, ey⟩ : ∃ y, f.tmod 1025 = y := ⟨_, rfl⟩
  rw [ex] at hx'
  rw [ey] at hy'
  have hx : -1024 ≤ x ∧ x ≤ 1024 := by omega
  have hy : -1024 ≤ y ∧ y ≤ 1024 := by omega
  have HS1 := Lib.hid (sample_any x y i hx hy)
  have HS2 := Lib.hid (rsample_any x y i hx hy)
  have HM1 := Lib.hid (mask_any p q r x y oa ob oc hx hy)
  have HM2 := Lib.hid (rmask_any p q r x y oa ob oc hx hy)
  have HG : ∀ w, Calls Try.prog 11 #[.int .u8 m, .int .i64 100] w (Gone w m 100) := fun w => gone_any m 100 hm0 hm1 (by omega) (by omega) w
  have HB := Lib.hid (rbits_any m hm0 hm1)
  have HC := count_any m hm0 hm1
  have hl : (bl m 4).length = (ints m).length := by unfold ints; rw [List.length_map]
  have hn := ints_len m
  rw [hl] at HC
  clear hl hx hy hx' hy' oa ob oc hm0 hm1
  unfold Gone at HG
  rw [List.take_of_length_le (by omega)] at HG
  replace HG := Lib.hid HG
  replace HC := Lib.hid HC
  generalize ints m = xs at *
  generalize mask p q r x y = k at *
  generalize 16 * x + sx i = u at *
  generalize 16 * y + sy i = v at *
  go_enter Try.func3, Try.ntmps3
  go_wp2_with fail
  obtain ⟨X0, hX0⟩ : ∃ X0, X0 = (w.alloc (Obj.cells #[.int .i64 a.x, .int .i64 a.y, .int .i64 a.z, .int .i64 a.a, .int .i64 a.b, .int .i64 a.c, .int .i64 a.d, .int .i64 b.x, .int .i64 b.y, .int .i64 b.z, .int .i64 b.a, .int .i64 b.b, .int .i64 b.c, .int .i64 b.d, .int .i64 c.x, .int .i64 c.y, .int .i64 c.z, .int .i64 c.a, .int .i64 c.b, .int .i64 c.c, .int .i64 c.d] 25)).alloc (Obj.cells #[.int .i64 e, .int .i64 f, .int .i64 i] 26) := ⟨_, rfl⟩
  rw [← hX0]
  have B0 := Lib.hid (show Below w.heap.size w X0 by rw [hX0]; exact ((Below.refl _ _).alloc (Nat.le_refl _) _).alloc (by simp) _)
  have L0 := Lib.hid (show X0.heap[w.heap.size]? = some (tB a b c) by rw [hX0]; exact (new_two _ _).1)
  have E0 := Lib.hid (show X0.heap[w.heap.size + 1]? = some (.cells #[.int .i64 e, .int .i64 f, .int .i64 i] 26) by rw [hX0]; exact (new_two _ _).2)
  have G0 := Lib.hid (show w.heap.size + 1 < X0.heap.size by rw [hX0]; simp)
  clear hX0
  with_reducible refine (HSh.out _).mono ?_
  rintro e' X1 ⟨rfl, hb⟩
  have B1 := Lib.hid (bstep B0.out B0.out.size hb)
  have L1 := Lib.hid (tB_grow L0.out hb)
  have E1 := Lib.hid ((hb.block _ (by have := G0.out; omega)).trans E0.out)
  have G1 := Lib.hid (show w.heap.size + 1 < X1.heap.size by have := hb.size; have := G0.out; omega)
  clear hb B0 L0 E0 G0
  go_wp2_with (refine wp_loadT (a := a) (b := b) (c := c) (.tmp 3) rfl rfl rfl L1.out ?_)
  with_reducible refine (H3.out _).mono ?_
  rintro e' X2 ⟨rfl, hb⟩
  have B2 := Lib.hid (bstep B1.out B1.out.size hb)
  have L2 := Lib.hid (tB_grow L1.out hb)
  have E2 := Lib.hid ((hb.block _ (by have := G1.out; omega)).trans E1.out)
  have G2 := Lib.hid (show w.heap.size + 1 < X2.heap.size by have := hb.size; have := G1.out; omega)
  clear hb B1 L1 E1 G1
  go_upto_region 3 with (refine wp_newT (a := p) (b := q) (c := r) (.tmp 20) rfl rfl rfl rfl rfl rfl rfl rfl ?_)
  obtain ⟨X3, hX3⟩ : ∃ X3, X3 = X2.alloc (Obj.cells #[.int .i64 p.x, .int .i64 p.y, .int .i64 p.z, .int .i64 p.a, .int .i64 p.b, .int .i64 p.c, .int .i64 p.d, .int .i64 q.x, .int .i64 q.y, .int .i64 q.z, .int .i64 q.a, .int .i64 q.b, .int .i64 q.c, .int .i64 q.d, .int .i64 r.x, .int .i64 r.y, .int .i64 r.z, .int .i64 r.a, .int .i64 r.b, .int .i64 r.c, .int .i64 r.d] 25) := ⟨_, rfl⟩
  rw [← hX3]
  have B3 := Lib.hid (show Below w.heap.size w X3 by rw [hX3]; exact B2.out.alloc B2.out.size _)
  have U3 := Lib.hid (show X3.heap[X2.heap.size]? = some (tB p q r) by rw [hX3]; exact new_at rfl)
  have E3 := Lib.hid (show X3.heap[w.heap.size + 1]? = some (.cells #[.int .i64 e, .int .i64 f, .int .i64 i] 26) by rw [hX3]; exact (Below.heap_alloc _ _ _ (by have := G2.out; omega)).trans E2.out)
  clear hX3
  obtain ⟨g, hg⟩ : ∃ g, X2.heap.size = g := ⟨_, rfl⟩
  rw [hg] at U3 ⊢
  clear hg B2 E2 L2 G2
  have c0 : X3.cell? ⟨w.heap.size + 1, 0, none⟩ = some (.int .i64 e) := by simp [World.cell?, E3.out]
  have c1 : X3.cell? ⟨w.heap.size + 1, 1, none⟩ = some (.int .i64 f) := by simp [World.cell?, E3.out]
  have c2 : X3.cell? ⟨w.heap.size + 1, 2, none⟩ = some (.int .i64 i) := by simp [World.cell?, E3.out]
  go_wp2_with (first | (go_at_call 9; (with_reducible refine (HS1.out _).mono ?_); rintro e w' ⟨rfl, rfl⟩) | (go_at_call 10; (with_reducible refine (HS2.out _).mono ?_); rintro e w' ⟨rfl, rfl⟩))
  with_reducible refine (HG.out _).mono ?_
  rintro e' X4 ⟨s1, rfl, hO, hb⟩
  obtain ⟨A1, k1, rfl⟩ := own_form hO
  have O4 := Lib.hid hO
  have B4 := Lib.hid (bstep B3.out B3.out.size hb)
  have U4 := Lib.hid (tB_grow U3.out hb)
  clear hb hO B3 U3 c0 c1 c2 E3
  go_wp2_with fail
  with_reducible refine (HB.out _).mono ?_
  rintro e' X5 ⟨s2, rfl, hO, hb⟩
  obtain ⟨A2, k2, rfl⟩ := own_form hO
  have O5 := Lib.hid hO
  have O5' := Lib.hid (OwnS.keep O4.out hb)
  have B5 := Lib.hid (bstep B4.out B4.out.size hb)
  have U5 := Lib.hid (tB_grow U4.out hb)
  clear hb hO B4 U4 O4
  obtain ⟨A3, k3, e3, -, -, z3⟩ := O5'.out.sl
  obtain ⟨A4, k4, e4, -, -, z4⟩ := O5.out.sl
  cases e3
  cases e4
  have HSm := Lib.hid (same_any A1 A2 k1 k2 xs X5 z3 z4 (by omega))
  clear z3 z4 O5 O5'
  go_wp2_with fail
  with_reducible refine HSm.out.mono ?_
  rintro e' X6 ⟨rfl, hb⟩
  have B6 := Lib.hid (bstep B5.out B5.out.size hb)
  have U6 := Lib.hid (tB_grow U5.out hb)
  clear hb B5 U5 HSm
  go_wp2_with fail
  have hSS : (∃ x : Grow X6, X6.drew = x.w) := ⟨⟨_, (Below.refl _ _).drew⟩, rfl⟩
  have DX6 := Lib.hid (show Below X6.heap.size X6 X6.drew from (Below.refl _ _).drew)
  refine wp_region_held_drew (S := fun w' => ∃ x : Grow X6, w' = x.w) (by kernel_rfl) hSS (fun hSS => ?_)
  refine wpAnyH_take (i := 0) (v := (.bool true)) rfl (by kernel_rfl) (by kernel_rfl) (by kernel_rfl) (fun _ _ _ h => h) (Or.inl ⟨by rfl, fun w hw => by obtain ⟨x, rfl⟩ := hw; go_simp⟩) hSS ?_
  try simp only [Act.put, List.setIfInBounds_toArray, List.set_cons_zero, List.set_cons_succ, List.getElem_toArray, List.getElem_cons_zero]
  refine wpAnyH_take (i := 1) (v := (.bool true)) rfl (by kernel_rfl) (by kernel_rfl) (by kernel_rfl) (fun _ _ _ h => h) (Or.inl ⟨by rfl, fun w hw => by obtain ⟨x, rfl⟩ := hw; go_simp⟩) hSS ?_
  try simp only [Act.put, List.setIfInBounds_toArray, List.set_cons_zero, List.set_cons_succ, List.getElem_toArray, List.getElem_cons_zero, List.getElem_cons_succ]
  refine wpAnyH_take (i := 2) (v := (.int .i64 u)) rfl (by kernel_rfl) (by kernel_rfl) (by kernel_rfl) (fun _ _ _ h => h) (Or.inl ⟨by rfl, fun w hw => by obtain ⟨x, rfl⟩ := hw; go_simp⟩) hSS ?_
  try simp only [Act.put, List.setIfInBounds_toArray, List.set_cons_zero, List.set_cons_succ, List.getElem_toArray, List.getElem_cons_zero, List.getElem_cons_succ]
  refine wpAnyH_take (i := 3) (v := (.int .i64 u)) rfl (by kernel_rfl) (by kernel_rfl) (by kernel_rfl) (fun _ _ _ h => h) (Or.inl ⟨by rfl, fun w hw => by obtain ⟨x, rfl⟩ := hw; go_simp⟩) hSS ?_
  try simp only [Act.put, List.setIfInBounds_toArray, List.set_cons_zero, List.set_cons_succ, List.getElem_toArray, List.getElem_cons_zero, List.getElem_cons_succ]
  refine wpAnyH_take (i := 4) (v := (.bool true)) rfl (by kernel_rfl) (by kernel_rfl) (by kernel_rfl) (fun _ _ _ h => h) (Or.inl ⟨by rfl, fun w hw => by obtain ⟨x, rfl⟩ := hw; go_simp⟩) hSS ?_
  try simp only [Act.put, List.setIfInBounds_toArray, List.set_cons_zero, List.set_cons_succ, List.getElem_toArray, List.getElem_cons_zero, List.getElem_cons_succ]
  refine wpAnyH_take (i := 5) (v := (.bool true)) rfl (by kernel_rfl) (by kernel_rfl) (by kernel_rfl) (fun _ _ _ h => h) (Or.inl ⟨by rfl, fun w hw => by obtain ⟨x, rfl⟩ := hw; go_simp⟩) hSS ?_
  try simp only [Act.put, List.setIfInBounds_toArray, List.set_cons_zero, List.set_cons_succ, List.getElem_toArray, List.getElem_cons_zero, List.getElem_cons_succ]
  refine wpAnyH_take (i := 6) (v := (.bool true)) rfl (by kernel_rfl) (by kernel_rfl) (by kernel_rfl) (fun _ _ _ h => h) (Or.inl ⟨by rfl, fun w hw => by obtain ⟨x, rfl⟩ := hw; go_simp⟩) hSS ?_
  try simp only [Act.put, List.setIfInBounds_toArray, List.set_cons_zero, List.set_cons_succ, List.getElem_toArray, List.getElem_cons_zero, List.getElem_cons_succ]
  refine wpAnyH_take (i := 7) (v := (.int .i64 v)) rfl (by kernel_rfl) (by kernel_rfl) (by kernel_rfl) (fun _ _ _ h => h) (Or.inl ⟨by rfl, fun w hw => by obtain ⟨x, rfl⟩ := hw; go_simp⟩) hSS ?_
  try simp only [Act.put, List.setIfInBounds_toArray, List.set_cons_zero, List.set_cons_succ, List.getElem_toArray, List.getElem_cons_zero, List.getElem_cons_succ]
  refine wpAnyH_take (i := 8) (v := (.int .i64 v)) rfl (by kernel_rfl) (by kernel_rfl) (by kernel_rfl) (fun _ _ _ h => h) (Or.inl ⟨by rfl, fun w hw => by obtain ⟨x, rfl⟩ := hw; go_simp⟩) hSS ?_
  try simp only [Act.put, List.setIfInBounds_toArray, List.set_cons_zero, List.set_cons_succ, List.getElem_toArray, List.getElem_cons_zero, List.getElem_cons_succ]
  refine wpAnyH_take (i := 9) (v := (.bool true)) rfl (by kernel_rfl) (by kernel_rfl) (by kernel_rfl) (fun _ _ _ h => h) (Or.inl ⟨by rfl, fun w hw => by obtain ⟨x, rfl⟩ := hw; go_simp⟩) hSS ?_
  try simp only [Act.put, List.setIfInBounds_toArray, List.set_cons_zero, List.set_cons_succ, List.getElem_toArray, List.getElem_cons_zero, List.getElem_cons_succ]
  refine wpAnyH_take (i := 10) (v := (.bool true)) rfl (by kernel_rfl) (by kernel_rfl) (by kernel_rfl) (fun _ _ _ h => h) (Or.inl ⟨by rfl, fun w hw => by obtain ⟨x, rfl⟩ := hw; go_simp⟩) hSS ?_
  try simp only [Act.put, List.setIfInBounds_toArray, List.set_cons_zero, List.set_cons_succ, List.getElem_toArray, List.getElem_cons_zero, List.getElem_cons_succ]
  refine wpAnyH_take (i := 11) (v := (.bool true)) rfl (by kernel_rfl) (by kernel_rfl) (by kernel_rfl) (fun _ _ _ h => h) (Or.inl ⟨by rfl, fun w hw => by obtain ⟨x, rfl⟩ := hw; go_simp⟩) hSS ?_
  try simp only [Act.put, List.setIfInBounds_toArray, List.set_cons_zero, List.set_cons_succ, List.getElem_toArray, List.getElem_cons_zero, List.getElem_cons_succ]
  refine wpAnyH_take (i := 12) (v := (.bool true)) rfl (by kernel_rfl) (by kernel_rfl) (by kernel_rfl) (fun _ _ _ h => h) (Or.inl ⟨by rfl, fun w hw => by obtain ⟨x, rfl⟩ := hw; go_simp⟩) hSS ?_
  try simp only [Act.put, List.setIfInBounds_toArray, List.set_cons_zero, List.set_cons_succ, List.getElem_toArray, List.getElem_cons_zero, List.getElem_cons_succ]
  refine wpAnyH_take (i := 13) (v := (.bool true)) rfl (by kernel_rfl) (by kernel_rfl) (by kernel_rfl) (fun _ _ _ h => h) (Or.inl ⟨by rfl, fun w hw => by obtain ⟨x, rfl⟩ := hw; go_simp⟩) hSS ?_
  try simp only [Act.put, List.setIfInBounds_toArray, List.set_cons_zero, List.set_cons_succ, List.getElem_toArray, List.getElem_cons_zero, List.getElem_cons_succ]
  refine wpAnyH_take (i := 14) (v := (.bool true)) rfl (by kernel_rfl) (by kernel_rfl) (by kernel_rfl) (fun _ _ _ h => h) (Or.inl ⟨by rfl, fun w hw => by obtain ⟨x, rfl⟩ := hw; go_simp⟩) hSS ?_
  try simp only [Act.put, List.setIfInBounds_toArray, List.set_cons_zero, List.set_cons_succ, List.getElem_toArray, List.getElem_cons_zero, List.getElem_cons_succ]
  refine wpAnyH_take (i := 15) (v := (.bool true)) rfl (by kernel_rfl) (by kernel_rfl) (by kernel_rfl) (fun _ _ _ h => h) (Or.inl ⟨by rfl, fun w hw => by obtain ⟨x, rfl⟩ := hw; go_simp⟩) hSS ?_
  try simp only [Act.put, List.setIfInBounds_toArray, List.set_cons_zero, List.set_cons_succ, List.getElem_toArray, List.getElem_cons_zero, List.getElem_cons_succ]
  refine wpAnyH_take (i := 16) (v := (.bool true)) rfl (by kernel_rfl) (by kernel_rfl) (by kernel_rfl) (fun _ _ _ h => h) (Or.inl ⟨by rfl, fun w hw => by obtain ⟨x, rfl⟩ := hw; go_simp⟩) hSS ?_
  try simp only [Act.put, List.setIfInBounds_toArray, List.set_cons_zero, List.set_cons_succ, List.getElem_toArray, List.getElem_cons_zero, List.getElem_cons_succ]
  refine wpAnyH_take (i := 17) (v := (.bool true)) rfl (by kernel_rfl) (by kernel_rfl) (by kernel_rfl) (fun _ _ _ h => h) (Or.inl ⟨by rfl, fun w hw => by obtain ⟨x, rfl⟩ := hw; go_simp⟩) hSS ?_
  try simp only [Act.put, List.setIfInBounds_toArray, List.set_cons_zero, List.set_cons_succ, List.getElem_toArray, List.getElem_cons_zero, List.getElem_cons_succ]
  refine wpAnyH_take (i := 18) (v := (.agg #[.int .i64 p.x, .int .i64 p.y, .int .i64 p.z, .int .i64 p.a, .int .i64 p.b, .int .i64 p.c, .int .i64 p.d, .int .i64 q.x, .int .i64 q.y, .int .i64 q.z, .int .i64 q.a, .int .i64 q.b, .int .i64 q.c, .int .i64 q.d, .int .i64 r.x, .int .i64 r.y, .int .i64 r.z, .int .i64 r.a, .int .i64 r.b, .int .i64 r.c, .int .i64 r.d])) rfl (by kernel_rfl) (by kernel_rfl) (by kernel_rfl) (fun _ _ _ h => h) (yields_loadT (.tmp 8) rfl rfl rfl U6.out) hSS ?_
  try simp only [Act.put, List.setIfInBounds_toArray, List.set_cons_zero, List.set_cons_succ, List.getElem_toArray, List.getElem_cons_zero, List.getElem_cons_succ]
  refine wpAnyH_take (i := 19) (v := (.int .i64 x)) rfl (by kernel_rfl) (by kernel_rfl) (by kernel_rfl) (fun _ _ _ h => h) (Or.inl ⟨by rfl, fun w hw => by obtain ⟨x, rfl⟩ := hw; go_simp⟩) hSS ?_
  try simp only [Act.put, List.setIfInBounds_toArray, List.set_cons_zero, List.set_cons_succ, List.getElem_toArray, List.getElem_cons_zero, List.getElem_cons_succ]
  refine wpAnyH_take (i := 20) (v := (.int .i64 y)) rfl (by kernel_rfl) (by kernel_rfl) (by kernel_rfl) (fun _ _ _ h => h) (Or.inl ⟨by rfl, fun w hw => by obtain ⟨x, rfl⟩ := hw; go_simp⟩) hSS ?_
  try simp only [Act.put, List.setIfInBounds_toArray, List.set_cons_zero, List.set_cons_succ, List.getElem_toArray, List.getElem_cons_zero, List.getElem_cons_succ]
  refine wpAnyH_take (i := 22) (v := (.agg #[.int .i64 p.x, .int .i64 p.y, .int .i64 p.z, .int .i64 p.a, .int .i64 p.b, .int .i64 p.c, .int .i64 p.d, .int .i64 q.x, .int .i64 q.y, .int .i64 q.z, .int .i64 q.a, .int .i64 q.b, .int .i64 q.c, .int .i64 q.d, .int .i64 r.x, .int .i64 r.y, .int .i64 r.z, .int .i64 r.a, .int .i64 r.b, .int .i64 r.c, .int .i64 r.d])) rfl (by kernel_rfl) (by kernel_rfl) (by kernel_rfl) (fun _ _ _ h => h) (yields_loadT (.tmp 8) rfl rfl rfl U6.out) hSS ?_
  try simp only [Act.put, List.setIfInBounds_toArray, List.set_cons_zero, List.set_cons_succ, List.getElem_toArray, List.getElem_cons_zero, List.getElem_cons_succ]
  refine wpAnyH_take (i := 23) (v := (.int .i64 x)) rfl (by kernel_rfl) (by kernel_rfl) (by kernel_rfl) (fun _ _ _ h => h) (Or.inl ⟨by rfl, fun w hw => by obtain ⟨x, rfl⟩ := hw; go_simp⟩) hSS ?_
  try simp only [Act.put, List.setIfInBounds_toArray, List.set_cons_zero, List.set_cons_succ, List.getElem_toArray, List.getElem_cons_zero, List.getElem_cons_succ]
  refine wpAnyH_take (i := 24) (v := (.int .i64 y)) rfl (by kernel_rfl) (by kernel_rfl) (by kernel_rfl) (fun _ _ _ h => h) (Or.inl ⟨by rfl, fun w hw => by obtain ⟨x, rfl⟩ := hw; go_simp⟩) hSS ?_
  try simp only [Act.put, List.setIfInBounds_toArray, List.set_cons_zero, List.set_cons_succ, List.getElem_toArray, List.getElem_cons_zero, List.getElem_cons_succ]
  refine wpAnyH_ready (rs := [21]) (by kernel_rfl) (by simp) ?_
  refine AllReadyH.cons rfl (fun K hK => ?_) AllReadyH.nil
  go_simp
  with_reducible refine (HM1.out _).mono ?_
  rintro e' X7 ⟨rfl, hb⟩
  have DX7 := Lib.hid (bstep DX6.out DX6.out.size hb)
  clear hb DX6
  refine hK.out _ _ ⟨⟨_, DX7.out⟩, rfl⟩ (fun hSS => ?_)
  clear hK K
  try simp only [Act.put, List.setIfInBounds_toArray, List.set_cons_zero, List.set_cons_succ, List.getElem_toArray, List.getElem_cons_zero, List.getElem_cons_succ]
  refine wpAnyH_ready (rs := [25]) (by kernel_rfl) (by simp) ?_
  refine AllReadyH.cons rfl (fun K hK => ?_) AllReadyH.nil
  go_simp
  with_reducible refine (HM2.out _).mono ?_
  rintro e' X8 ⟨rfl, hb⟩
  have DX8 := Lib.hid (bstep DX7.out DX7.out.size hb)
  clear hb DX7
  refine hK.out _ _ ⟨⟨_, DX8.out⟩, rfl⟩ (fun hSS => ?_)
  clear hK K
  try simp only [Act.put, List.setIfInBounds_toArray, List.set_cons_zero, List.set_cons_succ, List.getElem_toArray, List.getElem_cons_zero, List.getElem_cons_succ]
  refine wpAnyH_take (i := 26) (v := (.bool true)) rfl (by kernel_rfl) (by kernel_rfl) (by kernel_rfl) (fun _ _ _ h => h) (Or.inl ⟨by rfl, fun w hw => by obtain ⟨x, rfl⟩ := hw; go_simp⟩) hSS ?_
  try simp only [Act.put, List.setIfInBounds_toArray, List.set_cons_zero, List.set_cons_succ, List.getElem_toArray, List.getElem_cons_zero, List.getElem_cons_succ]
  refine wpAnyH_take (i := 27) (v := (.bool true)) rfl (by kernel_rfl) (by kernel_rfl) (by kernel_rfl) (fun _ _ _ h => h) (Or.inl ⟨by rfl, fun w hw => by obtain ⟨x, rfl⟩ := hw; go_simp⟩) hSS ?_
  try simp only [Act.put, List.setIfInBounds_toArray, List.set_cons_zero, List.set_cons_succ, List.getElem_toArray, List.getElem_cons_zero, List.getElem_cons_succ]
  refine wpAnyH_take (i := 28) (v := (.bool true)) rfl (by kernel_rfl) (by kernel_rfl) (by kernel_rfl) (fun _ _ _ h => h) (Or.inl ⟨by rfl, fun w hw => by obtain ⟨x, rfl⟩ := hw; go_simp⟩) hSS ?_
  try simp only [Act.put, List.setIfInBounds_toArray, List.set_cons_zero, List.set_cons_succ, List.getElem_toArray, List.getElem_cons_zero, List.getElem_cons_succ]
  refine wpAnyH_take (i := 29) (v := (.int .u8 m)) rfl (by kernel_rfl) (by kernel_rfl) (by kernel_rfl) (fun _ _ _ h => h) (Or.inl ⟨by rfl, fun w hw => by obtain ⟨x, rfl⟩ := hw; go_simp⟩) hSS ?_
  try simp only [Act.put, List.setIfInBounds_toArray, List.set_cons_zero, List.set_cons_succ, List.getElem_toArray, List.getElem_cons_zero, List.getElem_cons_succ]
  refine wpAnyH_take (i := 31) (v := (.int .u8 m)) rfl (by kernel_rfl) (by kernel_rfl) (by kernel_rfl) (fun _ _ _ h => h) (Or.inl ⟨by rfl, fun w hw => by obtain ⟨x, rfl⟩ := hw; go_simp⟩) hSS ?_
  try simp only [Act.put, List.setIfInBounds_toArray, List.set_cons_zero, List.set_cons_succ, List.getElem_toArray, List.getElem_cons_zero, List.getElem_cons_succ]
  refine wpAnyH_ready (rs := [30]) (by kernel_rfl) (by simp) ?_
  refine AllReadyH.cons rfl (fun K hK => ?_) AllReadyH.nil
  go_simp
  with_reducible refine (HC.out _).mono ?_
  rintro e' X9 ⟨rfl, hb⟩
  have DX9 := Lib.hid (bstep DX8.out DX8.out.size hb)
  clear hb DX8
  refine hK.out _ _ ⟨⟨_, DX9.out⟩, rfl⟩ (fun hSS => ?_)
  clear hK K
  try simp only [Act.put, List.setIfInBounds_toArray, List.set_cons_zero, List.set_cons_succ, List.getElem_toArray, List.getElem_cons_zero, List.getElem_cons_succ]
  refine wpAnyH_ready (rs := [32]) (by kernel_rfl) (by simp) ?_
  refine AllReadyH.cons rfl (fun K hK => ?_) AllReadyH.nil
  go_simp
  with_reducible refine (HB.out _).mono ?_
  rintro e' X10 ⟨s3, rfl, hO, hb⟩
  obtain ⟨A5, k5, rfl⟩ := own_form hO
  clear hO
  have DX10 := Lib.hid (bstep DX9.out DX9.out.size hb)
  clear hb DX9
  refine hK.out _ _ ⟨⟨_, DX10.out⟩, rfl⟩ (fun hSS => ?_)
  clear hK K
  try simp only [Act.put, List.setIfInBounds_toArray, List.set_cons_zero, List.set_cons_succ, List.getElem_toArray, List.getElem_cons_zero, List.getElem_cons_succ]
  refine wpAnyH_take (i := 33) (v := (.int .i64 xs.length)) rfl (by kernel_rfl) (by kernel_rfl) (by kernel_rfl) (fun _ _ _ h => h) (Or.inl ⟨by rfl, fun w hw => by obtain ⟨x, rfl⟩ := hw; go_simp⟩) hSS ?_
  try simp only [Act.put, List.setIfInBounds_toArray, List.set_cons_zero, List.set_cons_succ, List.getElem_toArray, List.getElem_cons_zero, List.getElem_cons_succ]
  refine wpAnyH_take (i := 34) (v := (.bool true)) rfl (by kernel_rfl) (by kernel_rfl) (by kernel_rfl) (fun _ _ _ h => h) (Or.inl ⟨by rfl, fun w hw => by obtain ⟨x, rfl⟩ := hw; go_simp⟩) hSS ?_
  try simp only [Act.put, List.setIfInBounds_toArray, List.set_cons_zero, List.set_cons_succ, List.getElem_toArray, List.getElem_cons_zero, List.getElem_cons_succ]
  refine wpAnyH_take (i := 35) (v := (.bool true)) rfl (by kernel_rfl) (by kernel_rfl) (by kernel_rfl) (fun _ _ _ h => h) (Or.inl ⟨by rfl, fun w hw => by obtain ⟨x, rfl⟩ := hw; go_simp⟩) hSS ?_
  try simp only [Act.put, List.setIfInBounds_toArray, List.set_cons_zero, List.set_cons_succ, List.getElem_toArray, List.getElem_cons_zero, List.getElem_cons_succ]
  refine wpAnyH_take (i := 36) (v := (.bool true)) rfl (by kernel_rfl) (by kernel_rfl) (by kernel_rfl) (fun _ _ _ h => h) (Or.inl ⟨by rfl, fun w hw => by obtain ⟨x, rfl⟩ := hw; go_simp⟩) hSS ?_
  try simp only [Act.put, List.setIfInBounds_toArray, List.set_cons_zero, List.set_cons_succ, List.getElem_toArray, List.getElem_cons_zero, List.getElem_cons_succ]
  refine wpAnyH_done (by kernel_rfl) ?_ _
  go_wp2
  go_ret
  exact ⟨rfl, bstep B6.out B6.out.size DX10.out⟩
end Go.Proofs.Ytgcoggejgolhgaa
