/-
  CoverFan's walk.
-/
import Derived.Test.YtgcoggejgolhgaaFanP
namespace Go.Proofs.Ytgcoggejgolhgaa
open Go.RowKit
attribute [local go_sem ↓] Go.wp_at_zero Go.wp_at_succ

theorem new_three {w : World} (A B C : Obj) : (((w.alloc A).alloc B).alloc C).heap[w.heap.size]? = some A ∧ (((w.alloc A).alloc B).alloc C).heap[w.heap.size + 1]? = some B ∧ (((w.alloc A).alloc B).alloc C).heap[w.heap.size + 1 + 1]? = some C := by
  refine ⟨(Below.heap_alloc _ _ _ (by simp; omega)).trans (new_two _ _).1, (Below.heap_alloc _ _ _ (by simp)).trans (new_two _ _).2, new_at (by simp)⟩

set_option maxRecDepth 100000 in
set_option maxHeartbeats 2000000 in
theorem fan_walk (a b c : P) (i j k e f : Int) (hi : 0 ≤ i ∧ i ≤ 255) (hj : 0 ≤ j ∧ j ≤ 255) (hk : 0 ≤ k ∧ k ≤ 255) (w : World) :
    Calls Try.prog 6 #[.agg #[.int .i64 a.x, .int .i64 a.y, .int .i64 a.z, .int .i64 a.a, .int .i64 a.b, .int .i64 a.c, .int .i64 a.d, .int .i64 b.x, .int .i64 b.y, .int .i64 b.z, .int .i64 b.a, .int .i64 b.b, .int .i64 b.c, .int .i64 b.d, .int .i64 c.x, .int .i64 c.y, .int .i64 c.z, .int .i64 c.a, .int .i64 c.b, .int .i64 c.c, .int .i64 c.d], .agg #[.int .u8 i, .int .u8 j, .int .u8 k], .agg #[.int .i64 e, .int .i64 f]] w fun e w' => e = .returned (.bool true) ∧ Below w.heap.size w w' := by
  have HSh := Lib.hid shown_any
  have H3 := three_any a b c
  have HT := rturned_any (smallP a) (smallP b) (smallP c) (smallP_ok a).sm (smallP_ok b).sm (smallP_ok c).sm
  have hok := tr_ok (smallP_ok a) (smallP_ok b) (smallP_ok c)
  have har := Lib.hid (@tr_area (smallP a) (smallP b) (smallP c))
  generalize tr1 (smallP a) (smallP b) (smallP c) = u at *
  generalize tr2 (smallP a) (smallP b) (smallP c) = v at *
  generalize tr3 (smallP a) (smallP b) (smallP c) = z at *
  generalize trO (smallP a) (smallP b) (smallP c) = yes at *
  generalize smallP a = a' at *
  generalize smallP b = b' at *
  generalize smallP c = c' at *
  replace H3 := Lib.hid H3
  replace HT := Lib.hid HT
  obtain ⟨ou, ov, oz⟩ := hok
  have hx' := tmod_bd e 1025 (by decide)
  have hy' := tmod_bd f 1025 (by decide)
  obtain ⟨x, ex⟩ : ∃ x, e.tmod 1025 = x := ⟨_, rfl⟩
  obtain ⟨y, ey⟩ : ∃ y, f.tmod 1025 = y := ⟨_, rfl⟩
  rw [ex] at hx'
  rw [ey] at hy'
  have hx : -1024 ≤ x ∧ x ≤ 1024 := by omega
  have hy : -1024 ≤ y ∧ y ≤ 1024 := by omega
  clear hx' hy'
  have wi : IntKind.i64.wrap (1 + i) = 1 + i := by rw [IntKind.wrap_i64]; omega
  have wj : IntKind.i64.wrap (1 + j) = 1 + j := by rw [IntKind.wrap_i64]; omega
  have wk : IntKind.i64.wrap (1 + k) = 1 + k := by rw [IntKind.wrap_i64]; omega
  have wi0 : IntKind.i64.wrap i = i := by rw [IntKind.wrap_i64]; omega
  have wj0 : IntKind.i64.wrap j = j := by rw [IntKind.wrap_i64]; omega
  have wk0 : IntKind.i64.wrap k = k := by rw [IntKind.wrap_i64]; omega
  obtain ⟨A, hA⟩ : ∃ A, 1 + i = A := ⟨_, rfl⟩
  obtain ⟨B, hB⟩ : ∃ B, 1 + j = B := ⟨_, rfl⟩
  obtain ⟨C, hC⟩ : ∃ C, 1 + k = C := ⟨_, rfl⟩
  have bA : 1 ≤ A ∧ A ≤ 256 := by omega
  have bB : 1 ≤ B ∧ B ≤ 256 := by omega
  have bC : 1 ≤ C ∧ C ≤ 256 := by omega
  rw [hA] at wi
  rw [hB] at wj
  rw [hC] at wk
  replace hA := Lib.hid hA
  replace hB := Lib.hid hB
  replace hC := Lib.hid hC
  have wi' : IntKind.i64.wrap (1 + i) = A := by rw [hA.out]; exact wi
  have wj' : IntKind.i64.wrap (1 + j) = B := by rw [hB.out]; exact wj
  have wk' : IntKind.i64.wrap (1 + k) = C := by rw [hC.out]; exact wk
  have mx := mid_bd bA bB bC ou.x ov.x oz.x
  have my := mid_bd bA bB bC ou.y ov.y oz.y
  have s1 : IntKind.i64.wrap (A + B) = A + B := by rw [IntKind.wrap_i64]; omega
  have s2 : IntKind.i64.wrap (A + B + C) = A + B + C := by rw [IntKind.wrap_i64]; omega
  obtain ⟨S, hS⟩ : ∃ S, A + B + C = S := ⟨_, rfl⟩
  rw [hS] at mx my s2
  have sn : S ≠ 0 := by omega
  obtain ⟨x1, x2, x3, x4, x5, x6, x7⟩ := mx
  obtain ⟨y1, y2, y3, y4, y5, y6, y7⟩ := my
  have s3 : IntKind.i64.wrap (A + B + C) = S := by rw [hS]; exact s2
  replace hS := Lib.hid hS
  clear s2
  have e0 : IntKind.i64.wrap (A * u.x) = A * u.x := x1
  obtain ⟨p, hp⟩ : ∃ p : P, p = ⟨(A * u.x + B * v.x + C * z.x).tdiv S, (A * u.y + B * v.y + C * z.y).tdiv S, 0, 0, 0, 0, 0⟩ := ⟨_, rfl⟩
  have op : p.sm := by rw [hp]; exact ⟨by simp only; omega, by simp only; omega⟩
  have px : IntKind.i64.wrap ((A * u.x + B * v.x + C * z.x).tdiv S) = p.x := by rw [hp]; exact x7
  have py : IntKind.i64.wrap ((A * u.y + B * v.y + C * z.y).tdiv S) = p.y := by rw [hp]; exact y7
  have HP := Lib.hid (show (pB p) = .cells #[.int .i64 p.x, .int .i64 p.y, .int .i64 0, .int .i64 0, .int .i64 0, .int .i64 0, .int .i64 0] 24 (0, 0) by rw [hp]; rfl)
  clear hp x7 y7
  have A1 := Lib.hid (rarea_any u v p ou.sm ov.sm op)
  have M1 := Lib.hid (mask_any u v p x y ou.sm ov.sm op hx hy)
  have A2 := Lib.hid (rarea_any v z p ov.sm oz.sm op)
  have M2 := Lib.hid (mask_any v z p x y ov.sm oz.sm op hx hy)
  have A3 := Lib.hid (rarea_any z u p oz.sm ou.sm op)
  have M3 := Lib.hid (mask_any z u p x y oz.sm ou.sm op hx hy)
  have M4 := Lib.hid (mask_any u v z x y ou.sm ov.sm oz.sm hx hy)
  have f1 := fan1 u v p x y
  have f2 := fan2 u v z p x y
  have f3 := fan3 u v z p x y
  have f4 := Lib.hid (@fan4 u v z p x y)
  clear ou ov oz op hx hy hi hj hk bA bB bC x6 y6 e0 wi wj wk
  generalize area u v p = m1 at *
  generalize area v z p = m2 at *
  generalize area z u p = m3 at *
  generalize area u v z = m4 at *
  generalize mask u v p x y = k1 at *
  generalize mask v z p x y = k2 at *
  generalize mask z u p x y = k3 at *
  generalize mask u v z x y = k4 at *
  obtain ⟨f10, f11⟩ := f1
  obtain ⟨r2, hr2⟩ : ∃ r2, bits .or .u8 k1 k2 = r2 := ⟨_, rfl⟩
  rw [hr2] at f3 f4
  have F10 := Lib.hid f10
  have F11 := Lib.hid f11
  have F2 := Lib.hid f2
  have F3 := Lib.hid f3
  have R2 := Lib.hid hr2
  clear f10 f11 f2 f3 hr2
  have v1 : IntKind.i64.wrap 1 = 1 := by decide
  have v2 : IntKind.i64.wrap 2 = 2 := by decide
  have v3 : IntKind.i64.wrap 3 = 3 := by decide
  have t1 : (1 : Int).tmod 3 = 1 := by decide
  have t2 : (2 : Int).tmod 3 = 2 := by decide
  have t3 : (3 : Int).tmod 3 = 0 := by decide
  go_enter Try.func6, Try.ntmps6
  go_wp2_with fail
  obtain ⟨X0, hX0⟩ : ∃ X0, X0 = ((w.alloc (Obj.cells #[.int .i64 a.x, .int .i64 a.y, .int .i64 a.z, .int .i64 a.a, .int .i64 a.b, .int .i64 a.c, .int .i64 a.d, .int .i64 b.x, .int .i64 b.y, .int .i64 b.z, .int .i64 b.a, .int .i64 b.b, .int .i64 b.c, .int .i64 b.d, .int .i64 c.x, .int .i64 c.y, .int .i64 c.z, .int .i64 c.a, .int .i64 c.b, .int .i64 c.c, .int .i64 c.d] 25)).alloc (Obj.cells #[.int .u8 i, .int .u8 j, .int .u8 k] 45)).alloc (Obj.cells #[.int .i64 e, .int .i64 f] 40) := ⟨_, rfl⟩
  rw [← hX0]
  have B0 := Lib.hid (show Below w.heap.size w X0 by rw [hX0]; exact (((Below.refl _ _).alloc (Nat.le_refl _) _).alloc (by simp) _).alloc (by simp; omega) _)
  have L0 := Lib.hid (show X0.heap[w.heap.size]? = some (tB a b c) by rw [hX0]; exact (new_three _ _ _).1)
  have D0 := Lib.hid (show X0.heap[w.heap.size + 1]? = some (.cells #[.int .u8 i, .int .u8 j, .int .u8 k] 45) by rw [hX0]; exact (new_three _ _ _).2.1)
  have E0 := Lib.hid (show X0.heap[w.heap.size + 1 + 1]? = some (.cells #[.int .i64 e, .int .i64 f] 40) by rw [hX0]; exact (new_three _ _ _).2.2)
  have G0 := Lib.hid (show w.heap.size + 1 + 1 < X0.heap.size by rw [hX0]; simp)
  clear hX0
  with_reducible refine (HSh.out _).mono ?_
  rintro e' X1 ⟨rfl, hb⟩
  have B1 := Lib.hid (bstep B0.out B0.out.size hb)
  have L1 := Lib.hid (tB_grow L0.out hb)
  have D1 := Lib.hid ((hb.block _ (by have := G0.out; omega)).trans D0.out)
  have E1 := Lib.hid ((hb.block _ (by have := G0.out; omega)).trans E0.out)
  have G1 := Lib.hid (show w.heap.size + 1 + 1 < X1.heap.size by have := hb.size; have := G0.out; omega)
  clear hb B0 L0 D0 E0 G0
  go_wp2_with (refine wp_loadT (a := a) (b := b) (c := c) (.tmp 3) rfl rfl rfl L1.out ?_)
  with_reducible refine (H3.out _).mono ?_
  rintro e' X2 ⟨rfl, hb⟩
  have B2 := Lib.hid (bstep B1.out B1.out.size hb)
  have L2 := Lib.hid (tB_grow L1.out hb)
  have D2 := Lib.hid ((hb.block _ (by have := G1.out; omega)).trans D1.out)
  have E2 := Lib.hid ((hb.block _ (by have := G1.out; omega)).trans E1.out)
  have G2 := Lib.hid (show w.heap.size + 1 + 1 < X2.heap.size by have := hb.size; have := G1.out; omega)
  clear hb B1 L1 D1 E1 G1
  go_wp2_with fail
  with_reducible refine (HT.out _).mono ?_
  rintro e' X3 ⟨rfl, hb⟩
  have B3 := Lib.hid (bstep B2.out B2.out.size hb)
  have L3 := Lib.hid (tB_grow L2.out hb)
  have D3 := Lib.hid ((hb.block _ (by have := G2.out; omega)).trans D2.out)
  have E3 := Lib.hid ((hb.block _ (by have := G2.out; omega)).trans E2.out)
  have G3 := Lib.hid (show w.heap.size + 1 + 1 < X3.heap.size by have := hb.size; have := G2.out; omega)
  clear hb B2 L2 D2 E2 G2
  go_upto_region 3 with (refine wp_newT (a := u) (b := v) (c := z) (.tmp 25) rfl rfl rfl rfl rfl rfl rfl rfl ?_)
  obtain ⟨X4, hX4⟩ : ∃ X4, X4 = X3.alloc (Obj.cells #[.int .i64 u.x, .int .i64 u.y, .int .i64 u.z, .int .i64 u.a, .int .i64 u.b, .int .i64 u.c, .int .i64 u.d, .int .i64 v.x, .int .i64 v.y, .int .i64 v.z, .int .i64 v.a, .int .i64 v.b, .int .i64 v.c, .int .i64 v.d, .int .i64 z.x, .int .i64 z.y, .int .i64 z.z, .int .i64 z.a, .int .i64 z.b, .int .i64 z.c, .int .i64 z.d] 25) := ⟨_, rfl⟩
  rw [← hX4]
  have B4 := Lib.hid (show Below w.heap.size w X4 by rw [hX4]; exact B3.out.alloc B3.out.size _)
  have U4 := Lib.hid (show X4.heap[X3.heap.size]? = some (tB u v z) by rw [hX4]; exact new_at rfl)
  have D4 := Lib.hid (show X4.heap[w.heap.size + 1]? = some (.cells #[.int .u8 i, .int .u8 j, .int .u8 k] 45) by rw [hX4]; exact (Below.heap_alloc _ _ _ (by have := G3.out; omega)).trans D3.out)
  have E4 := Lib.hid (show X4.heap[w.heap.size + 1 + 1]? = some (.cells #[.int .i64 e, .int .i64 f] 40) by rw [hX4]; exact (Below.heap_alloc _ _ _ (by have := G3.out; omega)).trans E3.out)
  clear hX4
  obtain ⟨g, hg⟩ : ∃ g, X3.heap.size = g := ⟨_, rfl⟩
  rw [hg] at U4 ⊢
  have Gg := Lib.hid (show w.heap.size ≤ g by have := B3.out.size; omega)
  clear hg B3 D3 E3 L3 G3
  have d0 : X4.cell? ⟨w.heap.size + 1, 0, none⟩ = some (.int .u8 i) := by simp [World.cell?, D4.out]
  have d1 : X4.cell? ⟨w.heap.size + 1, 1, none⟩ = some (.int .u8 j) := by simp [World.cell?, D4.out]
  have d2 : X4.cell? ⟨w.heap.size + 1, 2, none⟩ = some (.int .u8 k) := by simp [World.cell?, D4.out]
  have c0 : X4.cell? ⟨w.heap.size + 1 + 1, 0, none⟩ = some (.int .i64 e) := by simp [World.cell?, E4.out]
  have c1 : X4.cell? ⟨w.heap.size + 1 + 1, 1, none⟩ = some (.int .i64 f) := by simp [World.cell?, E4.out]
  go_wp2_with fail
  have hSS : (∃ x : Grow X4, X4.drew = x.w) := ⟨⟨_, (Below.refl _ _).drew⟩, rfl⟩
  obtain ⟨⟨h0, h1, h2, h3, h4, h5, h6⟩, ⟨h7, h8, h9, h10, h11, h12, h13⟩, ⟨h14, h15, h16, h17, h18, h19, h20⟩⟩ := tB_cell U4.out
  have u0 : ∀ x : Grow X4, x.w.cell? ⟨g, 0, none⟩ = some (.int .i64 u.x) := fun x => x.cell h0
  have u1 : ∀ x : Grow X4, x.w.cell? ⟨g, 1, none⟩ = some (.int .i64 u.y) := fun x => x.cell h1
  have u7 : ∀ x : Grow X4, x.w.cell? ⟨g, 7, none⟩ = some (.int .i64 v.x) := fun x => x.cell h7
  have u8 : ∀ x : Grow X4, x.w.cell? ⟨g, 8, none⟩ = some (.int .i64 v.y) := fun x => x.cell h8
  have u14 : ∀ x : Grow X4, x.w.cell? ⟨g, 14, none⟩ = some (.int .i64 z.x) := fun x => x.cell h14
  have u15 : ∀ x : Grow X4, x.w.cell? ⟨g, 15, none⟩ = some (.int .i64 z.y) := fun x => x.cell h15
  clear h0 h1 h2 h3 h4 h5 h6 h7 h8 h9 h10 h11 h12 h13 h14 h15 h16 h17 h18 h19 h20 d0 d1 d2 c0 c1
  refine wp_region_held_drew (S := fun w' => ∃ x : Grow X4, w' = x.w) (by kernel_rfl) hSS (fun hSS => ?_)
  refine wpAnyH_take (i := 0) (v := (.int .i64 (A))) rfl (by kernel_rfl) (by kernel_rfl) (by kernel_rfl) (fun _ _ _ h => h) (Or.inl ⟨by rfl, fun w hw => by obtain ⟨x, rfl⟩ := hw; go_simp⟩) hSS ?_
  try simp only [Act.put, List.setIfInBounds_toArray, List.set_cons_zero, List.set_cons_succ, List.getElem_toArray, List.getElem_cons_zero]
  refine wpAnyH_take (i := 1) (v := (.pointer (some ⟨g, 0, none⟩))) rfl (by kernel_rfl) (by kernel_rfl) (by kernel_rfl) (fun _ _ _ h => h) (Or.inl ⟨by rfl, fun w hw => by obtain ⟨x, rfl⟩ := hw; go_simp⟩) hSS ?_
  try simp only [Act.put, List.setIfInBounds_toArray, List.set_cons_zero, List.set_cons_succ, List.getElem_toArray, List.getElem_cons_zero, List.getElem_cons_succ]
  refine wpAnyH_take (i := 2) (v := (.pointer (some ⟨g, 0, none⟩))) rfl (by kernel_rfl) (by kernel_rfl) (by kernel_rfl) (fun _ _ _ h => h) (Or.inl ⟨by rfl, fun w hw => by obtain ⟨x, rfl⟩ := hw; go_simp⟩) hSS ?_
  try simp only [Act.put, List.setIfInBounds_toArray, List.set_cons_zero, List.set_cons_succ, List.getElem_toArray, List.getElem_cons_zero, List.getElem_cons_succ]
  refine wpAnyH_take (i := 3) (v := (.int .i64 (u.x))) rfl (by kernel_rfl) (by kernel_rfl) (by kernel_rfl) (fun _ _ _ h => h) (Or.inl ⟨by rfl, fun w hw => by obtain ⟨x, rfl⟩ := hw; go_simp⟩) hSS ?_
  try simp only [Act.put, List.setIfInBounds_toArray, List.set_cons_zero, List.set_cons_succ, List.getElem_toArray, List.getElem_cons_zero, List.getElem_cons_succ]
  refine wpAnyH_take (i := 4) (v := (.int .i64 (A * u.x))) rfl (by kernel_rfl) (by kernel_rfl) (by kernel_rfl) (fun _ _ _ h => h) (Or.inl ⟨by rfl, fun w hw => by obtain ⟨x, rfl⟩ := hw; go_simp⟩) hSS ?_
  try simp only [Act.put, List.setIfInBounds_toArray, List.set_cons_zero, List.set_cons_succ, List.getElem_toArray, List.getElem_cons_zero, List.getElem_cons_succ]
  refine wpAnyH_take (i := 5) (v := (.int .i64 (B))) rfl (by kernel_rfl) (by kernel_rfl) (by kernel_rfl) (fun _ _ _ h => h) (Or.inl ⟨by rfl, fun w hw => by obtain ⟨x, rfl⟩ := hw; go_simp⟩) hSS ?_
  try simp only [Act.put, List.setIfInBounds_toArray, List.set_cons_zero, List.set_cons_succ, List.getElem_toArray, List.getElem_cons_zero, List.getElem_cons_succ]
  refine wpAnyH_take (i := 6) (v := (.pointer (some ⟨g, 7, none⟩))) rfl (by kernel_rfl) (by kernel_rfl) (by kernel_rfl) (fun _ _ _ h => h) (Or.inl ⟨by rfl, fun w hw => by obtain ⟨x, rfl⟩ := hw; go_simp⟩) hSS ?_
  try simp only [Act.put, List.setIfInBounds_toArray, List.set_cons_zero, List.set_cons_succ, List.getElem_toArray, List.getElem_cons_zero, List.getElem_cons_succ]
  refine wpAnyH_take (i := 7) (v := (.pointer (some ⟨g, 7, none⟩))) rfl (by kernel_rfl) (by kernel_rfl) (by kernel_rfl) (fun _ _ _ h => h) (Or.inl ⟨by rfl, fun w hw => by obtain ⟨x, rfl⟩ := hw; go_simp⟩) hSS ?_
  try simp only [Act.put, List.setIfInBounds_toArray, List.set_cons_zero, List.set_cons_succ, List.getElem_toArray, List.getElem_cons_zero, List.getElem_cons_succ]
  refine wpAnyH_take (i := 8) (v := (.int .i64 (v.x))) rfl (by kernel_rfl) (by kernel_rfl) (by kernel_rfl) (fun _ _ _ h => h) (Or.inl ⟨by rfl, fun w hw => by obtain ⟨x, rfl⟩ := hw; go_simp⟩) hSS ?_
  try simp only [Act.put, List.setIfInBounds_toArray, List.set_cons_zero, List.set_cons_succ, List.getElem_toArray, List.getElem_cons_zero, List.getElem_cons_succ]
  refine wpAnyH_take (i := 9) (v := (.int .i64 (B * v.x))) rfl (by kernel_rfl) (by kernel_rfl) (by kernel_rfl) (fun _ _ _ h => h) (Or.inl ⟨by rfl, fun w hw => by obtain ⟨x, rfl⟩ := hw; go_simp⟩) hSS ?_
  try simp only [Act.put, List.setIfInBounds_toArray, List.set_cons_zero, List.set_cons_succ, List.getElem_toArray, List.getElem_cons_zero, List.getElem_cons_succ]
  refine wpAnyH_take (i := 10) (v := (.int .i64 (A * u.x + B * v.x))) rfl (by kernel_rfl) (by kernel_rfl) (by kernel_rfl) (fun _ _ _ h => h) (Or.inl ⟨by rfl, fun w hw => by obtain ⟨x, rfl⟩ := hw; go_simp⟩) hSS ?_
  try simp only [Act.put, List.setIfInBounds_toArray, List.set_cons_zero, List.set_cons_succ, List.getElem_toArray, List.getElem_cons_zero, List.getElem_cons_succ]
  refine wpAnyH_take (i := 11) (v := (.int .i64 (C))) rfl (by kernel_rfl) (by kernel_rfl) (by kernel_rfl) (fun _ _ _ h => h) (Or.inl ⟨by rfl, fun w hw => by obtain ⟨x, rfl⟩ := hw; go_simp⟩) hSS ?_
  try simp only [Act.put, List.setIfInBounds_toArray, List.set_cons_zero, List.set_cons_succ, List.getElem_toArray, List.getElem_cons_zero, List.getElem_cons_succ]
  refine wpAnyH_take (i := 12) (v := (.pointer (some ⟨g, 14, none⟩))) rfl (by kernel_rfl) (by kernel_rfl) (by kernel_rfl) (fun _ _ _ h => h) (Or.inl ⟨by rfl, fun w hw => by obtain ⟨x, rfl⟩ := hw; go_simp⟩) hSS ?_
  try simp only [Act.put, List.setIfInBounds_toArray, List.set_cons_zero, List.set_cons_succ, List.getElem_toArray, List.getElem_cons_zero, List.getElem_cons_succ]
  refine wpAnyH_take (i := 13) (v := (.pointer (some ⟨g, 14, none⟩))) rfl (by kernel_rfl) (by kernel_rfl) (by kernel_rfl) (fun _ _ _ h => h) (Or.inl ⟨by rfl, fun w hw => by obtain ⟨x, rfl⟩ := hw; go_simp⟩) hSS ?_
  try simp only [Act.put, List.setIfInBounds_toArray, List.set_cons_zero, List.set_cons_succ, List.getElem_toArray, List.getElem_cons_zero, List.getElem_cons_succ]
  refine wpAnyH_take (i := 14) (v := (.int .i64 (z.x))) rfl (by kernel_rfl) (by kernel_rfl) (by kernel_rfl) (fun _ _ _ h => h) (Or.inl ⟨by rfl, fun w hw => by obtain ⟨x, rfl⟩ := hw; go_simp⟩) hSS ?_
  try simp only [Act.put, List.setIfInBounds_toArray, List.set_cons_zero, List.set_cons_succ, List.getElem_toArray, List.getElem_cons_zero, List.getElem_cons_succ]
  refine wpAnyH_take (i := 15) (v := (.int .i64 (C * z.x))) rfl (by kernel_rfl) (by kernel_rfl) (by kernel_rfl) (fun _ _ _ h => h) (Or.inl ⟨by rfl, fun w hw => by obtain ⟨x, rfl⟩ := hw; go_simp⟩) hSS ?_
  try simp only [Act.put, List.setIfInBounds_toArray, List.set_cons_zero, List.set_cons_succ, List.getElem_toArray, List.getElem_cons_zero, List.getElem_cons_succ]
  refine wpAnyH_take (i := 16) (v := (.int .i64 (A * u.x + B * v.x + C * z.x))) rfl (by kernel_rfl) (by kernel_rfl) (by kernel_rfl) (fun _ _ _ h => h) (Or.inl ⟨by rfl, fun w hw => by obtain ⟨x, rfl⟩ := hw; go_simp⟩) hSS ?_
  try simp only [Act.put, List.setIfInBounds_toArray, List.set_cons_zero, List.set_cons_succ, List.getElem_toArray, List.getElem_cons_zero, List.getElem_cons_succ]
  refine wpAnyH_take (i := 17) (v := (.int .i64 (A))) rfl (by kernel_rfl) (by kernel_rfl) (by kernel_rfl) (fun _ _ _ h => h) (Or.inl ⟨by rfl, fun w hw => by obtain ⟨x, rfl⟩ := hw; go_simp⟩) hSS ?_
  try simp only [Act.put, List.setIfInBounds_toArray, List.set_cons_zero, List.set_cons_succ, List.getElem_toArray, List.getElem_cons_zero, List.getElem_cons_succ]
  refine wpAnyH_take (i := 18) (v := (.int .i64 (B))) rfl (by kernel_rfl) (by kernel_rfl) (by kernel_rfl) (fun _ _ _ h => h) (Or.inl ⟨by rfl, fun w hw => by obtain ⟨x, rfl⟩ := hw; go_simp⟩) hSS ?_
  try simp only [Act.put, List.setIfInBounds_toArray, List.set_cons_zero, List.set_cons_succ, List.getElem_toArray, List.getElem_cons_zero, List.getElem_cons_succ]
  refine wpAnyH_take (i := 19) (v := (.int .i64 (A + B))) rfl (by kernel_rfl) (by kernel_rfl) (by kernel_rfl) (fun _ _ _ h => h) (Or.inl ⟨by rfl, fun w hw => by obtain ⟨x, rfl⟩ := hw; go_simp⟩) hSS ?_
  try simp only [Act.put, List.setIfInBounds_toArray, List.set_cons_zero, List.set_cons_succ, List.getElem_toArray, List.getElem_cons_zero, List.getElem_cons_succ]
  refine wpAnyH_take (i := 20) (v := (.int .i64 (C))) rfl (by kernel_rfl) (by kernel_rfl) (by kernel_rfl) (fun _ _ _ h => h) (Or.inl ⟨by rfl, fun w hw => by obtain ⟨x, rfl⟩ := hw; go_simp⟩) hSS ?_
  try simp only [Act.put, List.setIfInBounds_toArray, List.set_cons_zero, List.set_cons_succ, List.getElem_toArray, List.getElem_cons_zero, List.getElem_cons_succ]
  refine wpAnyH_take (i := 21) (v := (.int .i64 (S))) rfl (by kernel_rfl) (by kernel_rfl) (by kernel_rfl) (fun _ _ _ h => h) (Or.inl ⟨by rfl, fun w hw => by obtain ⟨x, rfl⟩ := hw; go_simp⟩) hSS ?_
  try simp only [Act.put, List.setIfInBounds_toArray, List.set_cons_zero, List.set_cons_succ, List.getElem_toArray, List.getElem_cons_zero, List.getElem_cons_succ]
  refine wpAnyH_take (i := 22) (v := (.int .i64 (p.x))) rfl (by kernel_rfl) (by kernel_rfl) (by kernel_rfl) (fun _ _ _ h => h) (Or.inl ⟨by rfl, fun w hw => by obtain ⟨x, rfl⟩ := hw; go_simp⟩) hSS ?_
  try simp only [Act.put, List.setIfInBounds_toArray, List.set_cons_zero, List.set_cons_succ, List.getElem_toArray, List.getElem_cons_zero, List.getElem_cons_succ]
  refine wpAnyH_take (i := 23) (v := (.int .i64 (A))) rfl (by kernel_rfl) (by kernel_rfl) (by kernel_rfl) (fun _ _ _ h => h) (Or.inl ⟨by rfl, fun w hw => by obtain ⟨x, rfl⟩ := hw; go_simp⟩) hSS ?_
  try simp only [Act.put, List.setIfInBounds_toArray, List.set_cons_zero, List.set_cons_succ, List.getElem_toArray, List.getElem_cons_zero, List.getElem_cons_succ]
  refine wpAnyH_take (i := 24) (v := (.pointer (some ⟨g, 0, none⟩))) rfl (by kernel_rfl) (by kernel_rfl) (by kernel_rfl) (fun _ _ _ h => h) (Or.inl ⟨by rfl, fun w hw => by obtain ⟨x, rfl⟩ := hw; go_simp⟩) hSS ?_
  try simp only [Act.put, List.setIfInBounds_toArray, List.set_cons_zero, List.set_cons_succ, List.getElem_toArray, List.getElem_cons_zero, List.getElem_cons_succ]
  refine wpAnyH_take (i := 25) (v := (.pointer (some ⟨g, 1, none⟩))) rfl (by kernel_rfl) (by kernel_rfl) (by kernel_rfl) (fun _ _ _ h => h) (Or.inl ⟨by rfl, fun w hw => by obtain ⟨x, rfl⟩ := hw; go_simp⟩) hSS ?_
  try simp only [Act.put, List.setIfInBounds_toArray, List.set_cons_zero, List.set_cons_succ, List.getElem_toArray, List.getElem_cons_zero, List.getElem_cons_succ]
  refine wpAnyH_take (i := 26) (v := (.int .i64 (u.y))) rfl (by kernel_rfl) (by kernel_rfl) (by kernel_rfl) (fun _ _ _ h => h) (Or.inl ⟨by rfl, fun w hw => by obtain ⟨x, rfl⟩ := hw; go_simp⟩) hSS ?_
  try simp only [Act.put, List.setIfInBounds_toArray, List.set_cons_zero, List.set_cons_succ, List.getElem_toArray, List.getElem_cons_zero, List.getElem_cons_succ]
  refine wpAnyH_take (i := 27) (v := (.int .i64 (A * u.y))) rfl (by kernel_rfl) (by kernel_rfl) (by kernel_rfl) (fun _ _ _ h => h) (Or.inl ⟨by rfl, fun w hw => by obtain ⟨x, rfl⟩ := hw; go_simp⟩) hSS ?_
  try simp only [Act.put, List.setIfInBounds_toArray, List.set_cons_zero, List.set_cons_succ, List.getElem_toArray, List.getElem_cons_zero, List.getElem_cons_succ]
  refine wpAnyH_take (i := 28) (v := (.int .i64 (B))) rfl (by kernel_rfl) (by kernel_rfl) (by kernel_rfl) (fun _ _ _ h => h) (Or.inl ⟨by rfl, fun w hw => by obtain ⟨x, rfl⟩ := hw; go_simp⟩) hSS ?_
  try simp only [Act.put, List.setIfInBounds_toArray, List.set_cons_zero, List.set_cons_succ, List.getElem_toArray, List.getElem_cons_zero, List.getElem_cons_succ]
  refine wpAnyH_take (i := 29) (v := (.pointer (some ⟨g, 7, none⟩))) rfl (by kernel_rfl) (by kernel_rfl) (by kernel_rfl) (fun _ _ _ h => h) (Or.inl ⟨by rfl, fun w hw => by obtain ⟨x, rfl⟩ := hw; go_simp⟩) hSS ?_
  try simp only [Act.put, List.setIfInBounds_toArray, List.set_cons_zero, List.set_cons_succ, List.getElem_toArray, List.getElem_cons_zero, List.getElem_cons_succ]
  refine wpAnyH_take (i := 30) (v := (.pointer (some ⟨g, 8, none⟩))) rfl (by kernel_rfl) (by kernel_rfl) (by kernel_rfl) (fun _ _ _ h => h) (Or.inl ⟨by rfl, fun w hw => by obtain ⟨x, rfl⟩ := hw; go_simp⟩) hSS ?_
  try simp only [Act.put, List.setIfInBounds_toArray, List.set_cons_zero, List.set_cons_succ, List.getElem_toArray, List.getElem_cons_zero, List.getElem_cons_succ]
  refine wpAnyH_take (i := 31) (v := (.int .i64 (v.y))) rfl (by kernel_rfl) (by kernel_rfl) (by kernel_rfl) (fun _ _ _ h => h) (Or.inl ⟨by rfl, fun w hw => by obtain ⟨x, rfl⟩ := hw; go_simp⟩) hSS ?_
  try simp only [Act.put, List.setIfInBounds_toArray, List.set_cons_zero, List.set_cons_succ, List.getElem_toArray, List.getElem_cons_zero, List.getElem_cons_succ]
  refine wpAnyH_take (i := 32) (v := (.int .i64 (B * v.y))) rfl (by kernel_rfl) (by kernel_rfl) (by kernel_rfl) (fun _ _ _ h => h) (Or.inl ⟨by rfl, fun w hw => by obtain ⟨x, rfl⟩ := hw; go_simp⟩) hSS ?_
  try simp only [Act.put, List.setIfInBounds_toArray, List.set_cons_zero, List.set_cons_succ, List.getElem_toArray, List.getElem_cons_zero, List.getElem_cons_succ]
  refine wpAnyH_take (i := 33) (v := (.int .i64 (A * u.y + B * v.y))) rfl (by kernel_rfl) (by kernel_rfl) (by kernel_rfl) (fun _ _ _ h => h) (Or.inl ⟨by rfl, fun w hw => by obtain ⟨x, rfl⟩ := hw; go_simp⟩) hSS ?_
  try simp only [Act.put, List.setIfInBounds_toArray, List.set_cons_zero, List.set_cons_succ, List.getElem_toArray, List.getElem_cons_zero, List.getElem_cons_succ]
  refine wpAnyH_take (i := 34) (v := (.int .i64 (C))) rfl (by kernel_rfl) (by kernel_rfl) (by kernel_rfl) (fun _ _ _ h => h) (Or.inl ⟨by rfl, fun w hw => by obtain ⟨x, rfl⟩ := hw; go_simp⟩) hSS ?_
  try simp only [Act.put, List.setIfInBounds_toArray, List.set_cons_zero, List.set_cons_succ, List.getElem_toArray, List.getElem_cons_zero, List.getElem_cons_succ]
  refine wpAnyH_take (i := 35) (v := (.pointer (some ⟨g, 14, none⟩))) rfl (by kernel_rfl) (by kernel_rfl) (by kernel_rfl) (fun _ _ _ h => h) (Or.inl ⟨by rfl, fun w hw => by obtain ⟨x, rfl⟩ := hw; go_simp⟩) hSS ?_
  try simp only [Act.put, List.setIfInBounds_toArray, List.set_cons_zero, List.set_cons_succ, List.getElem_toArray, List.getElem_cons_zero, List.getElem_cons_succ]
  refine wpAnyH_take (i := 36) (v := (.pointer (some ⟨g, 15, none⟩))) rfl (by kernel_rfl) (by kernel_rfl) (by kernel_rfl) (fun _ _ _ h => h) (Or.inl ⟨by rfl, fun w hw => by obtain ⟨x, rfl⟩ := hw; go_simp⟩) hSS ?_
  try simp only [Act.put, List.setIfInBounds_toArray, List.set_cons_zero, List.set_cons_succ, List.getElem_toArray, List.getElem_cons_zero, List.getElem_cons_succ]
  refine wpAnyH_take (i := 37) (v := (.int .i64 (z.y))) rfl (by kernel_rfl) (by kernel_rfl) (by kernel_rfl) (fun _ _ _ h => h) (Or.inl ⟨by rfl, fun w hw => by obtain ⟨x, rfl⟩ := hw; go_simp⟩) hSS ?_
  try simp only [Act.put, List.setIfInBounds_toArray, List.set_cons_zero, List.set_cons_succ, List.getElem_toArray, List.getElem_cons_zero, List.getElem_cons_succ]
  refine wpAnyH_take (i := 38) (v := (.int .i64 (C * z.y))) rfl (by kernel_rfl) (by kernel_rfl) (by kernel_rfl) (fun _ _ _ h => h) (Or.inl ⟨by rfl, fun w hw => by obtain ⟨x, rfl⟩ := hw; go_simp⟩) hSS ?_
  try simp only [Act.put, List.setIfInBounds_toArray, List.set_cons_zero, List.set_cons_succ, List.getElem_toArray, List.getElem_cons_zero, List.getElem_cons_succ]
  refine wpAnyH_take (i := 39) (v := (.int .i64 (A * u.y + B * v.y + C * z.y))) rfl (by kernel_rfl) (by kernel_rfl) (by kernel_rfl) (fun _ _ _ h => h) (Or.inl ⟨by rfl, fun w hw => by obtain ⟨x, rfl⟩ := hw; go_simp⟩) hSS ?_
  try simp only [Act.put, List.setIfInBounds_toArray, List.set_cons_zero, List.set_cons_succ, List.getElem_toArray, List.getElem_cons_zero, List.getElem_cons_succ]
  refine wpAnyH_take (i := 40) (v := (.int .i64 (A))) rfl (by kernel_rfl) (by kernel_rfl) (by kernel_rfl) (fun _ _ _ h => h) (Or.inl ⟨by rfl, fun w hw => by obtain ⟨x, rfl⟩ := hw; go_simp⟩) hSS ?_
  try simp only [Act.put, List.setIfInBounds_toArray, List.set_cons_zero, List.set_cons_succ, List.getElem_toArray, List.getElem_cons_zero, List.getElem_cons_succ]
  refine wpAnyH_take (i := 41) (v := (.int .i64 (B))) rfl (by kernel_rfl) (by kernel_rfl) (by kernel_rfl) (fun _ _ _ h => h) (Or.inl ⟨by rfl, fun w hw => by obtain ⟨x, rfl⟩ := hw; go_simp⟩) hSS ?_
  try simp only [Act.put, List.setIfInBounds_toArray, List.set_cons_zero, List.set_cons_succ, List.getElem_toArray, List.getElem_cons_zero, List.getElem_cons_succ]
  refine wpAnyH_take (i := 42) (v := (.int .i64 (A + B))) rfl (by kernel_rfl) (by kernel_rfl) (by kernel_rfl) (fun _ _ _ h => h) (Or.inl ⟨by rfl, fun w hw => by obtain ⟨x, rfl⟩ := hw; go_simp⟩) hSS ?_
  try simp only [Act.put, List.setIfInBounds_toArray, List.set_cons_zero, List.set_cons_succ, List.getElem_toArray, List.getElem_cons_zero, List.getElem_cons_succ]
  refine wpAnyH_take (i := 43) (v := (.int .i64 (C))) rfl (by kernel_rfl) (by kernel_rfl) (by kernel_rfl) (fun _ _ _ h => h) (Or.inl ⟨by rfl, fun w hw => by obtain ⟨x, rfl⟩ := hw; go_simp⟩) hSS ?_
  try simp only [Act.put, List.setIfInBounds_toArray, List.set_cons_zero, List.set_cons_succ, List.getElem_toArray, List.getElem_cons_zero, List.getElem_cons_succ]
  refine wpAnyH_take (i := 44) (v := (.int .i64 (S))) rfl (by kernel_rfl) (by kernel_rfl) (by kernel_rfl) (fun _ _ _ h => h) (Or.inl ⟨by rfl, fun w hw => by obtain ⟨x, rfl⟩ := hw; go_simp⟩) hSS ?_
  try simp only [Act.put, List.setIfInBounds_toArray, List.set_cons_zero, List.set_cons_succ, List.getElem_toArray, List.getElem_cons_zero, List.getElem_cons_succ]
  refine wpAnyH_take (i := 45) (v := (.int .i64 (p.y))) rfl (by kernel_rfl) (by kernel_rfl) (by kernel_rfl) (fun _ _ _ h => h) (Or.inl ⟨by rfl, fun w hw => by obtain ⟨x, rfl⟩ := hw; go_simp⟩) hSS ?_
  try simp only [Act.put, List.setIfInBounds_toArray, List.set_cons_zero, List.set_cons_succ, List.getElem_toArray, List.getElem_cons_zero, List.getElem_cons_succ]
  refine wpAnyH_take (i := 46) (v := (.agg #[.int .i64 p.x, .int .i64 p.y, .int .i64 0, .int .i64 0, .int .i64 0, .int .i64 0, .int .i64 0])) rfl (by kernel_rfl) (by kernel_rfl) (by kernel_rfl) (fun _ _ _ h => h) (Or.inl ⟨by rfl, fun w hw => by obtain ⟨x, rfl⟩ := hw; go_simp⟩) hSS ?_
  try simp only [Act.put, List.setIfInBounds_toArray, List.set_cons_zero, List.set_cons_succ, List.getElem_toArray, List.getElem_cons_zero, List.getElem_cons_succ]
  refine wpAnyH_ready (rs := [47]) (by kernel_rfl) (by simp) ?_
  refine AllReadyH.cons rfl (fun K hK => ?_) AllReadyH.nil
  go_simp
  refine hK.out _ _ ⟨⟨_, ((Below.refl X4.heap.size X4).alloc (Nat.le_refl _) (Obj.cells #[.int .i64 0, .int .i64 0, .int .i64 0, .int .i64 0, .int .i64 0, .int .i64 0, .int .i64 0] 24)).drew⟩, rfl⟩ (fun hSS => ?_)
  clear hK K
  try simp only [Act.put, List.setIfInBounds_toArray, List.set_cons_zero, List.set_cons_succ, List.getElem_toArray, List.getElem_cons_zero, List.getElem_cons_succ]
  refine wpAnyH_ready (rs := [48]) (by kernel_rfl) (by simp) ?_
  refine AllReadyH.cons rfl (fun K hK => ?_) AllReadyH.nil
  go_simp
  refine hK.out _ _ ⟨⟨_, ((Below.refl X4.heap.size X4).alloc (Nat.le_refl _) (Obj.cells #[.int .i64 p.x, .int .i64 p.y, .int .i64 0, .int .i64 0, .int .i64 0, .int .i64 0, .int .i64 0] 24)).drew⟩, rfl⟩ (fun hSS => ?_)
  clear hK K hSS
  try simp only [Act.put, List.setIfInBounds_toArray, List.set_cons_zero, List.set_cons_succ, List.getElem_toArray, List.getElem_cons_zero, List.getElem_cons_succ]
  refine wpAnyH_done (by kernel_rfl) ?_ _
  obtain ⟨X5, hX5⟩ : ∃ X5, X5 = (X4.alloc (Obj.cells #[.int .i64 p.x, .int .i64 p.y, .int .i64 0, .int .i64 0, .int .i64 0, .int .i64 0, .int .i64 0] 24)).drew := ⟨_, rfl⟩
  rw [← hX5]
  have B5 := Lib.hid (show Below w.heap.size w X5 by rw [hX5]; exact (B4.out.alloc B4.out.size _).drew)
  have U5 := Lib.hid (show X5.heap[g]? = some (tB u v z) by rw [hX5]; exact tB_alloc _ U4.out)
  have P5 := Lib.hid (show X5.heap[X4.heap.size]? = some (pB p) by rw [hX5, HP.out]; exact new_at (w := X4) rfl)
  obtain ⟨h, hh⟩ : ∃ h, X4.heap.size = h := ⟨_, rfl⟩
  clear hX5
  rw [hh] at P5 ⊢
  clear hh u0 u1 u7 u8 u14 u15 HP B4 U4 D4 E4 x1 x2 x3 x4 x5 y1 y2 y3 y4 y5 px py s1 s3
  cases yes with
  | false =>
    go_wp2
    go_ret
    exact ⟨rfl, B5.out⟩
  | true =>
  replace har := har.out rfl
  go_wp2
  refine wp_loop_rounds 4 ?_
  rw [rounds_succ]
  go_wp2_with fail
  have hSS : (∃ x : Grow X5, X5.drew = x.w) := ⟨⟨_, (Below.refl _ _).drew⟩, rfl⟩
  obtain ⟨⟨h0, h1, h2, h3, h4, h5, h6⟩, ⟨h7, h8, h9, h10, h11, h12, h13⟩, ⟨h14, h15, h16, h17, h18, h19, h20⟩⟩ := tB_cell U5.out
  obtain ⟨q0, q1, q2, q3, q4, q5, q6⟩ := pB_cell P5.out
  have w00 : ∀ x : Grow X5, x.w.cell? ⟨g, 0, none⟩ = some (.int .i64 u.x) := fun x => x.cell h0
  have w01 : ∀ x : Grow X5, x.w.cell? ⟨g, 1, none⟩ = some (.int .i64 u.y) := fun x => x.cell h1
  have w02 : ∀ x : Grow X5, x.w.cell? ⟨g, 2, none⟩ = some (.int .i64 u.z) := fun x => x.cell h2
  have w03 : ∀ x : Grow X5, x.w.cell? ⟨g, 3, none⟩ = some (.int .i64 u.a) := fun x => x.cell h3
  have w04 : ∀ x : Grow X5, x.w.cell? ⟨g, 4, none⟩ = some (.int .i64 u.b) := fun x => x.cell h4
  have w05 : ∀ x : Grow X5, x.w.cell? ⟨g, 5, none⟩ = some (.int .i64 u.c) := fun x => x.cell h5
  have w06 : ∀ x : Grow X5, x.w.cell? ⟨g, 6, none⟩ = some (.int .i64 u.d) := fun x => x.cell h6
  have w10 : ∀ x : Grow X5, x.w.cell? ⟨g, 7, none⟩ = some (.int .i64 v.x) := fun x => x.cell h7
  have w11 : ∀ x : Grow X5, x.w.cell? ⟨g, 8, none⟩ = some (.int .i64 v.y) := fun x => x.cell h8
  have w12 : ∀ x : Grow X5, x.w.cell? ⟨g, 9, none⟩ = some (.int .i64 v.z) := fun x => x.cell h9
  have w13 : ∀ x : Grow X5, x.w.cell? ⟨g, 10, none⟩ = some (.int .i64 v.a) := fun x => x.cell h10
  have w14 : ∀ x : Grow X5, x.w.cell? ⟨g, 11, none⟩ = some (.int .i64 v.b) := fun x => x.cell h11
  have w15 : ∀ x : Grow X5, x.w.cell? ⟨g, 12, none⟩ = some (.int .i64 v.c) := fun x => x.cell h12
  have w16 : ∀ x : Grow X5, x.w.cell? ⟨g, 13, none⟩ = some (.int .i64 v.d) := fun x => x.cell h13
  have w20 : ∀ x : Grow X5, x.w.cell? ⟨h, 0, none⟩ = some (.int .i64 p.x) := fun x => x.cell q0
  have w21 : ∀ x : Grow X5, x.w.cell? ⟨h, 1, none⟩ = some (.int .i64 p.y) := fun x => x.cell q1
  have w22 : ∀ x : Grow X5, x.w.cell? ⟨h, 2, none⟩ = some (.int .i64 p.z) := fun x => x.cell q2
  have w23 : ∀ x : Grow X5, x.w.cell? ⟨h, 3, none⟩ = some (.int .i64 p.a) := fun x => x.cell q3
  have w24 : ∀ x : Grow X5, x.w.cell? ⟨h, 4, none⟩ = some (.int .i64 p.b) := fun x => x.cell q4
  have w25 : ∀ x : Grow X5, x.w.cell? ⟨h, 5, none⟩ = some (.int .i64 p.c) := fun x => x.cell q5
  have w26 : ∀ x : Grow X5, x.w.cell? ⟨h, 6, none⟩ = some (.int .i64 p.d) := fun x => x.cell q6
  clear h0 h1 h2 h3 h4 h5 h6 h7 h8 h9 h10 h11 h12 h13 h14 h15 h16 h17 h18 h19 h20 q0 q1 q2 q3 q4 q5 q6
  refine wp_region_held_drew (S := fun w' => ∃ x : Grow X5, w' = x.w) (by kernel_rfl) hSS (fun hSS => ?_)
  refine wpAnyH_take (i := 0) (v := (.int .i64 0)) rfl (by kernel_rfl) (by kernel_rfl) (by kernel_rfl) (fun _ _ _ h => h) (Or.inl ⟨by rfl, fun w hw => by obtain ⟨x, rfl⟩ := hw; go_simp⟩) hSS ?_
  try simp only [Act.put, List.setIfInBounds_toArray, List.set_cons_zero, List.set_cons_succ, List.getElem_toArray, List.getElem_cons_zero]
  refine wpAnyH_take (i := 1) (v := (.pointer (some ⟨g, 0, none⟩))) rfl (by kernel_rfl) (by kernel_rfl) (by kernel_rfl) (fun _ _ _ h => h) (Or.inl ⟨by rfl, fun w hw => by obtain ⟨x, rfl⟩ := hw; go_simp⟩) hSS ?_
  try simp only [Act.put, List.setIfInBounds_toArray, List.set_cons_zero, List.set_cons_succ, List.getElem_toArray, List.getElem_cons_zero, List.getElem_cons_succ]
  refine wpAnyH_take (i := 2) (v := (.agg #[.int .i64 u.x, .int .i64 u.y, .int .i64 u.z, .int .i64 u.a, .int .i64 u.b, .int .i64 u.c, .int .i64 u.d])) rfl (by kernel_rfl) (by kernel_rfl) (by kernel_rfl) (fun _ _ _ h => h) (Or.inl ⟨by rfl, fun w hw => by obtain ⟨x, rfl⟩ := hw; go_simp⟩) hSS ?_
  try simp only [Act.put, List.setIfInBounds_toArray, List.set_cons_zero, List.set_cons_succ, List.getElem_toArray, List.getElem_cons_zero, List.getElem_cons_succ]
  refine wpAnyH_take (i := 3) (v := (.int .i64 0)) rfl (by kernel_rfl) (by kernel_rfl) (by kernel_rfl) (fun _ _ _ h => h) (Or.inl ⟨by rfl, fun w hw => by obtain ⟨x, rfl⟩ := hw; go_simp⟩) hSS ?_
  try simp only [Act.put, List.setIfInBounds_toArray, List.set_cons_zero, List.set_cons_succ, List.getElem_toArray, List.getElem_cons_zero, List.getElem_cons_succ]
  refine wpAnyH_take (i := 4) (v := (.int .i64 1)) rfl (by kernel_rfl) (by kernel_rfl) (by kernel_rfl) (fun _ _ _ h => h) (Or.inl ⟨by rfl, fun w hw => by obtain ⟨x, rfl⟩ := hw; go_simp⟩) hSS ?_
  try simp only [Act.put, List.setIfInBounds_toArray, List.set_cons_zero, List.set_cons_succ, List.getElem_toArray, List.getElem_cons_zero, List.getElem_cons_succ]
  refine wpAnyH_take (i := 5) (v := (.int .i64 1)) rfl (by kernel_rfl) (by kernel_rfl) (by kernel_rfl) (fun _ _ _ h => h) (Or.inl ⟨by rfl, fun w hw => by obtain ⟨x, rfl⟩ := hw; go_simp⟩) hSS ?_
  try simp only [Act.put, List.setIfInBounds_toArray, List.set_cons_zero, List.set_cons_succ, List.getElem_toArray, List.getElem_cons_zero, List.getElem_cons_succ]
  refine wpAnyH_take (i := 6) (v := (.pointer (some ⟨g, 7, none⟩))) rfl (by kernel_rfl) (by kernel_rfl) (by kernel_rfl) (fun _ _ _ h => h) (Or.inl ⟨by rfl, fun w hw => by obtain ⟨x, rfl⟩ := hw; go_simp⟩) hSS ?_
  try simp only [Act.put, List.setIfInBounds_toArray, List.set_cons_zero, List.set_cons_succ, List.getElem_toArray, List.getElem_cons_zero, List.getElem_cons_succ]
  refine wpAnyH_take (i := 7) (v := (.agg #[.int .i64 v.x, .int .i64 v.y, .int .i64 v.z, .int .i64 v.a, .int .i64 v.b, .int .i64 v.c, .int .i64 v.d])) rfl (by kernel_rfl) (by kernel_rfl) (by kernel_rfl) (fun _ _ _ h => h) (Or.inl ⟨by rfl, fun w hw => by obtain ⟨x, rfl⟩ := hw; go_simp⟩) hSS ?_
  try simp only [Act.put, List.setIfInBounds_toArray, List.set_cons_zero, List.set_cons_succ, List.getElem_toArray, List.getElem_cons_zero, List.getElem_cons_succ]
  refine wpAnyH_take (i := 8) (v := (.agg #[.int .i64 p.x, .int .i64 p.y, .int .i64 p.z, .int .i64 p.a, .int .i64 p.b, .int .i64 p.c, .int .i64 p.d])) rfl (by kernel_rfl) (by kernel_rfl) (by kernel_rfl) (fun _ _ _ h => h) (Or.inl ⟨by rfl, fun w hw => by obtain ⟨x, rfl⟩ := hw; go_simp⟩) hSS ?_
  try simp only [Act.put, List.setIfInBounds_toArray, List.set_cons_zero, List.set_cons_succ, List.getElem_toArray, List.getElem_cons_zero, List.getElem_cons_succ]
  refine wpAnyH_take (i := 9) (v := (.agg #[.int .i64 u.x, .int .i64 u.y, .int .i64 u.z, .int .i64 u.a, .int .i64 u.b, .int .i64 u.c, .int .i64 u.d, .int .i64 v.x, .int .i64 v.y, .int .i64 v.z, .int .i64 v.a, .int .i64 v.b, .int .i64 v.c, .int .i64 v.d, .int .i64 p.x, .int .i64 p.y, .int .i64 p.z, .int .i64 p.a, .int .i64 p.b, .int .i64 p.c, .int .i64 p.d])) rfl (by kernel_rfl) (by kernel_rfl) (by kernel_rfl) (fun _ _ _ h => h) (Or.inl ⟨by rfl, fun w hw => by obtain ⟨x, rfl⟩ := hw; go_simp⟩) hSS ?_
  try simp only [Act.put, List.setIfInBounds_toArray, List.set_cons_zero, List.set_cons_succ, List.getElem_toArray, List.getElem_cons_zero, List.getElem_cons_succ]
  clear w00 w01 w02 w03 w04 w05 w06 w10 w11 w12 w13 w14 w15 w16 w20 w21 w22 w23 w24 w25 w26
  refine wpAnyH_ready (rs := [10]) (by kernel_rfl) (by simp) ?_
  refine AllReadyH.cons rfl (fun K hK => ?_) AllReadyH.nil
  go_simp
  have Bn := Lib.hid (show Below X5.heap.size X5 (X5.alloc (Obj.cells #[.int .i64 0, .int .i64 0, .int .i64 0, .int .i64 0, .int .i64 0, .int .i64 0, .int .i64 0, .int .i64 0, .int .i64 0, .int .i64 0, .int .i64 0, .int .i64 0, .int .i64 0, .int .i64 0, .int .i64 0, .int .i64 0, .int .i64 0, .int .i64 0, .int .i64 0, .int .i64 0, .int .i64 0] 25)).drew from ((Below.refl _ _).alloc (Nat.le_refl _) _).drew)
  have Nn := Lib.hid (show (X5.alloc (Obj.cells #[.int .i64 0, .int .i64 0, .int .i64 0, .int .i64 0, .int .i64 0, .int .i64 0, .int .i64 0, .int .i64 0, .int .i64 0, .int .i64 0, .int .i64 0, .int .i64 0, .int .i64 0, .int .i64 0, .int .i64 0, .int .i64 0, .int .i64 0, .int .i64 0, .int .i64 0, .int .i64 0, .int .i64 0] 25)).drew.heap[X5.heap.size]? = some (.cells #[.int .i64 0, .int .i64 0, .int .i64 0, .int .i64 0, .int .i64 0, .int .i64 0, .int .i64 0, .int .i64 0, .int .i64 0, .int .i64 0, .int .i64 0, .int .i64 0, .int .i64 0, .int .i64 0, .int .i64 0, .int .i64 0, .int .i64 0, .int .i64 0, .int .i64 0, .int .i64 0, .int .i64 0] 25 (0, 0)) from new_at (w := X5) rfl)
  refine hK.out _ _ ⟨⟨_, Bn.out⟩, rfl⟩ (fun hSS => ?_)
  clear hK K
  try simp only [Act.put, List.setIfInBounds_toArray, List.set_cons_zero, List.set_cons_succ, List.getElem_toArray, List.getElem_cons_zero, List.getElem_cons_succ]
  refine wpAnyH_ready (rs := [11]) (by kernel_rfl) (by simp) ?_
  refine AllReadyH.cons rfl (fun K hK => ?_) AllReadyH.nil
  refine opw_storeT (a := u) (b := v) (c := p) _ _ rfl rfl rfl rfl Nn.out rfl (fun Y5 Pn => ?_)
  have By := Lib.hid (Pn.out.below _ _ Bn.out (Nat.le_refl _))
  refine hK.out _ _ ⟨⟨_, By.out⟩, rfl⟩ (fun hSS => ?_)
  clear hK K hSS
  try simp only [Act.put, List.setIfInBounds_toArray, List.set_cons_zero, List.set_cons_succ, List.getElem_toArray, List.getElem_cons_zero, List.getElem_cons_succ]
  refine wpAnyH_done (by kernel_rfl) ?_ _
  have BY := Lib.hid (bstep B5.out B5.out.size By.out)
  have UY := Lib.hid (tB_grow U5.out By.out)
  have PY := Lib.hid (pB_grow P5.out By.out)
  have TY := Lib.hid (show Y5.heap[X5.heap.size]? = some (tB u v p) from Pn.out.same)
  obtain ⟨j5, hj⟩ : ∃ j, X5.heap.size = j := ⟨_, rfl⟩
  rw [hj] at TY ⊢
  clear hj By Pn Bn Nn B5 U5 P5
  go_wp2_with (refine wp_loadT (a := u) (b := v) (c := p) (.tmp 18) rfl rfl rfl TY.out ?_)
  with_reducible refine (A1.out _).mono ?_
  rintro e' Z5 ⟨rfl, hb⟩
  have BZ := Lib.hid (bstep BY.out BY.out.size hb)
  have UZ := Lib.hid (tB_grow UY.out hb)
  have PZ := Lib.hid (pB_grow PY.out hb)
  have TZ := Lib.hid (tB_grow TY.out hb)
  clear hb BY UY PY TY
  rcases (show m1 < 0 ∨ ¬ m1 < 0 by omega) with h1 | h1
  · go_wp2
    go_ret
    exact ⟨rfl, BZ.out⟩
  go_wp2_with (refine wp_loadT (a := u) (b := v) (c := p) (.tmp 18) rfl rfl rfl TZ.out ?_)
  with_reducible refine (M1.out _).mono ?_
  rintro e' X6 ⟨rfl, hb⟩
  have B6 := Lib.hid (bstep BZ.out BZ.out.size hb)
  have U6 := Lib.hid (tB_grow UZ.out hb)
  have P6 := Lib.hid (pB_grow PZ.out hb)
  clear hb BZ UZ PZ TZ
  have HH1 := Lib.hid h1
  clear h1
  have fa := F10.out
  have fo := F11.out
  go_wp2
  clear fa fo
  rw [rounds_succ]
  go_wp2_with fail
  have hSS : (∃ x : Grow X6, X6.drew = x.w) := ⟨⟨_, (Below.refl _ _).drew⟩, rfl⟩
  obtain ⟨⟨h0, h1, h2, h3, h4, h5, h6⟩, ⟨h7, h8, h9, h10, h11, h12, h13⟩, ⟨h14, h15, h16, h17, h18, h19, h20⟩⟩ := tB_cell U6.out
  obtain ⟨q0, q1, q2, q3, q4, q5, q6⟩ := pB_cell P6.out
  have w00 : ∀ x : Grow X6, x.w.cell? ⟨g, 7, none⟩ = some (.int .i64 v.x) := fun x => x.cell h7
  have w01 : ∀ x : Grow X6, x.w.cell? ⟨g, 8, none⟩ = some (.int .i64 v.y) := fun x => x.cell h8
  have w02 : ∀ x : Grow X6, x.w.cell? ⟨g, 9, none⟩ = some (.int .i64 v.z) := fun x => x.cell h9
  have w03 : ∀ x : Grow X6, x.w.cell? ⟨g, 10, none⟩ = some (.int .i64 v.a) := fun x => x.cell h10
  have w04 : ∀ x : Grow X6, x.w.cell? ⟨g, 11, none⟩ = some (.int .i64 v.b) := fun x => x.cell h11
  have w05 : ∀ x : Grow X6, x.w.cell? ⟨g, 12, none⟩ = some (.int .i64 v.c) := fun x => x.cell h12
  have w06 : ∀ x : Grow X6, x.w.cell? ⟨g, 13, none⟩ = some (.int .i64 v.d) := fun x => x.cell h13
  have w10 : ∀ x : Grow X6, x.w.cell? ⟨g, 14, none⟩ = some (.int .i64 z.x) := fun x => x.cell h14
  have w11 : ∀ x : Grow X6, x.w.cell? ⟨g, 15, none⟩ = some (.int .i64 z.y) := fun x => x.cell h15
  have w12 : ∀ x : Grow X6, x.w.cell? ⟨g, 16, none⟩ = some (.int .i64 z.z) := fun x => x.cell h16
  have w13 : ∀ x : Grow X6, x.w.cell? ⟨g, 17, none⟩ = some (.int .i64 z.a) := fun x => x.cell h17
  have w14 : ∀ x : Grow X6, x.w.cell? ⟨g, 18, none⟩ = some (.int .i64 z.b) := fun x => x.cell h18
  have w15 : ∀ x : Grow X6, x.w.cell? ⟨g, 19, none⟩ = some (.int .i64 z.c) := fun x => x.cell h19
  have w16 : ∀ x : Grow X6, x.w.cell? ⟨g, 20, none⟩ = some (.int .i64 z.d) := fun x => x.cell h20
  have w20 : ∀ x : Grow X6, x.w.cell? ⟨h, 0, none⟩ = some (.int .i64 p.x) := fun x => x.cell q0
  have w21 : ∀ x : Grow X6, x.w.cell? ⟨h, 1, none⟩ = some (.int .i64 p.y) := fun x => x.cell q1
  have w22 : ∀ x : Grow X6, x.w.cell? ⟨h, 2, none⟩ = some (.int .i64 p.z) := fun x => x.cell q2
  have w23 : ∀ x : Grow X6, x.w.cell? ⟨h, 3, none⟩ = some (.int .i64 p.a) := fun x => x.cell q3
  have w24 : ∀ x : Grow X6, x.w.cell? ⟨h, 4, none⟩ = some (.int .i64 p.b) := fun x => x.cell q4
  have w25 : ∀ x : Grow X6, x.w.cell? ⟨h, 5, none⟩ = some (.int .i64 p.c) := fun x => x.cell q5
  have w26 : ∀ x : Grow X6, x.w.cell? ⟨h, 6, none⟩ = some (.int .i64 p.d) := fun x => x.cell q6
  clear h0 h1 h2 h3 h4 h5 h6 h7 h8 h9 h10 h11 h12 h13 h14 h15 h16 h17 h18 h19 h20 q0 q1 q2 q3 q4 q5 q6
  refine wp_region_held_drew (S := fun w' => ∃ x : Grow X6, w' = x.w) (by kernel_rfl) hSS (fun hSS => ?_)
  refine wpAnyH_take (i := 0) (v := (.int .i64 1)) rfl (by kernel_rfl) (by kernel_rfl) (by kernel_rfl) (fun _ _ _ h => h) (Or.inl ⟨by rfl, fun w hw => by obtain ⟨x, rfl⟩ := hw; go_simp⟩) hSS ?_
  try simp only [Act.put, List.setIfInBounds_toArray, List.set_cons_zero, List.set_cons_succ, List.getElem_toArray, List.getElem_cons_zero]
  refine wpAnyH_take (i := 1) (v := (.pointer (some ⟨g, 7, none⟩))) rfl (by kernel_rfl) (by kernel_rfl) (by kernel_rfl) (fun _ _ _ h => h) (Or.inl ⟨by rfl, fun w hw => by obtain ⟨x, rfl⟩ := hw; go_simp⟩) hSS ?_
  try simp only [Act.put, List.setIfInBounds_toArray, List.set_cons_zero, List.set_cons_succ, List.getElem_toArray, List.getElem_cons_zero, List.getElem_cons_succ]
  refine wpAnyH_take (i := 2) (v := (.agg #[.int .i64 v.x, .int .i64 v.y, .int .i64 v.z, .int .i64 v.a, .int .i64 v.b, .int .i64 v.c, .int .i64 v.d])) rfl (by kernel_rfl) (by kernel_rfl) (by kernel_rfl) (fun _ _ _ h => h) (Or.inl ⟨by rfl, fun w hw => by obtain ⟨x, rfl⟩ := hw; go_simp⟩) hSS ?_
  try simp only [Act.put, List.setIfInBounds_toArray, List.set_cons_zero, List.set_cons_succ, List.getElem_toArray, List.getElem_cons_zero, List.getElem_cons_succ]
  refine wpAnyH_take (i := 3) (v := (.int .i64 1)) rfl (by kernel_rfl) (by kernel_rfl) (by kernel_rfl) (fun _ _ _ h => h) (Or.inl ⟨by rfl, fun w hw => by obtain ⟨x, rfl⟩ := hw; go_simp⟩) hSS ?_
  try simp only [Act.put, List.setIfInBounds_toArray, List.set_cons_zero, List.set_cons_succ, List.getElem_toArray, List.getElem_cons_zero, List.getElem_cons_succ]
  refine wpAnyH_take (i := 4) (v := (.int .i64 2)) rfl (by kernel_rfl) (by kernel_rfl) (by kernel_rfl) (fun _ _ _ h => h) (Or.inl ⟨by rfl, fun w hw => by obtain ⟨x, rfl⟩ := hw; go_simp⟩) hSS ?_
  try simp only [Act.put, List.setIfInBounds_toArray, List.set_cons_zero, List.set_cons_succ, List.getElem_toArray, List.getElem_cons_zero, List.getElem_cons_succ]
  refine wpAnyH_take (i := 5) (v := (.int .i64 2)) rfl (by kernel_rfl) (by kernel_rfl) (by kernel_rfl) (fun _ _ _ h => h) (Or.inl ⟨by rfl, fun w hw => by obtain ⟨x, rfl⟩ := hw; go_simp⟩) hSS ?_
  try simp only [Act.put, List.setIfInBounds_toArray, List.set_cons_zero, List.set_cons_succ, List.getElem_toArray, List.getElem_cons_zero, List.getElem_cons_succ]
  refine wpAnyH_take (i := 6) (v := (.pointer (some ⟨g, 14, none⟩))) rfl (by kernel_rfl) (by kernel_rfl) (by kernel_rfl) (fun _ _ _ h => h) (Or.inl ⟨by rfl, fun w hw => by obtain ⟨x, rfl⟩ := hw; go_simp⟩) hSS ?_
  try simp only [Act.put, List.setIfInBounds_toArray, List.set_cons_zero, List.set_cons_succ, List.getElem_toArray, List.getElem_cons_zero, List.getElem_cons_succ]
  refine wpAnyH_take (i := 7) (v := (.agg #[.int .i64 z.x, .int .i64 z.y, .int .i64 z.z, .int .i64 z.a, .int .i64 z.b, .int .i64 z.c, .int .i64 z.d])) rfl (by kernel_rfl) (by kernel_rfl) (by kernel_rfl) (fun _ _ _ h => h) (Or.inl ⟨by rfl, fun w hw => by obtain ⟨x, rfl⟩ := hw; go_simp⟩) hSS ?_
  try simp only [Act.put, List.setIfInBounds_toArray, List.set_cons_zero, List.set_cons_succ, List.getElem_toArray, List.getElem_cons_zero, List.getElem_cons_succ]
  refine wpAnyH_take (i := 8) (v := (.agg #[.int .i64 p.x, .int .i64 p.y, .int .i64 p.z, .int .i64 p.a, .int .i64 p.b, .int .i64 p.c, .int .i64 p.d])) rfl (by kernel_rfl) (by kernel_rfl) (by kernel_rfl) (fun _ _ _ h => h) (Or.inl ⟨by rfl, fun w hw => by obtain ⟨x, rfl⟩ := hw; go_simp⟩) hSS ?_
  try simp only [Act.put, List.setIfInBounds_toArray, List.set_cons_zero, List.set_cons_succ, List.getElem_toArray, List.getElem_cons_zero, List.getElem_cons_succ]
  refine wpAnyH_take (i := 9) (v := (.agg #[.int .i64 v.x, .int .i64 v.y, .int .i64 v.z, .int .i64 v.a, .int .i64 v.b, .int .i64 v.c, .int .i64 v.d, .int .i64 z.x, .int .i64 z.y, .int .i64 z.z, .int .i64 z.a, .int .i64 z.b, .int .i64 z.c, .int .i64 z.d, .int .i64 p.x, .int .i64 p.y, .int .i64 p.z, .int .i64 p.a, .int .i64 p.b, .int .i64 p.c, .int .i64 p.d])) rfl (by kernel_rfl) (by kernel_rfl) (by kernel_rfl) (fun _ _ _ h => h) (Or.inl ⟨by rfl, fun w hw => by obtain ⟨x, rfl⟩ := hw; go_simp⟩) hSS ?_
  try simp only [Act.put, List.setIfInBounds_toArray, List.set_cons_zero, List.set_cons_succ, List.getElem_toArray, List.getElem_cons_zero, List.getElem_cons_succ]
  clear w00 w01 w02 w03 w04 w05 w06 w10 w11 w12 w13 w14 w15 w16 w20 w21 w22 w23 w24 w25 w26
  refine wpAnyH_ready (rs := [10]) (by kernel_rfl) (by simp) ?_
  refine AllReadyH.cons rfl (fun K hK => ?_) AllReadyH.nil
  go_simp
  have Bn := Lib.hid (show Below X6.heap.size X6 (X6.alloc (Obj.cells #[.int .i64 0, .int .i64 0, .int .i64 0, .int .i64 0, .int .i64 0, .int .i64 0, .int .i64 0, .int .i64 0, .int .i64 0, .int .i64 0, .int .i64 0, .int .i64 0, .int .i64 0, .int .i64 0, .int .i64 0, .int .i64 0, .int .i64 0, .int .i64 0, .int .i64 0, .int .i64 0, .int .i64 0] 25)).drew from ((Below.refl _ _).alloc (Nat.le_refl _) _).drew)
  have Nn := Lib.hid (show (X6.alloc (Obj.cells #[.int .i64 0, .int .i64 0, .int .i64 0, .int .i64 0, .int .i64 0, .int .i64 0, .int .i64 0, .int .i64 0, .int .i64 0, .int .i64 0, .int .i64 0, .int .i64 0, .int .i64 0, .int .i64 0, .int .i64 0, .int .i64 0, .int .i64 0, .int .i64 0, .int .i64 0, .int .i64 0, .int .i64 0] 25)).drew.heap[X6.heap.size]? = some (.cells #[.int .i64 0, .int .i64 0, .int .i64 0, .int .i64 0, .int .i64 0, .int .i64 0, .int .i64 0, .int .i64 0, .int .i64 0, .int .i64 0, .int .i64 0, .int .i64 0, .int .i64 0, .int .i64 0, .int .i64 0, .int .i64 0, .int .i64 0, .int .i64 0, .int .i64 0, .int .i64 0, .int .i64 0] 25 (0, 0)) from new_at (w := X6) rfl)
  refine hK.out _ _ ⟨⟨_, Bn.out⟩, rfl⟩ (fun hSS => ?_)
  clear hK K
  try simp only [Act.put, List.setIfInBounds_toArray, List.set_cons_zero, List.set_cons_succ, List.getElem_toArray, List.getElem_cons_zero, List.getElem_cons_succ]
  refine wpAnyH_ready (rs := [11]) (by kernel_rfl) (by simp) ?_
  refine AllReadyH.cons rfl (fun K hK => ?_) AllReadyH.nil
  refine opw_storeT (a := v) (b := z) (c := p) _ _ rfl rfl rfl rfl Nn.out rfl (fun Y6 Pn => ?_)
  have By := Lib.hid (Pn.out.below _ _ Bn.out (Nat.le_refl _))
  refine hK.out _ _ ⟨⟨_, By.out⟩, rfl⟩ (fun hSS => ?_)
  clear hK K hSS
  try simp only [Act.put, List.setIfInBounds_toArray, List.set_cons_zero, List.set_cons_succ, List.getElem_toArray, List.getElem_cons_zero, List.getElem_cons_succ]
  refine wpAnyH_done (by kernel_rfl) ?_ _
  have BY := Lib.hid (bstep B6.out B6.out.size By.out)
  have UY := Lib.hid (tB_grow U6.out By.out)
  have PY := Lib.hid (pB_grow P6.out By.out)
  have TY := Lib.hid (show Y6.heap[X6.heap.size]? = some (tB v z p) from Pn.out.same)
  obtain ⟨j6, hj⟩ : ∃ j, X6.heap.size = j := ⟨_, rfl⟩
  rw [hj] at TY ⊢
  clear hj By Pn Bn Nn B6 U6 P6
  go_wp2_with (refine wp_loadT (a := v) (b := z) (c := p) (.tmp 18) rfl rfl rfl TY.out ?_)
  with_reducible refine (A2.out _).mono ?_
  rintro e' Z6 ⟨rfl, hb⟩
  have BZ := Lib.hid (bstep BY.out BY.out.size hb)
  have UZ := Lib.hid (tB_grow UY.out hb)
  have PZ := Lib.hid (pB_grow PY.out hb)
  have TZ := Lib.hid (tB_grow TY.out hb)
  clear hb BY UY PY TY
  rcases (show m2 < 0 ∨ ¬ m2 < 0 by omega) with h2 | h2
  · go_wp2
    go_ret
    exact ⟨rfl, BZ.out⟩
  go_wp2_with (refine wp_loadT (a := v) (b := z) (c := p) (.tmp 18) rfl rfl rfl TZ.out ?_)
  with_reducible refine (M2.out _).mono ?_
  rintro e' X7 ⟨rfl, hb⟩
  have B7 := Lib.hid (bstep BZ.out BZ.out.size hb)
  have U7 := Lib.hid (tB_grow UZ.out hb)
  have P7 := Lib.hid (pB_grow PZ.out hb)
  clear hb BZ UZ PZ TZ
  have HH2 := Lib.hid h2
  clear h2
  have fa := F2.out
  have fo := R2.out
  go_wp2
  clear fa fo
  rw [rounds_succ]
  go_wp2_with fail
  have hSS : (∃ x : Grow X7, X7.drew = x.w) := ⟨⟨_, (Below.refl _ _).drew⟩, rfl⟩
  obtain ⟨⟨h0, h1, h2, h3, h4, h5, h6⟩, ⟨h7, h8, h9, h10, h11, h12, h13⟩, ⟨h14, h15, h16, h17, h18, h19, h20⟩⟩ := tB_cell U7.out
  obtain ⟨q0, q1, q2, q3, q4, q5, q6⟩ := pB_cell P7.out
  have w00 : ∀ x : Grow X7, x.w.cell? ⟨g, 14, none⟩ = some (.int .i64 z.x) := fun x => x.cell h14
  have w01 : ∀ x : Grow X7, x.w.cell? ⟨g, 15, none⟩ = some (.int .i64 z.y) := fun x => x.cell h15
  have w02 : ∀ x : Grow X7, x.w.cell? ⟨g, 16, none⟩ = some (.int .i64 z.z) := fun x => x.cell h16
  have w03 : ∀ x : Grow X7, x.w.cell? ⟨g, 17, none⟩ = some (.int .i64 z.a) := fun x => x.cell h17
  have w04 : ∀ x : Grow X7, x.w.cell? ⟨g, 18, none⟩ = some (.int .i64 z.b) := fun x => x.cell h18
  have w05 : ∀ x : Grow X7, x.w.cell? ⟨g, 19, none⟩ = some (.int .i64 z.c) := fun x => x.cell h19
  have w06 : ∀ x : Grow X7, x.w.cell? ⟨g, 20, none⟩ = some (.int .i64 z.d) := fun x => x.cell h20
  have w10 : ∀ x : Grow X7, x.w.cell? ⟨g, 0, none⟩ = some (.int .i64 u.x) := fun x => x.cell h0
  have w11 : ∀ x : Grow X7, x.w.cell? ⟨g, 1, none⟩ = some (.int .i64 u.y) := fun x => x.cell h1
  have w12 : ∀ x : Grow X7, x.w.cell? ⟨g, 2, none⟩ = some (.int .i64 u.z) := fun x => x.cell h2
  have w13 : ∀ x : Grow X7, x.w.cell? ⟨g, 3, none⟩ = some (.int .i64 u.a) := fun x => x.cell h3
  have w14 : ∀ x : Grow X7, x.w.cell? ⟨g, 4, none⟩ = some (.int .i64 u.b) := fun x => x.cell h4
  have w15 : ∀ x : Grow X7, x.w.cell? ⟨g, 5, none⟩ = some (.int .i64 u.c) := fun x => x.cell h5
  have w16 : ∀ x : Grow X7, x.w.cell? ⟨g, 6, none⟩ = some (.int .i64 u.d) := fun x => x.cell h6
  have w20 : ∀ x : Grow X7, x.w.cell? ⟨h, 0, none⟩ = some (.int .i64 p.x) := fun x => x.cell q0
  have w21 : ∀ x : Grow X7, x.w.cell? ⟨h, 1, none⟩ = some (.int .i64 p.y) := fun x => x.cell q1
  have w22 : ∀ x : Grow X7, x.w.cell? ⟨h, 2, none⟩ = some (.int .i64 p.z) := fun x => x.cell q2
  have w23 : ∀ x : Grow X7, x.w.cell? ⟨h, 3, none⟩ = some (.int .i64 p.a) := fun x => x.cell q3
  have w24 : ∀ x : Grow X7, x.w.cell? ⟨h, 4, none⟩ = some (.int .i64 p.b) := fun x => x.cell q4
  have w25 : ∀ x : Grow X7, x.w.cell? ⟨h, 5, none⟩ = some (.int .i64 p.c) := fun x => x.cell q5
  have w26 : ∀ x : Grow X7, x.w.cell? ⟨h, 6, none⟩ = some (.int .i64 p.d) := fun x => x.cell q6
  clear h0 h1 h2 h3 h4 h5 h6 h7 h8 h9 h10 h11 h12 h13 h14 h15 h16 h17 h18 h19 h20 q0 q1 q2 q3 q4 q5 q6
  refine wp_region_held_drew (S := fun w' => ∃ x : Grow X7, w' = x.w) (by kernel_rfl) hSS (fun hSS => ?_)
  refine wpAnyH_take (i := 0) (v := (.int .i64 2)) rfl (by kernel_rfl) (by kernel_rfl) (by kernel_rfl) (fun _ _ _ h => h) (Or.inl ⟨by rfl, fun w hw => by obtain ⟨x, rfl⟩ := hw; go_simp⟩) hSS ?_
  try simp only [Act.put, List.setIfInBounds_toArray, List.set_cons_zero, List.set_cons_succ, List.getElem_toArray, List.getElem_cons_zero]
  refine wpAnyH_take (i := 1) (v := (.pointer (some ⟨g, 14, none⟩))) rfl (by kernel_rfl) (by kernel_rfl) (by kernel_rfl) (fun _ _ _ h => h) (Or.inl ⟨by rfl, fun w hw => by obtain ⟨x, rfl⟩ := hw; go_simp⟩) hSS ?_
  try simp only [Act.put, List.setIfInBounds_toArray, List.set_cons_zero, List.set_cons_succ, List.getElem_toArray, List.getElem_cons_zero, List.getElem_cons_succ]
  refine wpAnyH_take (i := 2) (v := (.agg #[.int .i64 z.x, .int .i64 z.y, .int .i64 z.z, .int .i64 z.a, .int .i64 z.b, .int .i64 z.c, .int .i64 z.d])) rfl (by kernel_rfl) (by kernel_rfl) (by kernel_rfl) (fun _ _ _ h => h) (Or.inl ⟨by rfl, fun w hw => by obtain ⟨x, rfl⟩ := hw; go_simp⟩) hSS ?_
  try simp only [Act.put, List.setIfInBounds_toArray, List.set_cons_zero, List.set_cons_succ, List.getElem_toArray, List.getElem_cons_zero, List.getElem_cons_succ]
  refine wpAnyH_take (i := 3) (v := (.int .i64 2)) rfl (by kernel_rfl) (by kernel_rfl) (by kernel_rfl) (fun _ _ _ h => h) (Or.inl ⟨by rfl, fun w hw => by obtain ⟨x, rfl⟩ := hw; go_simp⟩) hSS ?_
  try simp only [Act.put, List.setIfInBounds_toArray, List.set_cons_zero, List.set_cons_succ, List.getElem_toArray, List.getElem_cons_zero, List.getElem_cons_succ]
  refine wpAnyH_take (i := 4) (v := (.int .i64 3)) rfl (by kernel_rfl) (by kernel_rfl) (by kernel_rfl) (fun _ _ _ h => h) (Or.inl ⟨by rfl, fun w hw => by obtain ⟨x, rfl⟩ := hw; go_simp⟩) hSS ?_
  try simp only [Act.put, List.setIfInBounds_toArray, List.set_cons_zero, List.set_cons_succ, List.getElem_toArray, List.getElem_cons_zero, List.getElem_cons_succ]
  refine wpAnyH_take (i := 5) (v := (.int .i64 0)) rfl (by kernel_rfl) (by kernel_rfl) (by kernel_rfl) (fun _ _ _ h => h) (Or.inl ⟨by rfl, fun w hw => by obtain ⟨x, rfl⟩ := hw; go_simp⟩) hSS ?_
  try simp only [Act.put, List.setIfInBounds_toArray, List.set_cons_zero, List.set_cons_succ, List.getElem_toArray, List.getElem_cons_zero, List.getElem_cons_succ]
  refine wpAnyH_take (i := 6) (v := (.pointer (some ⟨g, 0, none⟩))) rfl (by kernel_rfl) (by kernel_rfl) (by kernel_rfl) (fun _ _ _ h => h) (Or.inl ⟨by rfl, fun w hw => by obtain ⟨x, rfl⟩ := hw; go_simp⟩) hSS ?_
  try simp only [Act.put, List.setIfInBounds_toArray, List.set_cons_zero, List.set_cons_succ, List.getElem_toArray, List.getElem_cons_zero, List.getElem_cons_succ]
  refine wpAnyH_take (i := 7) (v := (.agg #[.int .i64 u.x, .int .i64 u.y, .int .i64 u.z, .int .i64 u.a, .int .i64 u.b, .int .i64 u.c, .int .i64 u.d])) rfl (by kernel_rfl) (by kernel_rfl) (by kernel_rfl) (fun _ _ _ h => h) (Or.inl ⟨by rfl, fun w hw => by obtain ⟨x, rfl⟩ := hw; go_simp⟩) hSS ?_
  try simp only [Act.put, List.setIfInBounds_toArray, List.set_cons_zero, List.set_cons_succ, List.getElem_toArray, List.getElem_cons_zero, List.getElem_cons_succ]
  refine wpAnyH_take (i := 8) (v := (.agg #[.int .i64 p.x, .int .i64 p.y, .int .i64 p.z, .int .i64 p.a, .int .i64 p.b, .int .i64 p.c, .int .i64 p.d])) rfl (by kernel_rfl) (by kernel_rfl) (by kernel_rfl) (fun _ _ _ h => h) (Or.inl ⟨by rfl, fun w hw => by obtain ⟨x, rfl⟩ := hw; go_simp⟩) hSS ?_
  try simp only [Act.put, List.setIfInBounds_toArray, List.set_cons_zero, List.set_cons_succ, List.getElem_toArray, List.getElem_cons_zero, List.getElem_cons_succ]
  refine wpAnyH_take (i := 9) (v := (.agg #[.int .i64 z.x, .int .i64 z.y, .int .i64 z.z, .int .i64 z.a, .int .i64 z.b, .int .i64 z.c, .int .i64 z.d, .int .i64 u.x, .int .i64 u.y, .int .i64 u.z, .int .i64 u.a, .int .i64 u.b, .int .i64 u.c, .int .i64 u.d, .int .i64 p.x, .int .i64 p.y, .int .i64 p.z, .int .i64 p.a, .int .i64 p.b, .int .i64 p.c, .int .i64 p.d])) rfl (by kernel_rfl) (by kernel_rfl) (by kernel_rfl) (fun _ _ _ h => h) (Or.inl ⟨by rfl, fun w hw => by obtain ⟨x, rfl⟩ := hw; go_simp⟩) hSS ?_
  try simp only [Act.put, List.setIfInBounds_toArray, List.set_cons_zero, List.set_cons_succ, List.getElem_toArray, List.getElem_cons_zero, List.getElem_cons_succ]
  clear w00 w01 w02 w03 w04 w05 w06 w10 w11 w12 w13 w14 w15 w16 w20 w21 w22 w23 w24 w25 w26
  refine wpAnyH_ready (rs := [10]) (by kernel_rfl) (by simp) ?_
  refine AllReadyH.cons rfl (fun K hK => ?_) AllReadyH.nil
  go_simp
  have Bn := Lib.hid (show Below X7.heap.size X7 (X7.alloc (Obj.cells #[.int .i64 0, .int .i64 0, .int .i64 0, .int .i64 0, .int .i64 0, .int .i64 0, .int .i64 0, .int .i64 0, .int .i64 0, .int .i64 0, .int .i64 0, .int .i64 0, .int .i64 0, .int .i64 0, .int .i64 0, .int .i64 0, .int .i64 0, .int .i64 0, .int .i64 0, .int .i64 0, .int .i64 0] 25)).drew from ((Below.refl _ _).alloc (Nat.le_refl _) _).drew)
  have Nn := Lib.hid (show (X7.alloc (Obj.cells #[.int .i64 0, .int .i64 0, .int .i64 0, .int .i64 0, .int .i64 0, .int .i64 0, .int .i64 0, .int .i64 0, .int .i64 0, .int .i64 0, .int .i64 0, .int .i64 0, .int .i64 0, .int .i64 0, .int .i64 0, .int .i64 0, .int .i64 0, .int .i64 0, .int .i64 0, .int .i64 0, .int .i64 0] 25)).drew.heap[X7.heap.size]? = some (.cells #[.int .i64 0, .int .i64 0, .int .i64 0, .int .i64 0, .int .i64 0, .int .i64 0, .int .i64 0, .int .i64 0, .int .i64 0, .int .i64 0, .int .i64 0, .int .i64 0, .int .i64 0, .int .i64 0, .int .i64 0, .int .i64 0, .int .i64 0, .int .i64 0, .int .i64 0, .int .i64 0, .int .i64 0] 25 (0, 0)) from new_at (w := X7) rfl)
  refine hK.out _ _ ⟨⟨_, Bn.out⟩, rfl⟩ (fun hSS => ?_)
  clear hK K
  try simp only [Act.put, List.setIfInBounds_toArray, List.set_cons_zero, List.set_cons_succ, List.getElem_toArray, List.getElem_cons_zero, List.getElem_cons_succ]
  refine wpAnyH_ready (rs := [11]) (by kernel_rfl) (by simp) ?_
  refine AllReadyH.cons rfl (fun K hK => ?_) AllReadyH.nil
  refine opw_storeT (a := z) (b := u) (c := p) _ _ rfl rfl rfl rfl Nn.out rfl (fun Y7 Pn => ?_)
  have By := Lib.hid (Pn.out.below _ _ Bn.out (Nat.le_refl _))
  refine hK.out _ _ ⟨⟨_, By.out⟩, rfl⟩ (fun hSS => ?_)
  clear hK K hSS
  try simp only [Act.put, List.setIfInBounds_toArray, List.set_cons_zero, List.set_cons_succ, List.getElem_toArray, List.getElem_cons_zero, List.getElem_cons_succ]
  refine wpAnyH_done (by kernel_rfl) ?_ _
  have BY := Lib.hid (bstep B7.out B7.out.size By.out)
  have UY := Lib.hid (tB_grow U7.out By.out)
  have PY := Lib.hid (pB_grow P7.out By.out)
  have TY := Lib.hid (show Y7.heap[X7.heap.size]? = some (tB z u p) from Pn.out.same)
  obtain ⟨j7, hj⟩ : ∃ j, X7.heap.size = j := ⟨_, rfl⟩
  rw [hj] at TY ⊢
  clear hj By Pn Bn Nn B7 U7 P7
  go_wp2_with (refine wp_loadT (a := z) (b := u) (c := p) (.tmp 18) rfl rfl rfl TY.out ?_)
  with_reducible refine (A3.out _).mono ?_
  rintro e' Z7 ⟨rfl, hb⟩
  have BZ := Lib.hid (bstep BY.out BY.out.size hb)
  have UZ := Lib.hid (tB_grow UY.out hb)
  have PZ := Lib.hid (pB_grow PY.out hb)
  have TZ := Lib.hid (tB_grow TY.out hb)
  clear hb BY UY PY TY
  rcases (show m3 < 0 ∨ ¬ m3 < 0 by omega) with h3 | h3
  · go_wp2
    go_ret
    exact ⟨rfl, BZ.out⟩
  go_wp2_with (refine wp_loadT (a := z) (b := u) (c := p) (.tmp 18) rfl rfl rfl TZ.out ?_)
  with_reducible refine (M3.out _).mono ?_
  rintro e' X8 ⟨rfl, hb⟩
  have B8 := Lib.hid (bstep BZ.out BZ.out.size hb)
  have U8 := Lib.hid (tB_grow UZ.out hb)
  have P8 := Lib.hid (pB_grow PZ.out hb)
  clear hb BZ UZ PZ TZ
  have HH3 := Lib.hid h3
  clear h3
  have fa := F3.out
  have fo := f4.out har HH1.out HH2.out HH3.out
  go_wp2
  clear fa fo
  rw [rounds_succ]
  go_wp2_with (refine wp_loadT (a := u) (b := v) (c := z) (.tmp 8) rfl rfl rfl U8.out ?_)
  with_reducible refine (M4.out _).mono ?_
  rintro e' X9 ⟨rfl, hb⟩
  have BE := Lib.hid (bstep B8.out B8.out.size hb)
  clear hb
  go_wp2
  go_ret
  exact ⟨by simp, BE.out⟩
end Go.Proofs.Ytgcoggejgolhgaa
