/-
  CoverOnce's walk.
-/
import Derived.Test.YtgcoggejgolhgaaQuad
namespace Go.Proofs.Ytgcoggejgolhgaa
open Go.RowKit
attribute [local go_sem ↓] Go.wp_at_zero Go.wp_at_succ

theorem set7_size (w : World) (g o : Nat) (v : P) : (set7 w g o v).heap.size = w.heap.size := by simp [set7]

set_option maxRecDepth 100000 in
set_option maxHeartbeats 2000000 in
theorem once_walk (a b c d : P) (e f : Int) (w : World) :
    Calls Try.prog 4 #[.agg #[.int .i64 a.x, .int .i64 a.y, .int .i64 a.z, .int .i64 a.a, .int .i64 a.b, .int .i64 a.c, .int .i64 a.d, .int .i64 b.x, .int .i64 b.y, .int .i64 b.z, .int .i64 b.a, .int .i64 b.b, .int .i64 b.c, .int .i64 b.d, .int .i64 c.x, .int .i64 c.y, .int .i64 c.z, .int .i64 c.a, .int .i64 c.b, .int .i64 c.c, .int .i64 c.d, .int .i64 d.x, .int .i64 d.y, .int .i64 d.z, .int .i64 d.a, .int .i64 d.b, .int .i64 d.c, .int .i64 d.d], .agg #[.int .i64 e, .int .i64 f]] w fun e w' => e = .returned (.bool true) ∧ Below w.heap.size w w' := by
  have HSh := Lib.hid shown_any
  obtain ⟨p, hp⟩ : ∃ p, smallP a = p := ⟨_, rfl⟩
  have Sp := small_any a
  have op : p.sm := hp ▸ (smallP_ok a).sm
  rw [hp] at Sp
  replace Sp := Lib.hid Sp
  clear hp
  obtain ⟨q, hq⟩ : ∃ q, smallP b = q := ⟨_, rfl⟩
  have Sq := small_any b
  have oq : q.sm := hq ▸ (smallP_ok b).sm
  rw [hq] at Sq
  replace Sq := Lib.hid Sq
  clear hq
  obtain ⟨r, hr⟩ : ∃ r, smallP c = r := ⟨_, rfl⟩
  have Sr := small_any c
  have or : r.sm := hr ▸ (smallP_ok c).sm
  rw [hr] at Sr
  replace Sr := Lib.hid Sr
  clear hr
  obtain ⟨t, ht⟩ : ∃ t, smallP d = t := ⟨_, rfl⟩
  have St := small_any d
  have ot : t.sm := ht ▸ (smallP_ok d).sm
  rw [ht] at St
  replace St := Lib.hid St
  clear ht
  have hx' := tmod_bd e 1025 (by decide)
  have hy' := tmod_bd f 1025 (by decide)
  obtain ⟨x, ex⟩ : ∃ x, e.tmod 1025 = x := ⟨_, rfl⟩
  obtain ⟨y, ey⟩ : ∃ y, f.tmod 1025 = y := ⟨_, rfl⟩
  rw [ex] at hx'
  rw [ey] at hy'
  have hx : -1024 ≤ x ∧ x ≤ 1024 := by omega
  have hy : -1024 ≤ y ∧ y ≤ 1024 := by omega
  have A1 := Lib.hid (rarea_any p q r op oq or)
  have A2 := Lib.hid (rarea_any q p t oq op ot)
  have A3 := Lib.hid (rarea_any r t q or ot oq)
  have A4 := Lib.hid (rarea_any t r p ot or op)
  have M1 := Lib.hid (mask_any p q r x y op oq or hx hy)
  have M2 := Lib.hid (mask_any q p t x y oq op ot hx hy)
  have M3 := Lib.hid (mask_any r t q x y or ot oq hx hy)
  have M4 := Lib.hid (mask_any t r p x y ot or op hx hy)
  have n1 := once_apart p q r t x y
  have n2 := once_apart r t q p x y
  have HE := Lib.hid (@once_either p q r t x y)
  generalize area p q r = m1 at *
  generalize area q p t = m2 at *
  generalize area r t q = m3 at *
  generalize area t r p = m4 at *
  generalize mask p q r x y = k1 at *
  generalize mask q p t x y = k2 at *
  generalize mask r t q x y = k3 at *
  generalize mask t r p x y = k4 at *
  clear op oq or ot hx hy hx' hy'
  have v1 : IntKind.i64.wrap 1 = 1 := by decide
  have v2 : IntKind.i64.wrap 2 = 2 := by decide
  have v3 : IntKind.i64.wrap 3 = 3 := by decide
  have v4 : IntKind.i64.wrap 4 = 4 := by decide
  have N1 := Lib.hid n1
  have N2 := Lib.hid n2
  clear n1 n2
  go_enter Try.func4, Try.ntmps4
  go_wp2_with fail
  obtain ⟨X0, hX0⟩ : ∃ X0, X0 = (w.alloc (Obj.cells #[.int .i64 a.x, .int .i64 a.y, .int .i64 a.z, .int .i64 a.a, .int .i64 a.b, .int .i64 a.c, .int .i64 a.d, .int .i64 b.x, .int .i64 b.y, .int .i64 b.z, .int .i64 b.a, .int .i64 b.b, .int .i64 b.c, .int .i64 b.d, .int .i64 c.x, .int .i64 c.y, .int .i64 c.z, .int .i64 c.a, .int .i64 c.b, .int .i64 c.c, .int .i64 c.d, .int .i64 d.x, .int .i64 d.y, .int .i64 d.z, .int .i64 d.a, .int .i64 d.b, .int .i64 d.c, .int .i64 d.d] 39)).alloc (Obj.cells #[.int .i64 e, .int .i64 f] 40) := ⟨_, rfl⟩
  rw [← hX0]
  have B0 := Lib.hid (show Below w.heap.size w X0 by rw [hX0]; exact ((Below.refl _ _).alloc (Nat.le_refl _) _).alloc (by simp) _)
  have L0 := Lib.hid (show X0.heap[w.heap.size]? = some (qB a b c d) by rw [hX0]; exact (new_two _ _).1)
  have E0 := Lib.hid (show X0.heap[w.heap.size + 1]? = some (.cells #[.int .i64 e, .int .i64 f] 40) by rw [hX0]; exact (new_two _ _).2)
  have G0 := Lib.hid (show X0.heap.size = w.heap.size + 2 by rw [hX0]; simp)
  clear hX0
  with_reducible refine (HSh.out _).mono ?_
  rintro e' X1 ⟨rfl, hb⟩
  have B1 := Lib.hid (bstep B0.out B0.out.size hb)
  have L1 := Lib.hid (qB_grow L0.out hb)
  have E1 := Lib.hid ((hb.block _ (by have := G0.out; omega)).trans E0.out)
  have G1 := Lib.hid (show w.heap.size + 2 ≤ X1.heap.size by have := hb.size; have := G0.out; omega)
  clear hb L0 E0 G0
  go_wp2_with (refine wp_newQ rfl rfl rfl rfl rfl rfl rfl rfl rfl rfl rfl ?_)
  obtain ⟨X2, hX2⟩ : ∃ X2, X2 = X1.alloc (Obj.cells #[.int .i64 zP.x, .int .i64 zP.y, .int .i64 zP.z, .int .i64 zP.a, .int .i64 zP.b, .int .i64 zP.c, .int .i64 zP.d, .int .i64 zP.x, .int .i64 zP.y, .int .i64 zP.z, .int .i64 zP.a, .int .i64 zP.b, .int .i64 zP.c, .int .i64 zP.d, .int .i64 zP.x, .int .i64 zP.y, .int .i64 zP.z, .int .i64 zP.a, .int .i64 zP.b, .int .i64 zP.c, .int .i64 zP.d, .int .i64 zP.x, .int .i64 zP.y, .int .i64 zP.z, .int .i64 zP.a, .int .i64 zP.b, .int .i64 zP.c, .int .i64 zP.d] 39) := ⟨_, rfl⟩
  rw [← hX2]
  have B2 := Lib.hid (show Below w.heap.size w X2 by rw [hX2]; exact B1.out.alloc (by have := G1.out; omega) _)
  have L2 := Lib.hid (show X2.heap[w.heap.size]? = some (qB a b c d) by rw [hX2]; exact qB_alloc _ L1.out)
  have E2 := Lib.hid (show X2.heap[w.heap.size + 1]? = some (.cells #[.int .i64 e, .int .i64 f] 40) by rw [hX2]; exact (Below.heap_alloc _ _ _ (by have := G1.out; omega)).trans E1.out)
  have Q2 := Lib.hid (show X2.heap[X1.heap.size]? = some (qB zP zP zP zP) by rw [hX2]; exact new_at rfl)
  have G2 := Lib.hid (show X1.heap.size < X2.heap.size by rw [hX2]; simp)
  clear hX2 L1 E1 B1
  obtain ⟨g, hg⟩ : ∃ g, X1.heap.size = g := ⟨_, rfl⟩
  rw [hg] at Q2 G1 G2 ⊢
  clear hg
  refine wp_loop_rounds 5 ?_
  rw [rounds_succ]
  obtain ⟨⟨c0, c1, c2, c3, c4, c5, c6⟩, ⟨c7, c8, c9, c10, c11, c12, c13⟩, ⟨c14, c15, c16, c17, c18, c19, c20⟩, ⟨c21, c22, c23, c24, c25, c26, c27⟩⟩ := qB_cell L2.out
  go_wp2_with fail
  with_reducible refine (Sp.out _).mono ?_
  rintro e' Y2 ⟨rfl, hb⟩
  have BY := Lib.hid (bstep B2.out B2.out.size hb)
  have LY := Lib.hid (qB_grow L2.out hb)
  have EY := Lib.hid ((hb.block _ (by have := G1.out; have := G2.out; omega)).trans E2.out)
  have QY := Lib.hid (qB_grow Q2.out hb)
  have GY := Lib.hid (show g < Y2.heap.size by have := hb.size; have := G2.out; omega)
  clear hb c0 c1 c2 c3 c4 c5 c6 c7 c8 c9 c10 c11 c12 c13 c14 c15 c16 c17 c18 c19 c20 c21 c22 c23 c24 c25 c26 c27 L2 E2 Q2 B2 G2
  obtain ⟨⟨c0, c1, c2, c3, c4, c5, c6⟩, ⟨c7, c8, c9, c10, c11, c12, c13⟩, ⟨c14, c15, c16, c17, c18, c19, c20⟩, ⟨c21, c22, c23, c24, c25, c26, c27⟩⟩ := qB_cell QY.out
  have fr := qB_free QY.out
  go_wp2
  obtain ⟨X3, hX⟩ : ∃ X3, X3 = (((((((Y2).setCell ⟨g, 0, none⟩ (.int .i64 p.x)).setCell ⟨g, 1, none⟩ (.int .i64 p.y)).setCell ⟨g, 2, none⟩ (.int .i64 p.z)).setCell ⟨g, 3, none⟩ (.int .i64 p.a)).setCell ⟨g, 4, none⟩ (.int .i64 p.b)).setCell ⟨g, 5, none⟩ (.int .i64 p.c)).setCell ⟨g, 6, none⟩ (.int .i64 p.d) := ⟨_, rfl⟩
  rw [← hX]
  replace hX : X3 = set7 Y2 g 0 p := hX
  have B3 := Lib.hid (show Below w.heap.size w X3 by rw [hX]; exact set7_below _ _ BY.out (by have := G1.out; omega))
  have L3 := Lib.hid (show X3.heap[w.heap.size]? = some (qB a b c d) by rw [hX]; exact (set7_other (by have := G1.out; omega)).trans LY.out)
  have E3 := Lib.hid (show X3.heap[w.heap.size + 1]? = some (.cells #[.int .i64 e, .int .i64 f] 40) by rw [hX]; exact (set7_other (by have := G1.out; omega)).trans EY.out)
  have Q3 := Lib.hid (show X3.heap[g]? = some (qB p zP zP zP) by rw [hX]; exact qB_set0 _ QY.out)
  have G2 := Lib.hid (show g < X3.heap.size by rw [hX, set7_size]; exact GY.out)
  clear hX LY EY QY BY GY c0 c1 c2 c3 c4 c5 c6 c7 c8 c9 c10 c11 c12 c13 c14 c15 c16 c17 c18 c19 c20 c21 c22 c23 c24 c25 c26 c27 fr
  rw [rounds_succ]
  obtain ⟨⟨c0, c1, c2, c3, c4, c5, c6⟩, ⟨c7, c8, c9, c10, c11, c12, c13⟩, ⟨c14, c15, c16, c17, c18, c19, c20⟩, ⟨c21, c22, c23, c24, c25, c26, c27⟩⟩ := qB_cell L3.out
  go_wp2_with fail
  with_reducible refine (Sq.out _).mono ?_
  rintro e' Y3 ⟨rfl, hb⟩
  have BY := Lib.hid (bstep B3.out B3.out.size hb)
  have LY := Lib.hid (qB_grow L3.out hb)
  have EY := Lib.hid ((hb.block _ (by have := G1.out; have := G2.out; omega)).trans E3.out)
  have QY := Lib.hid (qB_grow Q3.out hb)
  have GY := Lib.hid (show g < Y3.heap.size by have := hb.size; have := G2.out; omega)
  clear hb c0 c1 c2 c3 c4 c5 c6 c7 c8 c9 c10 c11 c12 c13 c14 c15 c16 c17 c18 c19 c20 c21 c22 c23 c24 c25 c26 c27 L3 E3 Q3 B3 G2
  obtain ⟨⟨c0, c1, c2, c3, c4, c5, c6⟩, ⟨c7, c8, c9, c10, c11, c12, c13⟩, ⟨c14, c15, c16, c17, c18, c19, c20⟩, ⟨c21, c22, c23, c24, c25, c26, c27⟩⟩ := qB_cell QY.out
  have fr := qB_free QY.out
  go_wp2
  obtain ⟨X4, hX⟩ : ∃ X4, X4 = (((((((Y3).setCell ⟨g, 7, none⟩ (.int .i64 q.x)).setCell ⟨g, 8, none⟩ (.int .i64 q.y)).setCell ⟨g, 9, none⟩ (.int .i64 q.z)).setCell ⟨g, 10, none⟩ (.int .i64 q.a)).setCell ⟨g, 11, none⟩ (.int .i64 q.b)).setCell ⟨g, 12, none⟩ (.int .i64 q.c)).setCell ⟨g, 13, none⟩ (.int .i64 q.d) := ⟨_, rfl⟩
  rw [← hX]
  replace hX : X4 = set7 Y3 g 7 q := hX
  have B4 := Lib.hid (show Below w.heap.size w X4 by rw [hX]; exact set7_below _ _ BY.out (by have := G1.out; omega))
  have L4 := Lib.hid (show X4.heap[w.heap.size]? = some (qB a b c d) by rw [hX]; exact (set7_other (by have := G1.out; omega)).trans LY.out)
  have E4 := Lib.hid (show X4.heap[w.heap.size + 1]? = some (.cells #[.int .i64 e, .int .i64 f] 40) by rw [hX]; exact (set7_other (by have := G1.out; omega)).trans EY.out)
  have Q4 := Lib.hid (show X4.heap[g]? = some (qB p q zP zP) by rw [hX]; exact qB_set1 _ QY.out)
  have G2 := Lib.hid (show g < X4.heap.size by rw [hX, set7_size]; exact GY.out)
  clear hX LY EY QY BY GY c0 c1 c2 c3 c4 c5 c6 c7 c8 c9 c10 c11 c12 c13 c14 c15 c16 c17 c18 c19 c20 c21 c22 c23 c24 c25 c26 c27 fr
  rw [rounds_succ]
  obtain ⟨⟨c0, c1, c2, c3, c4, c5, c6⟩, ⟨c7, c8, c9, c10, c11, c12, c13⟩, ⟨c14, c15, c16, c17, c18, c19, c20⟩, ⟨c21, c22, c23, c24, c25, c26, c27⟩⟩ := qB_cell L4.out
  go_wp2_with fail
  with_reducible refine (Sr.out _).mono ?_
  rintro e' Y4 ⟨rfl, hb⟩
  have BY := Lib.hid (bstep B4.out B4.out.size hb)
  have LY := Lib.hid (qB_grow L4.out hb)
  have EY := Lib.hid ((hb.block _ (by have := G1.out; have := G2.out; omega)).trans E4.out)
  have QY := Lib.hid (qB_grow Q4.out hb)
  have GY := Lib.hid (show g < Y4.heap.size by have := hb.size; have := G2.out; omega)
  clear hb c0 c1 c2 c3 c4 c5 c6 c7 c8 c9 c10 c11 c12 c13 c14 c15 c16 c17 c18 c19 c20 c21 c22 c23 c24 c25 c26 c27 L4 E4 Q4 B4 G2
  obtain ⟨⟨c0, c1, c2, c3, c4, c5, c6⟩, ⟨c7, c8, c9, c10, c11, c12, c13⟩, ⟨c14, c15, c16, c17, c18, c19, c20⟩, ⟨c21, c22, c23, c24, c25, c26, c27⟩⟩ := qB_cell QY.out
  have fr := qB_free QY.out
  go_wp2
  obtain ⟨X5, hX⟩ : ∃ X5, X5 = (((((((Y4).setCell ⟨g, 14, none⟩ (.int .i64 r.x)).setCell ⟨g, 15, none⟩ (.int .i64 r.y)).setCell ⟨g, 16, none⟩ (.int .i64 r.z)).setCell ⟨g, 17, none⟩ (.int .i64 r.a)).setCell ⟨g, 18, none⟩ (.int .i64 r.b)).setCell ⟨g, 19, none⟩ (.int .i64 r.c)).setCell ⟨g, 20, none⟩ (.int .i64 r.d) := ⟨_, rfl⟩
  rw [← hX]
  replace hX : X5 = set7 Y4 g 14 r := hX
  have B5 := Lib.hid (show Below w.heap.size w X5 by rw [hX]; exact set7_below _ _ BY.out (by have := G1.out; omega))
  have L5 := Lib.hid (show X5.heap[w.heap.size]? = some (qB a b c d) by rw [hX]; exact (set7_other (by have := G1.out; omega)).trans LY.out)
  have E5 := Lib.hid (show X5.heap[w.heap.size + 1]? = some (.cells #[.int .i64 e, .int .i64 f] 40) by rw [hX]; exact (set7_other (by have := G1.out; omega)).trans EY.out)
  have Q5 := Lib.hid (show X5.heap[g]? = some (qB p q r zP) by rw [hX]; exact qB_set2 _ QY.out)
  have G2 := Lib.hid (show g < X5.heap.size by rw [hX, set7_size]; exact GY.out)
  clear hX LY EY QY BY GY c0 c1 c2 c3 c4 c5 c6 c7 c8 c9 c10 c11 c12 c13 c14 c15 c16 c17 c18 c19 c20 c21 c22 c23 c24 c25 c26 c27 fr
  rw [rounds_succ]
  obtain ⟨⟨c0, c1, c2, c3, c4, c5, c6⟩, ⟨c7, c8, c9, c10, c11, c12, c13⟩, ⟨c14, c15, c16, c17, c18, c19, c20⟩, ⟨c21, c22, c23, c24, c25, c26, c27⟩⟩ := qB_cell L5.out
  go_wp2_with fail
  with_reducible refine (St.out _).mono ?_
  rintro e' Y5 ⟨rfl, hb⟩
  have BY := Lib.hid (bstep B5.out B5.out.size hb)
  have LY := Lib.hid (qB_grow L5.out hb)
  have EY := Lib.hid ((hb.block _ (by have := G1.out; have := G2.out; omega)).trans E5.out)
  have QY := Lib.hid (qB_grow Q5.out hb)
  have GY := Lib.hid (show g < Y5.heap.size by have := hb.size; have := G2.out; omega)
  clear hb c0 c1 c2 c3 c4 c5 c6 c7 c8 c9 c10 c11 c12 c13 c14 c15 c16 c17 c18 c19 c20 c21 c22 c23 c24 c25 c26 c27 L5 E5 Q5 B5 G2
  obtain ⟨⟨c0, c1, c2, c3, c4, c5, c6⟩, ⟨c7, c8, c9, c10, c11, c12, c13⟩, ⟨c14, c15, c16, c17, c18, c19, c20⟩, ⟨c21, c22, c23, c24, c25, c26, c27⟩⟩ := qB_cell QY.out
  have fr := qB_free QY.out
  go_wp2
  obtain ⟨X6, hX⟩ : ∃ X6, X6 = (((((((Y5).setCell ⟨g, 21, none⟩ (.int .i64 t.x)).setCell ⟨g, 22, none⟩ (.int .i64 t.y)).setCell ⟨g, 23, none⟩ (.int .i64 t.z)).setCell ⟨g, 24, none⟩ (.int .i64 t.a)).setCell ⟨g, 25, none⟩ (.int .i64 t.b)).setCell ⟨g, 26, none⟩ (.int .i64 t.c)).setCell ⟨g, 27, none⟩ (.int .i64 t.d) := ⟨_, rfl⟩
  rw [← hX]
  replace hX : X6 = set7 Y5 g 21 t := hX
  have B6 := Lib.hid (show Below w.heap.size w X6 by rw [hX]; exact set7_below _ _ BY.out (by have := G1.out; omega))
  have L6 := Lib.hid (show X6.heap[w.heap.size]? = some (qB a b c d) by rw [hX]; exact (set7_other (by have := G1.out; omega)).trans LY.out)
  have E6 := Lib.hid (show X6.heap[w.heap.size + 1]? = some (.cells #[.int .i64 e, .int .i64 f] 40) by rw [hX]; exact (set7_other (by have := G1.out; omega)).trans EY.out)
  have Q6 := Lib.hid (show X6.heap[g]? = some (qB p q r t) by rw [hX]; exact qB_set3 _ QY.out)
  have G2 := Lib.hid (show g < X6.heap.size by rw [hX, set7_size]; exact GY.out)
  clear hX LY EY QY BY GY c0 c1 c2 c3 c4 c5 c6 c7 c8 c9 c10 c11 c12 c13 c14 c15 c16 c17 c18 c19 c20 c21 c22 c23 c24 c25 c26 c27 fr
  rw [rounds_succ]
  obtain ⟨⟨c0, c1, c2, c3, c4, c5, c6⟩, ⟨c7, c8, c9, c10, c11, c12, c13⟩, ⟨c14, c15, c16, c17, c18, c19, c20⟩, ⟨c21, c22, c23, c24, c25, c26, c27⟩⟩ := qB_cell Q6.out
  have c50 : X6.cell? ⟨w.heap.size + 1, 0, none⟩ = some (.int .i64 e) := by simp [World.cell?, E6.out]
  have c51 : X6.cell? ⟨w.heap.size + 1, 1, none⟩ = some (.int .i64 f) := by simp [World.cell?, E6.out]
  have G3 := G2.out
  clear L6 E6
  go_wp2_with (first | (refine wp_buildT (a := p) (b := q) (c := r) _ _ _ rfl rfl rfl rfl rfl ?_) | (refine wp_newT (a := p) (b := q) (c := r) _ rfl rfl rfl rfl rfl rfl rfl rfl ?_) | (refine wp_buildT (a := q) (b := p) (c := t) _ _ _ rfl rfl rfl rfl rfl ?_) | (refine wp_newT (a := q) (b := p) (c := t) _ rfl rfl rfl rfl rfl rfl rfl rfl ?_) | (refine wp_loadT (a := p) (b := q) (c := r) (.tmp 10) rfl rfl rfl (new_two _ _).1 ?_))
  with_reducible refine (A1.out _).mono ?_
  rintro e' Z1 ⟨rfl, hb⟩
  have C1 := Lib.hid (bstep ((B6.out.alloc B6.out.size _).alloc (by have := B6.out.size; simp; omega) _) (by have := B6.out.size; simp; omega) hb)
  have T1 := Lib.hid (show Z1.heap[X6.heap.size]? = some (tB p q r) from tB_grow (new_two _ _).1 hb)
  have U1 := Lib.hid (show Z1.heap[X6.heap.size + 1]? = some (tB q p t) from tB_grow (new_two _ _).2 hb)
  have Q7 := Lib.hid (qB_grow (qB_alloc _ (qB_alloc _ Q6.out)) hb)
  clear hb c0 c1 c2 c3 c4 c5 c6 c7 c8 c9 c10 c11 c12 c13 c14 c15 c16 c17 c18 c19 c20 c21 c22 c23 c24 c25 c26 c27 c50 c51 Q6 B6 G3
  obtain ⟨j, hj⟩ : ∃ j, X6.heap.size = j := ⟨_, rfl⟩
  rw [hj] at T1 U1 ⊢
  clear hj
  rcases (show m1 ≤ 0 ∨ (¬ m1 ≤ 0 ∧ 0 < m1) by omega) with h1 | ⟨h1, h1'⟩
  · go_wp2
    go_ret
    exact ⟨rfl, C1.out⟩
  go_wp2_with (refine wp_loadT (a := q) (b := p) (c := t) (.tmp 11) rfl (by simp [Region.wanted, yielded, h1]) rfl U1.out ?_)
  with_reducible refine (A2.out _).mono ?_
  rintro e' Z2 ⟨rfl, hb⟩
  have C2 := Lib.hid (bstep C1.out C1.out.size hb)
  have T2 := Lib.hid (tB_grow T1.out hb)
  have U2 := Lib.hid (tB_grow U1.out hb)
  have Q8 := Lib.hid (qB_grow Q7.out hb)
  clear hb C1 T1 U1 Q7
  rcases (show m2 ≤ 0 ∨ (¬ m2 ≤ 0 ∧ 0 < m2) by omega) with h2 | ⟨h2, h2'⟩
  · go_wp2
    go_ret
    exact ⟨rfl, C2.out⟩
  go_wp2_with (refine wp_loadT (a := p) (b := q) (c := r) (.tmp 10) rfl rfl rfl T2.out ?_)
  with_reducible refine (M1.out _).mono ?_
  rintro e' Z3 ⟨rfl, hb⟩
  have C3 := Lib.hid (bstep C2.out C2.out.size hb)
  have U3 := Lib.hid (tB_grow U2.out hb)
  have Q9 := Lib.hid (qB_grow Q8.out hb)
  clear hb C2 T2 U2 Q8
  go_wp2_with (refine wp_loadT (a := q) (b := p) (c := t) (.tmp 11) rfl rfl rfl U3.out ?_)
  with_reducible refine (M2.out _).mono ?_
  rintro e' Z4 ⟨rfl, hb⟩
  have C4 := Lib.hid (bstep C3.out C3.out.size hb)
  have Q10 := Lib.hid (qB_grow Q9.out hb)
  clear hb C3 U3 Q9
  have n1 := N1.out
  obtain ⟨⟨c0, c1, c2, c3, c4, c5, c6⟩, ⟨c7, c8, c9, c10, c11, c12, c13⟩, ⟨c14, c15, c16, c17, c18, c19, c20⟩, ⟨c21, c22, c23, c24, c25, c26, c27⟩⟩ := qB_cell Q10.out
  have l4 := qB_lt Q10.out
  go_wp2_with (first | (refine wp_buildT (a := r) (b := t) (c := q) _ _ _ rfl rfl rfl rfl rfl ?_) | (refine wp_newT (a := r) (b := t) (c := q) _ rfl rfl rfl rfl rfl rfl rfl rfl ?_) | (refine wp_buildT (a := t) (b := r) (c := p) _ _ _ rfl rfl rfl rfl rfl ?_) | (refine wp_newT (a := t) (b := r) (c := p) _ rfl rfl rfl rfl rfl rfl rfl rfl ?_) | (refine wp_loadT (a := r) (b := t) (c := q) (.tmp 14) rfl rfl rfl (new_two _ _).1 ?_))
  with_reducible refine (A3.out _).mono ?_
  rintro e' Z5 ⟨rfl, hb⟩
  have C5 := Lib.hid (bstep ((C4.out.alloc C4.out.size _).alloc (by have := C4.out.size; simp; omega) _) (by have := C4.out.size; simp; omega) hb)
  have T5 := Lib.hid (show Z5.heap[Z4.heap.size]? = some (tB r t q) from tB_grow (new_two _ _).1 hb)
  have U5 := Lib.hid (show Z5.heap[Z4.heap.size + 1]? = some (tB t r p) from tB_grow (new_two _ _).2 hb)
  clear hb c0 c1 c2 c3 c4 c5 c6 c7 c8 c9 c10 c11 c12 c13 c14 c15 c16 c17 c18 c19 c20 c21 c22 c23 c24 c25 c26 c27 Q10 C4 l4 n1
  obtain ⟨i, hi⟩ : ∃ i, Z4.heap.size = i := ⟨_, rfl⟩
  rw [hi] at T5 U5 ⊢
  clear hi
  rcases (show m3 ≤ 0 ∨ (¬ m3 ≤ 0 ∧ 0 < m3) by omega) with h3 | ⟨h3, h3'⟩
  · go_wp2
    go_ret
    exact ⟨rfl, C5.out⟩
  go_wp2_with (refine wp_loadT (a := t) (b := r) (c := p) (.tmp 15) rfl (by simp [Region.wanted, yielded, h3]) rfl U5.out ?_)
  with_reducible refine (A4.out _).mono ?_
  rintro e' Z6 ⟨rfl, hb⟩
  have C6 := Lib.hid (bstep C5.out C5.out.size hb)
  have T6 := Lib.hid (tB_grow T5.out hb)
  have U6 := Lib.hid (tB_grow U5.out hb)
  clear hb C5 T5 U5
  rcases (show m4 ≤ 0 ∨ (¬ m4 ≤ 0 ∧ 0 < m4) by omega) with h4 | ⟨h4, h4'⟩
  · go_wp2
    go_ret
    exact ⟨rfl, C6.out⟩
  go_wp2_with (refine wp_loadT (a := r) (b := t) (c := q) (.tmp 14) rfl rfl rfl T6.out ?_)
  with_reducible refine (M3.out _).mono ?_
  rintro e' Z7 ⟨rfl, hb⟩
  have C7 := Lib.hid (bstep C6.out C6.out.size hb)
  have U7 := Lib.hid (tB_grow U6.out hb)
  clear hb C6 T6 U6
  go_wp2_with (refine wp_loadT (a := t) (b := r) (c := p) (.tmp 15) rfl rfl rfl U7.out ?_)
  with_reducible refine (M4.out _).mono ?_
  rintro e' Z8 ⟨rfl, hb⟩
  have C8 := Lib.hid (bstep C7.out C7.out.size hb)
  clear hb C7 U7
  have n2 := N2.out
  have n3 := HE.out h1' h2' h3' h4'
  obtain ⟨z, hz⟩ : ∃ z, bits .or .u8 k3 k4 = z := ⟨_, rfl⟩
  rw [hz] at n3
  clear h1 h2 h3 h4 h1' h2' h3' h4'
  go_wp2
  go_ret
  exact ⟨by simp, C8.out⟩
end Go.Proofs.Ytgcoggejgolhgaa
