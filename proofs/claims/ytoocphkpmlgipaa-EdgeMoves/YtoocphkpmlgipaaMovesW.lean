/-
  EdgeMoves' walk.
-/
import Derived.Test.YtoocphkpmlgipaaShown
import Derived.Test.YtoocphkpmlgipaaPure
import Derived.Test.YtoocphkpmlgipaaQuiet
namespace Go.Proofs.Ytoocphkpmlgipaa
open Go.RowKit
attribute [local go_sem ↓] Go.wp_at_zero Go.wp_at_succ

theorem tB_one {w : World} {g : Nat} {a b c a' b' c' : P} (i : Nat) (n : Int) (h : w.heap[g]? = some (tB a b c)) (he : (.cells ((#[.int .i64 a.x, .int .i64 a.y, .int .i64 a.z, .int .i64 a.a, .int .i64 a.b, .int .i64 a.c, .int .i64 a.d, .int .i64 b.x, .int .i64 b.y, .int .i64 b.z, .int .i64 b.a, .int .i64 b.b, .int .i64 b.c, .int .i64 b.d, .int .i64 c.x, .int .i64 c.y, .int .i64 c.z, .int .i64 c.a, .int .i64 c.b, .int .i64 c.c, .int .i64 c.d] : Array Value).setIfInBounds i (.int .i64 n)) 25 (0, 0) : Obj) = tB a' b' c') : (w.setCell ⟨g, i, none⟩ (.int .i64 n)).heap[g]? = some (tB a' b' c') :=
  (heap_setCell_same w g i _ 25 (.int .i64 n) h).trans (congrArg some he)
theorem tB_oth {w : World} {g k i : Nat} {v : Value} {a b c : P} (h : w.heap[k]? = some (tB a b c)) (hk : k ≠ g) : (w.setCell ⟨g, i, none⟩ v).heap[k]? = some (tB a b c) := by
  rw [heap_setCell_other _ _ _ _ (by simpa using hk)]; exact h
theorem pB_oth {w : World} {g k i : Nat} {v : Value} {a : P} (h : w.heap[k]? = some (pB a)) (hk : k ≠ g) : (w.setCell ⟨g, i, none⟩ v).heap[k]? = some (pB a) := by
  rw [heap_setCell_other _ _ _ _ (by simpa using hk)]; exact h

set_option maxRecDepth 100000 in
set_option maxHeartbeats 2000000 in
theorem moves_walk (a b c p by_ : P) (w : World) :
    Calls Try.prog 7 #[.agg #[.int .i64 a.x, .int .i64 a.y, .int .i64 a.z, .int .i64 a.a, .int .i64 a.b, .int .i64 a.c, .int .i64 a.d, .int .i64 b.x, .int .i64 b.y, .int .i64 b.z, .int .i64 b.a, .int .i64 b.b, .int .i64 b.c, .int .i64 b.d, .int .i64 c.x, .int .i64 c.y, .int .i64 c.z, .int .i64 c.a, .int .i64 c.b, .int .i64 c.c, .int .i64 c.d], .agg #[.int .i64 p.x, .int .i64 p.y, .int .i64 p.z, .int .i64 p.a, .int .i64 p.b, .int .i64 p.c, .int .i64 p.d], .agg #[.int .i64 by_.x, .int .i64 by_.y, .int .i64 by_.z, .int .i64 by_.a, .int .i64 by_.b, .int .i64 by_.c, .int .i64 by_.d]] w fun e w' => e = .returned (.bool true) ∧ Below w.heap.size w w' := by
  have HS := Lib.hid shown_any
  have HT := Lib.hid (three_any a b c)
  have HP := Lib.hid (small_any p)
  have HD := Lib.hid (small_any by_)
  obtain ⟨u1, h1⟩ : ∃ u, smallP a = u := ⟨_, rfl⟩
  obtain ⟨u2, h2⟩ : ∃ u, smallP b = u := ⟨_, rfl⟩
  obtain ⟨u3, h3⟩ : ∃ u, smallP c = u := ⟨_, rfl⟩
  obtain ⟨q, h4⟩ : ∃ u, smallP p = u := ⟨_, rfl⟩
  obtain ⟨d, h5⟩ : ∃ u, smallP by_ = u := ⟨_, rfl⟩
  rw [h1, h2, h3] at HT
  rw [h4] at HP
  rw [h5] at HD
  have o1 : u1.ok := by rw [← h1]; exact smallP_ok a
  have o2 : u2.ok := by rw [← h2]; exact smallP_ok b
  have o3 : u3.ok := by rw [← h3]; exact smallP_ok c
  have o4 : q.ok := by rw [← h4]; exact smallP_ok p
  have o5 : d.ok := by rw [← h5]; exact smallP_ok by_
  clear h1 h2 h3 h4 h5
  have f1 := area_mv u1 u2 u3 d
  have f2 := inn_mv u1 u2 u3 d q.x q.y
  have f3 := crs_back u1 u2 q.x q.y
  have f4 := fst_mv u1 u2 d
  have n1 := mv_sm o1 o5
  have n2 := mv_sm o2 o5
  have n3 := mv_sm o3 o5
  have n4 := mv_sm o4 o5
  have G1 := Lib.hid (show mv u1 d = ⟨(mv u1 d).x, (mv u1 d).y, u1.z, u1.a, u1.b, u1.c, u1.d⟩ from rfl)
  have G2 := Lib.hid (show mv u2 d = ⟨(mv u2 d).x, (mv u2 d).y, u2.z, u2.a, u2.b, u2.c, u2.d⟩ from rfl)
  have G3 := Lib.hid (show mv u3 d = ⟨(mv u3 d).x, (mv u3 d).y, u3.z, u3.a, u3.b, u3.c, u3.d⟩ from rfl)
  have e1x : IntKind.i64.wrap (u1.x + d.x) = (mv u1 d).x := by
    obtain ⟨⟨z1, z2⟩, ⟨z3, z4⟩⟩ := o1
    obtain ⟨⟨z5, z6⟩, ⟨z7, z8⟩⟩ := o5
    rw [IntKind.wrap_i64]; simp only [mv]; omega
  have e1y : IntKind.i64.wrap (u1.y + d.y) = (mv u1 d).y := by
    obtain ⟨⟨z1, z2⟩, ⟨z3, z4⟩⟩ := o1
    obtain ⟨⟨z5, z6⟩, ⟨z7, z8⟩⟩ := o5
    rw [IntKind.wrap_i64]; simp only [mv]; omega
  have e2x : IntKind.i64.wrap (u2.x + d.x) = (mv u2 d).x := by
    obtain ⟨⟨z1, z2⟩, ⟨z3, z4⟩⟩ := o2
    obtain ⟨⟨z5, z6⟩, ⟨z7, z8⟩⟩ := o5
    rw [IntKind.wrap_i64]; simp only [mv]; omega
  have e2y : IntKind.i64.wrap (u2.y + d.y) = (mv u2 d).y := by
    obtain ⟨⟨z1, z2⟩, ⟨z3, z4⟩⟩ := o2
    obtain ⟨⟨z5, z6⟩, ⟨z7, z8⟩⟩ := o5
    rw [IntKind.wrap_i64]; simp only [mv]; omega
  have e3x : IntKind.i64.wrap (u3.x + d.x) = (mv u3 d).x := by
    obtain ⟨⟨z1, z2⟩, ⟨z3, z4⟩⟩ := o3
    obtain ⟨⟨z5, z6⟩, ⟨z7, z8⟩⟩ := o5
    rw [IntKind.wrap_i64]; simp only [mv]; omega
  have e3y : IntKind.i64.wrap (u3.y + d.y) = (mv u3 d).y := by
    obtain ⟨⟨z1, z2⟩, ⟨z3, z4⟩⟩ := o3
    obtain ⟨⟨z5, z6⟩, ⟨z7, z8⟩⟩ := o5
    rw [IntKind.wrap_i64]; simp only [mv]; omega
  have e4x : IntKind.i64.wrap (q.x + d.x) = (mv q d).x := by
    obtain ⟨⟨z1, z2⟩, ⟨z3, z4⟩⟩ := o4
    obtain ⟨⟨z5, z6⟩, ⟨z7, z8⟩⟩ := o5
    rw [IntKind.wrap_i64]; simp only [mv]; omega
  have e4y : IntKind.i64.wrap (q.y + d.y) = (mv q d).y := by
    obtain ⟨⟨z1, z2⟩, ⟨z3, z4⟩⟩ := o4
    obtain ⟨⟨z5, z6⟩, ⟨z7, z8⟩⟩ := o5
    rw [IntKind.wrap_i64]; simp only [mv]; omega
  change inn (mv u1 d) (mv u2 d) (mv u3 d) (mv q d).x (mv q d).y = inn u1 u2 u3 q.x q.y at f2
  generalize mv u1 d = M1 at *
  generalize mv u2 d = M2 at *
  generalize mv u3 d = M3 at *
  generalize mv q d = Q at *
  have A1 := Lib.hid (area_any M1 M2 M3 n1 n2 n3)
  have A2 := Lib.hid (area_any u1 u2 u3 o1.sm o2.sm o3.sm)
  have I1 := Lib.hid (fun w => in_any M1 M2 M3 Q.x Q.y n1 n2 n3 n4.x.1 n4.x.2 n4.y.1 n4.y.2 w)
  have I2 := Lib.hid (fun w => in_any u1 u2 u3 q.x q.y o1.sm o2.sm o3.sm o4.sm.x.1 o4.sm.x.2 o4.sm.y.1 o4.sm.y.2 w)
  have C1 := Lib.hid (fun w => cross_any u2 u1 q.x q.y o2.sm o1.sm o4.sm.x.1 o4.sm.x.2 o4.sm.y.1 o4.sm.y.2 w)
  have C2 := Lib.hid (fun w => cross_any u1 u2 q.x q.y o1.sm o2.sm o4.sm.x.1 o4.sm.x.2 o4.sm.y.1 o4.sm.y.2 w)
  have F1 := Lib.hid (first_any M1 M2)
  have F2 := Lib.hid (first_any u1 u2)
  have b1 := crs_bd o1.sm o2.sm o4.sm.x.1 o4.sm.x.2 o4.sm.y.1 o4.sm.y.2
  rw [f1] at A1
  rw [f2] at I1
  rw [f4] at F1
  rw [f3] at C1
  clear f1 f2 f3 f4 n1 n2 n3 n4 o1 o2 o3 o4 o5
  generalize area u1 u2 u3 = m at *
  generalize inn u1 u2 u3 q.x q.y = r at *
  generalize fst u1 u2 = f at *
  generalize crs u1 u2 q.x q.y = k at *
  have e5 : IntKind.i64.wrap (-k) = -k := by rw [IntKind.wrap_i64]; omega
  have v1 : IntKind.i64.wrap 1 = 1 := by decide
  have v2 : IntKind.i64.wrap 2 = 2 := by decide
  have v3 : IntKind.i64.wrap 3 = 3 := by decide
  clear b1
  go_enter Try.func7, Try.ntmps7
  go_wp2_with fail
  with_reducible refine (HS.out _).mono ?_
  rintro e w1 ⟨rfl, hb⟩
  have K1 := Lib.hid (bstep ((((Below.refl w.heap.size w).alloc (Nat.le_refl _) _).alloc (by simp) _).alloc (by simp; omega) _) (by simp; omega) hb)
  have T1 := Lib.hid (show w1.heap[w.heap.size]? = some (tB a b c) from tB_grow (tB_alloc _ (new_two _ _).1) hb)
  have P1 := Lib.hid (show w1.heap[w.heap.size + 1]? = some (pB p) from pB_grow (pB_alloc _ (new_two _ _).2) hb)
  have D1 := Lib.hid (show w1.heap[w.heap.size + 2]? = some (pB by_) from pB_grow (new_at (by simp)) hb)
  clear hb
  go_wp2_with (refine wp_loadT _ rfl rfl rfl T1.out ?_)
  with_reducible refine (HT.out _).mono ?_
  rintro e w2 ⟨rfl, hb⟩
  have K2 := Lib.hid (bstep K1.out K1.out.size hb)
  have P2 := Lib.hid (pB_grow P1.out hb)
  have D2 := Lib.hid (pB_grow D1.out hb)
  clear hb T1 P1 D1
  obtain ⟨c0, c1, c2, c3, c4, c5, c6⟩ := pB_cell P2.out
  have l2 := pB_lt P2.out
  go_wp2_with (refine wp_newT (a := u1) (b := u2) (c := u3) _ rfl rfl rfl rfl rfl rfl rfl rfl ?_)
  with_reducible refine (HP.out _).mono ?_
  rintro e w3 ⟨rfl, hb⟩
  have K3 := Lib.hid (bstep (K2.out.alloc K2.out.size _) (by have := K2.out.size; simp; omega) hb)
  have U3 := Lib.hid (show w3.heap[w2.heap.size]? = some (tB u1 u2 u3) from tB_grow (new_at rfl) hb)
  have D3 := Lib.hid (pB_grow (pB_alloc _ D2.out) hb)
  clear hb c0 c1 c2 c3 c4 c5 c6 l2 P2 D2
  obtain ⟨c0, c1, c2, c3, c4, c5, c6⟩ := pB_cell D3.out
  have l3 := pB_lt D3.out
  go_wp2_with fail
  with_reducible refine (HD.out _).mono ?_
  rintro e w4 ⟨rfl, hb⟩
  have K4 := Lib.hid (bstep (K3.out.alloc K3.out.size _) (by have := K3.out.size; simp; omega) hb)
  have U4 := Lib.hid (tB_grow (tB_alloc _ U3.out) hb)
  have Q4 := Lib.hid (show w4.heap[w3.heap.size]? = some (pB q) from pB_grow (new_at rfl) hb)
  clear hb c0 c1 c2 c3 c4 c5 c6 l3 U3 D3
  have l4 := tB_lt U4.out
  have l5 := pB_lt Q4.out
  go_wp2_with (first | (refine wp_loadT _ rfl rfl rfl (tB_alloc _ U4.out) ?_) | (refine wp_newT (a := u1) (b := u2) (c := u3) _ rfl rfl rfl rfl rfl rfl rfl rfl ?_))
  obtain ⟨X, hX⟩ : ∃ X, X = (w4.alloc (Obj.cells #[.int .i64 d.x, .int .i64 d.y, .int .i64 d.z, .int .i64 d.a, .int .i64 d.b, .int .i64 d.c, .int .i64 d.d] 24)).alloc (Obj.cells #[.int .i64 u1.x, .int .i64 u1.y, .int .i64 u1.z, .int .i64 u1.a, .int .i64 u1.b, .int .i64 u1.c, .int .i64 u1.d, .int .i64 u2.x, .int .i64 u2.y, .int .i64 u2.z, .int .i64 u2.a, .int .i64 u2.b, .int .i64 u2.c, .int .i64 u2.d, .int .i64 u3.x, .int .i64 u3.y, .int .i64 u3.z, .int .i64 u3.a, .int .i64 u3.b, .int .i64 u3.c, .int .i64 u3.d] 25) := ⟨_, rfl⟩
  rw [← hX]
  have KX := Lib.hid (show Below w.heap.size w X by rw [hX]; exact (K4.out.alloc K4.out.size _).alloc (by have := K4.out.size; simp; omega) _)
  have UX := Lib.hid (show X.heap[w2.heap.size]? = some (tB u1 u2 u3) by rw [hX]; exact tB_alloc _ (tB_alloc _ U4.out))
  have QX := Lib.hid (show X.heap[w3.heap.size]? = some (pB q) by rw [hX]; exact pB_alloc _ (pB_alloc _ Q4.out))
  have DX := Lib.hid (show X.heap[w4.heap.size]? = some (pB d) by rw [hX]; exact (new_two _ _).1)
  have MX := Lib.hid (show X.heap[w4.heap.size + 1]? = some (tB u1 u2 u3) by rw [hX]; exact (new_two _ _).2)
  have lw := K4.out.size
  clear hX U4 Q4 K4 HS HT HP HD
  refine wp_loop_rounds 4 ?_
  rw [rounds_succ]
  have cu : X.cell? ⟨w2.heap.size, 0, none⟩ = some (.int .i64 u1.x) := (tB_cell UX.out).1.1
  have cd : X.cell? ⟨w4.heap.size, 0, none⟩ = some (.int .i64 d.x) := (pB_cell DX.out).1
  have cm : X.cell? ⟨w4.heap.size + 1, 0, none⟩ = some (.int .i64 u1.x) := (tB_cell MX.out).1.1
  have cf := tB_free MX.out 0
  go_wp2
  go_still_tail 10, (by kernel_rfl)
  change wpList _ _ _ _ _ X.drew
  go_wp2
  obtain ⟨Y1x, hY1x⟩ : ∃ Y, Y = World.drew (X.setCell ⟨w4.heap.size + 1, 0, none⟩ (.int .i64 M1.x)) := ⟨_, rfl⟩
  rw [← hY1x]
  have KY1x := Lib.hid (show Below w.heap.size w Y1x by rw [hY1x]; exact (KX.out.setCell (show w.heap.size ≤ w4.heap.size + 1 by omega) _).drew)
  have UY1x := Lib.hid (show Y1x.heap[w2.heap.size]? = some (tB u1 u2 u3) by rw [hY1x]; exact tB_oth (w := X) UX.out (by omega))
  have QY1x := Lib.hid (show Y1x.heap[w3.heap.size]? = some (pB q) by rw [hY1x]; exact pB_oth (w := X) QX.out (by omega))
  have DY1x := Lib.hid (show Y1x.heap[w4.heap.size]? = some (pB d) by rw [hY1x]; exact pB_oth (w := X) DX.out (by omega))
  have MY1x := Lib.hid (show Y1x.heap[w4.heap.size + 1]? = some (tB (⟨M1.x, u1.y, u1.z, u1.a, u1.b, u1.c, u1.d⟩ : P) u2 u3) by rw [hY1x]; exact tB_one (w := X) 0 _ MX.out (by kernel_rfl))
  clear hY1x cu cd cm cf KX UX QX DX MX
  have cu : Y1x.cell? ⟨w2.heap.size, 1, none⟩ = some (.int .i64 u1.y) := (tB_cell UY1x.out).1.2.1
  have cd : Y1x.cell? ⟨w4.heap.size, 1, none⟩ = some (.int .i64 d.y) := (pB_cell DY1x.out).2.1
  have cm : Y1x.cell? ⟨w4.heap.size + 1, 1, none⟩ = some (.int .i64 u1.y) := (tB_cell MY1x.out).1.2.1
  have cf := tB_free MY1x.out 1
  go_wp2
  go_still_tail 10, (by kernel_rfl)
  change wpList _ _ _ _ _ Y1x.drew
  go_wp2
  obtain ⟨Y1y, hY1y⟩ : ∃ Y, Y = World.drew (Y1x.setCell ⟨w4.heap.size + 1, 1, none⟩ (.int .i64 M1.y)) := ⟨_, rfl⟩
  rw [← hY1y]
  have KY1y := Lib.hid (show Below w.heap.size w Y1y by rw [hY1y]; exact (KY1x.out.setCell (show w.heap.size ≤ w4.heap.size + 1 by omega) _).drew)
  have UY1y := Lib.hid (show Y1y.heap[w2.heap.size]? = some (tB u1 u2 u3) by rw [hY1y]; exact tB_oth (w := Y1x) UY1x.out (by omega))
  have QY1y := Lib.hid (show Y1y.heap[w3.heap.size]? = some (pB q) by rw [hY1y]; exact pB_oth (w := Y1x) QY1x.out (by omega))
  have DY1y := Lib.hid (show Y1y.heap[w4.heap.size]? = some (pB d) by rw [hY1y]; exact pB_oth (w := Y1x) DY1x.out (by omega))
  have MY1y := Lib.hid (show Y1y.heap[w4.heap.size + 1]? = some (tB (⟨M1.x, M1.y, u1.z, u1.a, u1.b, u1.c, u1.d⟩ : P) u2 u3) by rw [hY1y]; exact tB_one (w := Y1x) 1 _ MY1x.out (by kernel_rfl))
  clear hY1y cu cd cm cf KY1x UY1x QY1x DY1x MY1x
  rw [rounds_succ]
  have cu : Y1y.cell? ⟨w2.heap.size, 7, none⟩ = some (.int .i64 u2.x) := (tB_cell UY1y.out).2.1.1
  have cd : Y1y.cell? ⟨w4.heap.size, 0, none⟩ = some (.int .i64 d.x) := (pB_cell DY1y.out).1
  have cm : Y1y.cell? ⟨w4.heap.size + 1, 7, none⟩ = some (.int .i64 u2.x) := (tB_cell MY1y.out).2.1.1
  have cf := tB_free MY1y.out 7
  go_wp2
  go_still_tail 10, (by kernel_rfl)
  change wpList _ _ _ _ _ Y1y.drew
  go_wp2
  obtain ⟨Y2x, hY2x⟩ : ∃ Y, Y = World.drew (Y1y.setCell ⟨w4.heap.size + 1, 7, none⟩ (.int .i64 M2.x)) := ⟨_, rfl⟩
  rw [← hY2x]
  have KY2x := Lib.hid (show Below w.heap.size w Y2x by rw [hY2x]; exact (KY1y.out.setCell (show w.heap.size ≤ w4.heap.size + 1 by omega) _).drew)
  have UY2x := Lib.hid (show Y2x.heap[w2.heap.size]? = some (tB u1 u2 u3) by rw [hY2x]; exact tB_oth (w := Y1y) UY1y.out (by omega))
  have QY2x := Lib.hid (show Y2x.heap[w3.heap.size]? = some (pB q) by rw [hY2x]; exact pB_oth (w := Y1y) QY1y.out (by omega))
  have DY2x := Lib.hid (show Y2x.heap[w4.heap.size]? = some (pB d) by rw [hY2x]; exact pB_oth (w := Y1y) DY1y.out (by omega))
  have MY2x := Lib.hid (show Y2x.heap[w4.heap.size + 1]? = some (tB (⟨M1.x, M1.y, u1.z, u1.a, u1.b, u1.c, u1.d⟩ : P) (⟨M2.x, u2.y, u2.z, u2.a, u2.b, u2.c, u2.d⟩ : P) u3) by rw [hY2x]; exact tB_one (w := Y1y) 7 _ MY1y.out (by kernel_rfl))
  clear hY2x cu cd cm cf KY1y UY1y QY1y DY1y MY1y
  have cu : Y2x.cell? ⟨w2.heap.size, 8, none⟩ = some (.int .i64 u2.y) := (tB_cell UY2x.out).2.1.2.1
  have cd : Y2x.cell? ⟨w4.heap.size, 1, none⟩ = some (.int .i64 d.y) := (pB_cell DY2x.out).2.1
  have cm : Y2x.cell? ⟨w4.heap.size + 1, 8, none⟩ = some (.int .i64 u2.y) := (tB_cell MY2x.out).2.1.2.1
  have cf := tB_free MY2x.out 8
  go_wp2
  go_still_tail 10, (by kernel_rfl)
  change wpList _ _ _ _ _ Y2x.drew
  go_wp2
  obtain ⟨Y2y, hY2y⟩ : ∃ Y, Y = World.drew (Y2x.setCell ⟨w4.heap.size + 1, 8, none⟩ (.int .i64 M2.y)) := ⟨_, rfl⟩
  rw [← hY2y]
  have KY2y := Lib.hid (show Below w.heap.size w Y2y by rw [hY2y]; exact (KY2x.out.setCell (show w.heap.size ≤ w4.heap.size + 1 by omega) _).drew)
  have UY2y := Lib.hid (show Y2y.heap[w2.heap.size]? = some (tB u1 u2 u3) by rw [hY2y]; exact tB_oth (w := Y2x) UY2x.out (by omega))
  have QY2y := Lib.hid (show Y2y.heap[w3.heap.size]? = some (pB q) by rw [hY2y]; exact pB_oth (w := Y2x) QY2x.out (by omega))
  have DY2y := Lib.hid (show Y2y.heap[w4.heap.size]? = some (pB d) by rw [hY2y]; exact pB_oth (w := Y2x) DY2x.out (by omega))
  have MY2y := Lib.hid (show Y2y.heap[w4.heap.size + 1]? = some (tB (⟨M1.x, M1.y, u1.z, u1.a, u1.b, u1.c, u1.d⟩ : P) (⟨M2.x, M2.y, u2.z, u2.a, u2.b, u2.c, u2.d⟩ : P) u3) by rw [hY2y]; exact tB_one (w := Y2x) 8 _ MY2x.out (by kernel_rfl))
  clear hY2y cu cd cm cf KY2x UY2x QY2x DY2x MY2x
  rw [rounds_succ]
  have cu : Y2y.cell? ⟨w2.heap.size, 14, none⟩ = some (.int .i64 u3.x) := (tB_cell UY2y.out).2.2.1
  have cd : Y2y.cell? ⟨w4.heap.size, 0, none⟩ = some (.int .i64 d.x) := (pB_cell DY2y.out).1
  have cm : Y2y.cell? ⟨w4.heap.size + 1, 14, none⟩ = some (.int .i64 u3.x) := (tB_cell MY2y.out).2.2.1
  have cf := tB_free MY2y.out 14
  go_wp2
  go_still_tail 10, (by kernel_rfl)
  change wpList _ _ _ _ _ Y2y.drew
  go_wp2
  obtain ⟨Y3x, hY3x⟩ : ∃ Y, Y = World.drew (Y2y.setCell ⟨w4.heap.size + 1, 14, none⟩ (.int .i64 M3.x)) := ⟨_, rfl⟩
  rw [← hY3x]
  have KY3x := Lib.hid (show Below w.heap.size w Y3x by rw [hY3x]; exact (KY2y.out.setCell (show w.heap.size ≤ w4.heap.size + 1 by omega) _).drew)
  have UY3x := Lib.hid (show Y3x.heap[w2.heap.size]? = some (tB u1 u2 u3) by rw [hY3x]; exact tB_oth (w := Y2y) UY2y.out (by omega))
  have QY3x := Lib.hid (show Y3x.heap[w3.heap.size]? = some (pB q) by rw [hY3x]; exact pB_oth (w := Y2y) QY2y.out (by omega))
  have DY3x := Lib.hid (show Y3x.heap[w4.heap.size]? = some (pB d) by rw [hY3x]; exact pB_oth (w := Y2y) DY2y.out (by omega))
  have MY3x := Lib.hid (show Y3x.heap[w4.heap.size + 1]? = some (tB (⟨M1.x, M1.y, u1.z, u1.a, u1.b, u1.c, u1.d⟩ : P) (⟨M2.x, M2.y, u2.z, u2.a, u2.b, u2.c, u2.d⟩ : P) (⟨M3.x, u3.y, u3.z, u3.a, u3.b, u3.c, u3.d⟩ : P)) by rw [hY3x]; exact tB_one (w := Y2y) 14 _ MY2y.out (by kernel_rfl))
  clear hY3x cu cd cm cf KY2y UY2y QY2y DY2y MY2y
  have cu : Y3x.cell? ⟨w2.heap.size, 15, none⟩ = some (.int .i64 u3.y) := (tB_cell UY3x.out).2.2.2.1
  have cd : Y3x.cell? ⟨w4.heap.size, 1, none⟩ = some (.int .i64 d.y) := (pB_cell DY3x.out).2.1
  have cm : Y3x.cell? ⟨w4.heap.size + 1, 15, none⟩ = some (.int .i64 u3.y) := (tB_cell MY3x.out).2.2.2.1
  have cf := tB_free MY3x.out 15
  go_wp2
  go_still_tail 10, (by kernel_rfl)
  change wpList _ _ _ _ _ Y3x.drew
  go_wp2
  obtain ⟨Y3y, hY3y⟩ : ∃ Y, Y = World.drew (Y3x.setCell ⟨w4.heap.size + 1, 15, none⟩ (.int .i64 M3.y)) := ⟨_, rfl⟩
  rw [← hY3y]
  have KY3y := Lib.hid (show Below w.heap.size w Y3y by rw [hY3y]; exact (KY3x.out.setCell (show w.heap.size ≤ w4.heap.size + 1 by omega) _).drew)
  have UY3y := Lib.hid (show Y3y.heap[w2.heap.size]? = some (tB u1 u2 u3) by rw [hY3y]; exact tB_oth (w := Y3x) UY3x.out (by omega))
  have QY3y := Lib.hid (show Y3y.heap[w3.heap.size]? = some (pB q) by rw [hY3y]; exact pB_oth (w := Y3x) QY3x.out (by omega))
  have DY3y := Lib.hid (show Y3y.heap[w4.heap.size]? = some (pB d) by rw [hY3y]; exact pB_oth (w := Y3x) DY3x.out (by omega))
  have MY3y := Lib.hid (show Y3y.heap[w4.heap.size + 1]? = some (tB (⟨M1.x, M1.y, u1.z, u1.a, u1.b, u1.c, u1.d⟩ : P) (⟨M2.x, M2.y, u2.z, u2.a, u2.b, u2.c, u2.d⟩ : P) (⟨M3.x, M3.y, u3.z, u3.a, u3.b, u3.c, u3.d⟩ : P)) by rw [hY3y]; exact tB_one (w := Y3x) 15 _ MY3x.out (by kernel_rfl))
  clear hY3y cu cd cm cf KY3x UY3x QY3x DY3x MY3x
  rw [← G1.out, ← G2.out, ← G3.out] at MY3y
  rw [rounds_succ]
  go_wp2
  have g1 := fun x : Grow Y3y => tB_cell (tB_grow UY3y.out x.below)
  have g2 := fun x : Grow Y3y => tB_cell (tB_grow MY3y.out x.below)
  have g3 := fun x : Grow Y3y => pB_cell (pB_grow QY3y.out x.below)
  have g4 := fun x : Grow Y3y => pB_cell (pB_grow DY3y.out x.below)
  have ne1 := Grow.ne Y3y
  simp only [List.append]
  refine wp_region_grow (by kernel_rfl) (by kernel_rfl) ?_
  repeat (first | (refine quiet_loadT _ rfl rfl rfl UY3y.out ?_; simp only [Act.put, List.setIfInBounds_toArray, List.set_cons_zero, List.set_cons_succ]) | (refine quiet_loadT _ rfl rfl rfl MY3y.out ?_; simp only [Act.put, List.setIfInBounds_toArray, List.set_cons_zero, List.set_cons_succ]) | (go_big_quiet_step (with_reducible first | exact Grow.calls (A1.out _) | exact Grow.calls (A2.out _) | exact Grow.calls (I1.out _) | exact Grow.calls (I2.out _) | exact Grow.calls (C1.out _) | exact Grow.calls (C2.out _) | exact Grow.calls (F1.out _) | exact Grow.calls (F2.out _))))
  refine wpQuiet_nil ?_
  rintro _ ⟨x, rfl⟩
  go_wp2
  go_ret
  exact ⟨by simp, bstep KY3y.out KY3y.out.size x.below⟩
end Go.Proofs.Ytoocphkpmlgipaa
