/-
  EdgeAll's walk.
-/
import Derived.Test.YtoocphkpmlgipaaShown
import Derived.Test.YtoocphkpmlgipaaPure4
import Derived.Test.YtoocphkpmlgipaaRIn
import Derived.Test.YtoocphkpmlgipaaEqT
namespace Go.Proofs.Ytoocphkpmlgipaa
open Go.RowKit
attribute [local go_sem ↓] Go.wp_at_zero Go.wp_at_succ

set_option maxRecDepth 100000 in
set_option maxHeartbeats 4000000 in
theorem all_walk (a b c p : P) (w : World) :
    Calls Try.prog 3 #[.agg #[.int .i64 a.x, .int .i64 a.y, .int .i64 a.z, .int .i64 a.a, .int .i64 a.b, .int .i64 a.c, .int .i64 a.d, .int .i64 b.x, .int .i64 b.y, .int .i64 b.z, .int .i64 b.a, .int .i64 b.b, .int .i64 b.c, .int .i64 b.d, .int .i64 c.x, .int .i64 c.y, .int .i64 c.z, .int .i64 c.a, .int .i64 c.b, .int .i64 c.c, .int .i64 c.d], .agg #[.int .i64 p.x, .int .i64 p.y, .int .i64 p.z, .int .i64 p.a, .int .i64 p.b, .int .i64 p.c, .int .i64 p.d]] w fun e w' => e = .returned (.bool true) ∧ Below w.heap.size w w' := by
  have HS := Lib.hid shown_any
  have HT := Lib.hid (three_any a b c)
  have HP := Lib.hid (small_any p)
  obtain ⟨u1, h1⟩ : ∃ u, smallP a = u := ⟨_, rfl⟩
  obtain ⟨u2, h2⟩ : ∃ u, smallP b = u := ⟨_, rfl⟩
  obtain ⟨u3, h3⟩ : ∃ u, smallP c = u := ⟨_, rfl⟩
  obtain ⟨q, h4⟩ : ∃ u, smallP p = u := ⟨_, rfl⟩
  rw [h1, h2, h3] at HT
  rw [h4] at HP
  have o1 : u1.sm := by rw [← h1]; exact (smallP_ok a).sm
  have o2 : u2.sm := by rw [← h2]; exact (smallP_ok b).sm
  have o3 : u3.sm := by rw [← h3]; exact (smallP_ok c).sm
  have o4 : q.sm := by rw [← h4]; exact (smallP_ok p).sm
  clear h1 h2 h3 h4
  have HX := Lib.hid (turned_any u1 u2 u3 o1 o2 o3)
  have HY := Lib.hid (rturned_any u1 u2 u3 o1 o2 o3)
  obtain ⟨y1, y2, y3⟩ := tr_sm o1 o2 o3
  obtain ⟨x1, h1⟩ : ∃ u, tr1 u1 u2 u3 = u := ⟨_, rfl⟩
  obtain ⟨x2, h2⟩ : ∃ u, tr2 u1 u2 u3 = u := ⟨_, rfl⟩
  obtain ⟨x3, h3⟩ : ∃ u, tr3 u1 u2 u3 = u := ⟨_, rfl⟩
  rw [h1] at y1
  rw [h2] at y2
  rw [h3] at y3
  rw [h1, h2, h3] at HX HY
  clear h1 h2 h3
  have C1 := Lib.hid (fun w => cross_any u1 u2 q.x q.y o1 o2 o4.x.1 o4.x.2 o4.y.1 o4.y.2 w)
  have C2 := Lib.hid (fun w => rcross_any u1 u2 q.x q.y o1 o2 o4.x.1 o4.x.2 o4.y.1 o4.y.2 w)
  have A1 := Lib.hid (area_any u1 u2 u3 o1 o2 o3)
  have A2 := Lib.hid (rarea_any u1 u2 u3 o1 o2 o3)
  have F1 := Lib.hid (first_any u1 u2)
  have F2 := Lib.hid (rfirst_any u1 u2)
  have I1 := Lib.hid (fun w => in_any u1 u2 u3 q.x q.y o1 o2 o3 o4.x.1 o4.x.2 o4.y.1 o4.y.2 w)
  have I2 := Lib.hid (fun w => rin_any u1 u2 u3 q.x q.y o1 o2 o3 o4.x.1 o4.x.2 o4.y.1 o4.y.2 w)
  have J1 := Lib.hid (fun w => in_any x1 x2 x3 q.x q.y y1 y2 y3 o4.x.1 o4.x.2 o4.y.1 o4.y.2 w)
  have J2 := Lib.hid (fun w => rin_any x1 x2 x3 q.x q.y y1 y2 y3 o4.x.1 o4.x.2 o4.y.1 o4.y.2 w)
  clear o1 o2 o3 o4 y1 y2 y3
  generalize trO u1 u2 u3 = ok at *
  generalize crs u1 u2 q.x q.y = k at *
  generalize area u1 u2 u3 = m at *
  generalize fst u1 u2 = f at *
  generalize inn u1 u2 u3 q.x q.y = r at *
  generalize inn x1 x2 x3 q.x q.y = s at *
  go_enter Try.func3, Try.ntmps3
  go_wp2_with fail
  with_reducible refine (HS.out _).mono ?_
  rintro e w1 ⟨rfl, hb⟩
  have K1 := Lib.hid (bstep (((Below.refl w.heap.size w).alloc (Nat.le_refl _) _).alloc (by simp) _) (by simp; omega) hb)
  have AA1 := Lib.hid (show w1.heap[w.heap.size]? = some (tB a b c) from tB_grow (new_two _ _).1 hb)
  have P1 := Lib.hid (show w1.heap[w.heap.size + 1]? = some (pB p) from pB_grow (new_two _ _).2 hb)
  clear hb
  go_wp2_with (refine wp_loadT _ rfl rfl rfl AA1.out ?_)
  with_reducible refine (HT.out _).mono ?_
  rintro e w2 ⟨rfl, hb⟩
  have K2 := Lib.hid (bstep K1.out K1.out.size hb)
  have P2 := Lib.hid (pB_grow P1.out hb)
  clear hb AA1 P1 K1
  obtain ⟨c0, c1, c2, c3, c4, c5, c6⟩ := pB_cell P2.out
  have l2 := pB_lt P2.out
  go_wp2_with (refine wp_newT (a := u1) (b := u2) (c := u3) _ rfl rfl rfl rfl rfl rfl rfl rfl ?_)
  with_reducible refine (HP.out _).mono ?_
  rintro e w3 ⟨rfl, hb⟩
  have K3 := Lib.hid (bstep (K2.out.alloc K2.out.size _) (by have := K2.out.size; simp; omega) hb)
  have U3 := Lib.hid (show w3.heap[w2.heap.size]? = some (tB u1 u2 u3) from tB_grow (new_at rfl) hb)
  clear hb c0 c1 c2 c3 c4 c5 c6 l2 P2 K2 HS HT HP
  have l3 := tB_lt U3.out
  go_wp2_with (refine wp_loadT _ rfl rfl rfl (tB_alloc _ U3.out) ?_)
  with_reducible refine (HX.out _).mono ?_
  rintro e w4 ⟨rfl, hb⟩
  have K4 := Lib.hid (bstep (K3.out.alloc K3.out.size _) (by have := K3.out.size; simp; omega) hb)
  have U4 := Lib.hid (tB_grow (tB_alloc _ U3.out) hb)
  have Q4 := Lib.hid (show w4.heap[w3.heap.size]? = some (pB q) from pB_grow (new_at rfl) hb)
  clear hb U3 K3 l3
  go_wp2_with (first | (refine wp_newT (a := x1) (b := x2) (c := x3) _ rfl rfl rfl rfl rfl rfl rfl rfl ?_) | (refine wp_loadT _ rfl rfl rfl (tB_alloc _ U4.out) ?_))
  with_reducible refine (HY.out _).mono ?_
  rintro e w5 ⟨rfl, hb⟩
  have K5 := Lib.hid (bstep (K4.out.alloc K4.out.size _) (by have := K4.out.size; simp; omega) hb)
  have U5 := Lib.hid (tB_grow (tB_alloc _ U4.out) hb)
  have Q5 := Lib.hid (pB_grow (pB_alloc _ Q4.out) hb)
  have X5 := Lib.hid (show w5.heap[w4.heap.size]? = some (tB x1 x2 x3) from tB_grow (new_at rfl) hb)
  clear hb U4 Q4 K4
  go_wp2_with (refine wp_newT (a := x1) (b := x2) (c := x3) _ rfl rfl rfl rfl rfl rfl rfl rfl ?_)
  obtain ⟨V, hV⟩ : ∃ X, X = w5.alloc (Obj.cells #[.int .i64 x1.x, .int .i64 x1.y, .int .i64 x1.z, .int .i64 x1.a, .int .i64 x1.b, .int .i64 x1.c, .int .i64 x1.d, .int .i64 x2.x, .int .i64 x2.y, .int .i64 x2.z, .int .i64 x2.a, .int .i64 x2.b, .int .i64 x2.c, .int .i64 x2.d, .int .i64 x3.x, .int .i64 x3.y, .int .i64 x3.z, .int .i64 x3.a, .int .i64 x3.b, .int .i64 x3.c, .int .i64 x3.d] 25) := ⟨_, rfl⟩
  rw [← hV]
  have KV := Lib.hid (show Below w.heap.size w V by rw [hV]; exact K5.out.alloc K5.out.size _)
  have UV := Lib.hid (show V.heap[w2.heap.size]? = some (tB u1 u2 u3) by rw [hV]; exact tB_alloc _ U5.out)
  have QV := Lib.hid (show V.heap[w3.heap.size]? = some (pB q) by rw [hV]; exact pB_alloc _ Q5.out)
  have XV := Lib.hid (show V.heap[w4.heap.size]? = some (tB x1 x2 x3) by rw [hV]; exact tB_alloc _ X5.out)
  have YV := Lib.hid (show V.heap[w5.heap.size]? = some (tB x1 x2 x3) by rw [hV]; exact new_at rfl)
  clear hV K5 U5 Q5 X5 HX HY
  have g1 := fun x : Grow V => tB_cell (tB_grow UV.out x.below)
  have g2 := fun x : Grow V => pB_cell (pB_grow QV.out x.below)
  have ne1 := Grow.ne V
  try simp only [List.append]
  refine wp_region_grow (by kernel_rfl) (by kernel_rfl) ?_
  repeat (first | (refine quiet_loadT _ rfl rfl rfl UV.out ?_; simp only [Act.put, List.setIfInBounds_toArray, List.set_cons_zero, List.set_cons_succ]) | (go_big_quiet_step (with_reducible first | exact Grow.calls (C1.out _) | exact Grow.calls (C2.out _) | exact Grow.calls (A1.out _) | exact Grow.calls (A2.out _) | exact Grow.calls (F1.out _) | exact Grow.calls (F2.out _))))
  refine wpQuiet_nil ?_
  rintro _ ⟨x, rfl⟩
  have KZ := Lib.hid (bstep KV.out KV.out.size x.below)
  have UZ := Lib.hid (tB_grow UV.out x.below)
  have QZ := Lib.hid (pB_grow QV.out x.below)
  have XZ := Lib.hid (tB_grow XV.out x.below)
  have YZ := Lib.hid (tB_grow YV.out x.below)
  generalize x.w = Z at *
  clear g1 g2 ne1 x KV UV QV XV YV C1 C2 A1 A2 F1 F2
  go_wp2
  have g2 := fun x : Grow Z => pB_cell (pB_grow QZ.out x.below)
  have ne1 := Grow.ne Z
  try simp only [List.append]
  refine wp_region_grow (by kernel_rfl) (by kernel_rfl) ?_
  repeat (first | (refine quiet_loadT _ rfl rfl rfl UZ.out ?_; simp only [Act.put, List.setIfInBounds_toArray, List.set_cons_zero, List.set_cons_succ]) | (refine quiet_loadT _ rfl rfl rfl XZ.out ?_; simp only [Act.put, List.setIfInBounds_toArray, List.set_cons_zero, List.set_cons_succ]) | (refine quiet_loadT _ rfl rfl rfl YZ.out ?_; simp only [Act.put, List.setIfInBounds_toArray, List.set_cons_zero, List.set_cons_succ]) | (refine quiet_eqT (a := x1) (b := x2) (c := x3) _ _ rfl rfl rfl rfl ?_; simp only [Act.put, List.setIfInBounds_toArray, List.set_cons_zero, List.set_cons_succ]) | (go_big_quiet_step (with_reducible first | exact Grow.calls (I1.out _) | exact Grow.calls (I2.out _) | exact Grow.calls (J1.out _) | exact Grow.calls (J2.out _))))
  refine wpQuiet_nil ?_
  rintro _ ⟨x, rfl⟩
  go_wp2
  go_ret
  exact ⟨by simp, bstep KZ.out KZ.out.size x.below⟩
end Go.Proofs.Ytoocphkpmlgipaa
