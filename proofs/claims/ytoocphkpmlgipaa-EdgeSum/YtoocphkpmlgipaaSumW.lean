/-
  EdgeSum's walk.
-/
import Derived.Test.YtoocphkpmlgipaaShown
import Derived.Test.YtoocphkpmlgipaaPure
namespace Go.Proofs.Ytoocphkpmlgipaa
open Go.RowKit
attribute [local go_sem ↓] Go.wp_at_zero Go.wp_at_succ

set_option maxRecDepth 100000 in
set_option maxHeartbeats 1000000 in
theorem sum_walk (a b c p : P) (w : World) :
    Calls Try.prog 8 #[.agg #[.int .i64 a.x, .int .i64 a.y, .int .i64 a.z, .int .i64 a.a, .int .i64 a.b, .int .i64 a.c, .int .i64 a.d, .int .i64 b.x, .int .i64 b.y, .int .i64 b.z, .int .i64 b.a, .int .i64 b.b, .int .i64 b.c, .int .i64 b.d, .int .i64 c.x, .int .i64 c.y, .int .i64 c.z, .int .i64 c.a, .int .i64 c.b, .int .i64 c.c, .int .i64 c.d], .agg #[.int .i64 p.x, .int .i64 p.y, .int .i64 p.z, .int .i64 p.a, .int .i64 p.b, .int .i64 p.c, .int .i64 p.d]] w fun e w' => e = .returned (.bool true) ∧ Below w.heap.size w w' := by
  have HS := Lib.hid shown_any
  have HT := Lib.hid (three_any a b c)
  have HP := Lib.hid (small_any p)
  obtain ⟨u1, h1⟩ : ∃ u, smallP a = u := ⟨_, rfl⟩
  obtain ⟨u2, h2⟩ : ∃ u, smallP b = u := ⟨_, rfl⟩
  obtain ⟨u3, h3⟩ : ∃ u, smallP c = u := ⟨_, rfl⟩
  obtain ⟨q, h4⟩ : ∃ u, smallP p = u := ⟨_, rfl⟩
  rw [h1, h2, h3] at HT
  rw [h4] at HP
  have o1 : u1.sm := by rw [← h1]; exact (smallP_ok a).sm
  have o2 : u2.sm := by rw [← h2]; exact (smallP_ok b).sm
  have o3 : u3.sm := by rw [← h3]; exact (smallP_ok c).sm
  have o4 : q.sm := by rw [← h4]; exact (smallP_ok p).sm
  clear h1 h2 h3 h4
  have H1 := Lib.hid (fun w => cross_any u1 u2 q.x q.y o1 o2 o4.x.1 o4.x.2 o4.y.1 o4.y.2 w)
  have H2 := Lib.hid (fun w => cross_any u2 u3 q.x q.y o2 o3 o4.x.1 o4.x.2 o4.y.1 o4.y.2 w)
  have H3 := Lib.hid (fun w => cross_any u3 u1 q.x q.y o3 o1 o4.x.1 o4.x.2 o4.y.1 o4.y.2 w)
  have H4 := Lib.hid (fun w => in_any u1 u2 u3 q.x q.y o1 o2 o3 o4.x.1 o4.x.2 o4.y.1 o4.y.2 w)
  have H5 := Lib.hid (area_any u1 u2 u3 o1 o2 o3)
  have b1 := crs_bd o1 o2 o4.x.1 o4.x.2 o4.y.1 o4.y.2
  have b2 := crs_bd o2 o3 o4.x.1 o4.x.2 o4.y.1 o4.y.2
  have b3 := crs_bd o3 o1 o4.x.1 o4.x.2 o4.y.1 o4.y.2
  have hs := crs_sum u1 u2 u3 q.x q.y
  have HW := Lib.hid (inn_ways u1 u2 u3 q.x q.y)
  clear o1 o2 o3 o4
  generalize crs u1 u2 q.x q.y = m1 at *
  generalize crs u2 u3 q.x q.y = m2 at *
  generalize crs u3 u1 q.x q.y = m3 at *
  generalize inn u1 u2 u3 q.x q.y = r at *
  generalize area u1 u2 u3 = n at *
  obtain ⟨s, hs'⟩ : ∃ s, m1 + m2 = s := ⟨_, rfl⟩
  have v1 : IntKind.i64.wrap (m1 + m2) = s := by rw [IntKind.wrap_i64]; omega
  have v2 : IntKind.i64.wrap (s + m3) = n := by rw [IntKind.wrap_i64]; omega
  clear hs hs' b1 b2 b3
  go_enter Try.func8, Try.ntmps8
  go_wp2_with fail
  with_reducible refine (HS.out _).mono ?_
  rintro e w1 ⟨rfl, hb⟩
  have K1 := Lib.hid (bstep (((Below.refl w.heap.size w).alloc (Nat.le_refl _) _).alloc (by simp) _) (by simp; omega) hb)
  have A1 := Lib.hid (show w1.heap[w.heap.size]? = some (tB a b c) from tB_grow (new_two _ _).1 hb)
  have P1 := Lib.hid (show w1.heap[w.heap.size + 1]? = some (pB p) from pB_grow (new_two _ _).2 hb)
  clear hb
  go_wp2_with (refine wp_loadT _ rfl rfl rfl A1.out ?_)
  with_reducible refine (HT.out _).mono ?_
  rintro e w2 ⟨rfl, hb⟩
  have K2 := Lib.hid (bstep K1.out K1.out.size hb)
  have P2 := Lib.hid (pB_grow P1.out hb)
  clear hb A1 P1
  obtain ⟨c0, c1, c2, c3, c4, c5, c6⟩ := pB_cell P2.out
  have l2 := pB_lt P2.out
  go_wp2_with (refine wp_newT (a := u1) (b := u2) (c := u3) _ rfl rfl rfl rfl rfl rfl rfl rfl ?_)
  with_reducible refine (HP.out _).mono ?_
  rintro e w3 ⟨rfl, hb⟩
  have K3 := Lib.hid (bstep (K2.out.alloc K2.out.size _) (by have := K2.out.size; simp; omega) hb)
  have U3 := Lib.hid (show w3.heap[w2.heap.size]? = some (tB u1 u2 u3) from tB_grow (new_at rfl) hb)
  clear hb c0 c1 c2 c3 c4 c5 c6 l2 P2
  obtain ⟨⟨c0, c1, c2, c3, c4, c5, c6⟩, ⟨c7, c8, c9, c10, c11, c12, c13⟩, ⟨c14, c15, c16, c17, c18, c19, c20⟩⟩ := tB_cell U3.out
  have l3 := tB_lt U3.out
  go_wp2_with fail
  with_reducible refine (H1.out _).mono ?_
  rintro e w4 ⟨rfl, hb⟩
  have K4 := Lib.hid (bstep (K3.out.alloc K3.out.size _) (by have := K3.out.size; simp; omega) hb)
  have U4 := Lib.hid (tB_grow (tB_alloc _ U3.out) hb)
  have Q4 := Lib.hid (show w4.heap[w3.heap.size]? = some (pB q) from pB_grow (new_at rfl) hb)
  clear hb c0 c1 c2 c3 c4 c5 c6 c7 c8 c9 c10 c11 c12 c13 c14 c15 c16 c17 c18 c19 c20 l3 U3
  obtain ⟨⟨c0, c1, c2, c3, c4, c5, c6⟩, ⟨c7, c8, c9, c10, c11, c12, c13⟩, ⟨c14, c15, c16, c17, c18, c19, c20⟩⟩ := tB_cell U4.out
  obtain ⟨d0, d1, d2, d3, d4, d5, d6⟩ := pB_cell Q4.out
  go_wp2_with (refine wp_loadT _ rfl rfl rfl U4.out ?_)
  with_reducible refine (H2.out _).mono ?_
  rintro e w5 ⟨rfl, hb⟩
  have K5 := Lib.hid (bstep K4.out K4.out.size hb)
  have U5 := Lib.hid (tB_grow U4.out hb)
  have Q5 := Lib.hid (pB_grow Q4.out hb)
  clear hb c0 c1 c2 c3 c4 c5 c6 c7 c8 c9 c10 c11 c12 c13 c14 c15 c16 c17 c18 c19 c20 d0 d1 d2 d3 d4 d5 d6 U4 Q4
  obtain ⟨⟨c0, c1, c2, c3, c4, c5, c6⟩, ⟨c7, c8, c9, c10, c11, c12, c13⟩, ⟨c14, c15, c16, c17, c18, c19, c20⟩⟩ := tB_cell U5.out
  obtain ⟨d0, d1, d2, d3, d4, d5, d6⟩ := pB_cell Q5.out
  go_wp2_with (refine wp_loadT _ rfl rfl rfl U5.out ?_)
  with_reducible refine (H3.out _).mono ?_
  rintro e w6 ⟨rfl, hb⟩
  have K6 := Lib.hid (bstep K5.out K5.out.size hb)
  have U6 := Lib.hid (tB_grow U5.out hb)
  have Q6 := Lib.hid (pB_grow Q5.out hb)
  clear hb c0 c1 c2 c3 c4 c5 c6 c7 c8 c9 c10 c11 c12 c13 c14 c15 c16 c17 c18 c19 c20 d0 d1 d2 d3 d4 d5 d6 U5 Q5
  obtain ⟨⟨c0, c1, c2, c3, c4, c5, c6⟩, ⟨c7, c8, c9, c10, c11, c12, c13⟩, ⟨c14, c15, c16, c17, c18, c19, c20⟩⟩ := tB_cell U6.out
  obtain ⟨d0, d1, d2, d3, d4, d5, d6⟩ := pB_cell Q6.out
  go_wp2_with (refine wp_loadT _ rfl rfl rfl U6.out ?_)
  with_reducible refine (H4.out _).mono ?_
  rintro e w7 ⟨rfl, hb⟩
  have K7 := Lib.hid (bstep K6.out K6.out.size hb)
  have U7 := Lib.hid (tB_grow U6.out hb)
  have Q7 := Lib.hid (pB_grow Q6.out hb)
  clear hb c0 c1 c2 c3 c4 c5 c6 c7 c8 c9 c10 c11 c12 c13 c14 c15 c16 c17 c18 c19 c20 d0 d1 d2 d3 d4 d5 d6 U6 Q6
  go_wp2_with (refine wp_loadT _ rfl rfl rfl U7.out ?_)
  with_reducible refine (H5.out _).mono ?_
  rintro e w8 ⟨rfl, hb⟩
  have K8 := Lib.hid (bstep K7.out K7.out.size hb)
  clear hb U7 Q7
  rcases HW.out with ⟨rfl, z1, z2, z3⟩ | ⟨rfl, z1 | ⟨z1, z2⟩ | ⟨z1, z2, z3⟩⟩
  all_goals
    go_wp2
    go_ret
    exact ⟨rfl, K8.out⟩
end Go.Proofs.Ytoocphkpmlgipaa
