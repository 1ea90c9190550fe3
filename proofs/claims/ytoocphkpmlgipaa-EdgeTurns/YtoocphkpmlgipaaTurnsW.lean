/-
  EdgeTurns' walk.
-/
import Derived.Test.YtoocphkpmlgipaaShown
import Derived.Test.YtoocphkpmlgipaaPure4
import Derived.Test.YtoocphkpmlgipaaQuiet
import Derived.Deep.Cut
import Derived.Deep.CutRange
namespace Go.Proofs.Ytoocphkpmlgipaa
open Go.RowKit
attribute [local go_sem ↓] Go.wp_at_zero Go.wp_at_succ

set_option maxRecDepth 100000 in
set_option maxHeartbeats 4000000 in
theorem turns_walk (a b c p : P) (w : World) :
    Calls Try.prog 4 #[.agg #[.int .i64 a.x, .int .i64 a.y, .int .i64 a.z, .int .i64 a.a, .int .i64 a.b, .int .i64 a.c, .int .i64 a.d, .int .i64 b.x, .int .i64 b.y, .int .i64 b.z, .int .i64 b.a, .int .i64 b.b, .int .i64 b.c, .int .i64 b.d, .int .i64 c.x, .int .i64 c.y, .int .i64 c.z, .int .i64 c.a, .int .i64 c.b, .int .i64 c.c, .int .i64 c.d], .agg #[.int .i64 p.x, .int .i64 p.y, .int .i64 p.z, .int .i64 p.a, .int .i64 p.b, .int .i64 p.c, .int .i64 p.d]] w fun e w' => e = .returned (.bool true) ∧ Below w.heap.size w w' := by
  have HS := Lib.hid shown_any
  have HT := Lib.hid (three_any a b c)
  have HP := Lib.hid (small_any p)
  obtain ⟨u1, h1⟩ : ∃ u, smallP a = u := ⟨_, rfl⟩
  obtain ⟨u2, h2⟩ : ∃ u, smallP b = u := ⟨_, rfl⟩
  obtain ⟨u3, h3⟩ : ∃ u, smallP c = u := ⟨_, rfl⟩
  obtain ⟨q, h4⟩ : ∃ u, smallP p = u := ⟨_, rfl⟩
  rw [h1, h2, h3] at HT
  rw [h4] at HP
  have o1 : u1.sm := by rw [← h1]; exact (smallP_ok a).sm
  have o2 : u2.sm := by rw [← h2]; exact (smallP_ok b).sm
  have o3 : u3.sm := by rw [← h3]; exact (smallP_ok c).sm
  have o4 : q.sm := by rw [← h4]; exact (smallP_ok p).sm
  clear h1 h2 h3 h4
  have HX := Lib.hid (turned_any u1 u2 u3 o1 o2 o3)
  have HY := Lib.hid (turned_any u1 u3 u2 o1 o3 o2)
  obtain ⟨h1, h2, h3, h4⟩ := tr_back u1 u2 u3
  rw [h1, h2, h3, h4] at HY
  clear h1 h2 h3 h4
  obtain ⟨y1, y2, y3⟩ := tr_sm o1 o2 o3
  have W := turns_ways u1 u2 u3 q.x q.y
  obtain ⟨x1, h1⟩ : ∃ u, tr1 u1 u2 u3 = u := ⟨_, rfl⟩
  obtain ⟨x2, h2⟩ : ∃ u, tr2 u1 u2 u3 = u := ⟨_, rfl⟩
  obtain ⟨x3, h3⟩ : ∃ u, tr3 u1 u2 u3 = u := ⟨_, rfl⟩
  rw [h1] at y1
  rw [h2] at y2
  rw [h3] at y3
  rw [h1, h2, h3] at HX HY W
  clear h1 h2 h3
  have A1 := Lib.hid (area_any u1 u2 u3 o1 o2 o3)
  have A2 := Lib.hid (area_any u2 u3 u1 o2 o3 o1)
  have A3 := Lib.hid (area_any u1 u3 u2 o1 o3 o2)
  have A4 := Lib.hid (area_any x1 x2 x3 y1 y2 y3)
  rw [area_next] at A2
  rw [area_back] at A3
  have I1 := Lib.hid (fun w => in_any u2 u3 u1 q.x q.y o2 o3 o1 o4.x.1 o4.x.2 o4.y.1 o4.y.2 w)
  rw [inn_next] at I1
  have I2 := Lib.hid (fun w => in_any u1 u2 u3 q.x q.y o1 o2 o3 o4.x.1 o4.x.2 o4.y.1 o4.y.2 w)
  have I3 := Lib.hid (fun w => in_any x1 x2 x3 q.x q.y y1 y2 y3 o4.x.1 o4.x.2 o4.y.1 o4.y.2 w)
  have bd := crs_bd o1 o2 o3.x.1 o3.x.2 o3.y.1 o3.y.2
  change -34359738368 ≤ area u1 u2 u3 ∧ area u1 u2 u3 ≤ 34359738368 at bd
  clear o1 o2 o3 o4 y1 y2 y3
  generalize trO u1 u2 u3 = ok at *
  generalize area u1 u2 u3 = m at *
  generalize area x1 x2 x3 = k at *
  generalize inn u1 u2 u3 q.x q.y = r at *
  generalize inn x1 x2 x3 q.x q.y = s at *
  have HW := Lib.hid W
  have em : IntKind.i64.wrap (-m) = -m := by rw [IntKind.wrap_i64]; omega
  clear W bd
  go_enter Try.func4, Try.ntmps4
  go_wp2_with fail
  with_reducible refine (HS.out _).mono ?_
  rintro e w1 ⟨rfl, hb⟩
  have K1 := Lib.hid (bstep (((Below.refl w.heap.size w).alloc (Nat.le_refl _) _).alloc (by simp) _) (by simp; omega) hb)
  have AA1 := Lib.hid (show w1.heap[w.heap.size]? = some (tB a b c) from tB_grow (new_two _ _).1 hb)
  have P1 := Lib.hid (show w1.heap[w.heap.size + 1]? = some (pB p) from pB_grow (new_two _ _).2 hb)
  clear hb
  go_wp2_with (refine wp_loadT _ rfl rfl rfl AA1.out ?_)
  with_reducible refine (HT.out _).mono ?_
  rintro e w2 ⟨rfl, hb⟩
  have K2 := Lib.hid (bstep K1.out K1.out.size hb)
  have P2 := Lib.hid (pB_grow P1.out hb)
  clear hb AA1 P1 K1
  obtain ⟨c0, c1, c2, c3, c4, c5, c6⟩ := pB_cell P2.out
  have l2 := pB_lt P2.out
  go_wp2_with (refine wp_newT (a := u1) (b := u2) (c := u3) _ rfl rfl rfl rfl rfl rfl rfl rfl ?_)
  with_reducible refine (HP.out _).mono ?_
  rintro e w3 ⟨rfl, hb⟩
  have K3 := Lib.hid (bstep (K2.out.alloc K2.out.size _) (by have := K2.out.size; simp; omega) hb)
  have U3 := Lib.hid (show w3.heap[w2.heap.size]? = some (tB u1 u2 u3) from tB_grow (new_at rfl) hb)
  clear hb c0 c1 c2 c3 c4 c5 c6 l2 P2 K2 HS HT HP
  obtain ⟨⟨c0, c1, c2, c3, c4, c5, c6⟩, ⟨c7, c8, c9, c10, c11, c12, c13⟩, ⟨c14, c15, c16, c17, c18, c19, c20⟩⟩ := tB_cell U3.out
  have l3 := tB_lt U3.out
  go_upto_region 5 with (first | (refine wp_buildT (a := u2) (b := u3) (c := u1) _ _ _ rfl rfl rfl rfl rfl ?_) | (refine wp_newT (a := u2) (b := u3) (c := u1) _ rfl rfl rfl rfl rfl rfl rfl rfl ?_))
  obtain ⟨V, hV⟩ : ∃ X, X = (w3.alloc (Obj.cells #[.int .i64 q.x, .int .i64 q.y, .int .i64 q.z, .int .i64 q.a, .int .i64 q.b, .int .i64 q.c, .int .i64 q.d] 24)).alloc (Obj.cells #[.int .i64 u2.x, .int .i64 u2.y, .int .i64 u2.z, .int .i64 u2.a, .int .i64 u2.b, .int .i64 u2.c, .int .i64 u2.d, .int .i64 u3.x, .int .i64 u3.y, .int .i64 u3.z, .int .i64 u3.a, .int .i64 u3.b, .int .i64 u3.c, .int .i64 u3.d, .int .i64 u1.x, .int .i64 u1.y, .int .i64 u1.z, .int .i64 u1.a, .int .i64 u1.b, .int .i64 u1.c, .int .i64 u1.d] 25) := ⟨_, rfl⟩
  rw [← hV]
  have sV : V.heap.size = w3.heap.size + 1 + 1 := by rw [hV]; simp
  have KV := Lib.hid (show Below w.heap.size w V by rw [hV]; exact (K3.out.alloc K3.out.size _).alloc (by have := K3.out.size; simp; omega) _)
  have UV := Lib.hid (show V.heap[w2.heap.size]? = some (tB u1 u2 u3) by rw [hV]; exact tB_alloc _ (tB_alloc _ U3.out))
  have QV := Lib.hid (show V.heap[w3.heap.size]? = some (pB q) by rw [hV]; exact (new_two _ _).1)
  have NV := Lib.hid (show V.heap[w3.heap.size + 1]? = some (tB u2 u3 u1) by rw [hV]; exact (new_two _ _).2)
  clear hV K3 U3 c0 c1 c2 c3 c4 c5 c6 c7 c8 c9 c10 c11 c12 c13 c14 c15 c16 c17 c18 c19 c20 l3
  have SV := Lib.hid sV
  clear sV
  obtain ⟨⟨c0, c1, c2, c3, c4, c5, c6⟩, ⟨c7, c8, c9, c10, c11, c12, c13⟩, ⟨c14, c15, c16, c17, c18, c19, c20⟩⟩ := tB_cell UV.out
  have l3 := tB_lt UV.out
  go_wp2_with (first | (refine wp_buildT (a := u1) (b := u3) (c := u2) _ _ _ rfl rfl rfl rfl rfl ?_) | (refine wp_newT (a := u1) (b := u3) (c := u2) _ rfl rfl rfl rfl rfl rfl rfl rfl ?_) | (refine wp_loadT (.tmp 6) rfl rfl rfl (tB_alloc _ UV.out) ?_))
  with_reducible refine (A1.out _).mono ?_
  rintro e w4 ⟨rfl, hb⟩
  have K4 := Lib.hid (bstep (KV.out.alloc KV.out.size _) (by have := KV.out.size; simp; omega) hb)
  have U4 := Lib.hid (tB_grow (tB_alloc _ UV.out) hb)
  have Q4 := Lib.hid (pB_grow (pB_alloc _ QV.out) hb)
  have N4 := Lib.hid (tB_grow (tB_alloc _ NV.out) hb)
  have B4 := Lib.hid (show w4.heap[V.heap.size]? = some (tB u1 u3 u2) from tB_grow (new_at rfl) hb)
  clear hb c0 c1 c2 c3 c4 c5 c6 c7 c8 c9 c10 c11 c12 c13 c14 c15 c16 c17 c18 c19 c20 l3 KV UV QV NV SV A1
  go_wp2_with (refine wp_loadT (.tmp 6) rfl rfl rfl U4.out ?_)
  with_reducible refine (HX.out _).mono ?_
  rintro e w5 ⟨rfl, hb⟩
  have K5 := Lib.hid (bstep K4.out K4.out.size hb)
  have U5 := Lib.hid (tB_grow U4.out hb)
  have Q5 := Lib.hid (pB_grow Q4.out hb)
  have N5 := Lib.hid (tB_grow N4.out hb)
  have B5 := Lib.hid (tB_grow B4.out hb)
  clear hb K4 U4 Q4 N4 B4
  go_wp2_with (first | (refine wp_newT (a := x1) (b := x2) (c := x3) _ rfl rfl rfl rfl rfl rfl rfl rfl ?_) | (refine wp_loadT (.tmp 9) rfl rfl rfl (tB_alloc _ B5.out) ?_))
  with_reducible refine (HY.out _).mono ?_
  rintro e w6 ⟨rfl, hb⟩
  have K6 := Lib.hid (bstep (K5.out.alloc K5.out.size _) (by have := K5.out.size; simp; omega) hb)
  have U6 := Lib.hid (tB_grow (tB_alloc _ U5.out) hb)
  have Q6 := Lib.hid (pB_grow (pB_alloc _ Q5.out) hb)
  have N6 := Lib.hid (tB_grow (tB_alloc _ N5.out) hb)
  have B6 := Lib.hid (tB_grow (tB_alloc _ B5.out) hb)
  have X6 := Lib.hid (show w6.heap[w5.heap.size]? = some (tB x1 x2 x3) from tB_grow (new_at rfl) hb)
  clear hb K5 U5 Q5 N5 B5
  go_upto_region 9 with (refine wp_newT (a := x1) (b := x2) (c := x3) _ rfl rfl rfl rfl rfl rfl rfl rfl ?_)
  obtain ⟨Z, hZ⟩ : ∃ X, X = w6.alloc (Obj.cells #[.int .i64 x1.x, .int .i64 x1.y, .int .i64 x1.z, .int .i64 x1.a, .int .i64 x1.b, .int .i64 x1.c, .int .i64 x1.d, .int .i64 x2.x, .int .i64 x2.y, .int .i64 x2.z, .int .i64 x2.a, .int .i64 x2.b, .int .i64 x2.c, .int .i64 x2.d, .int .i64 x3.x, .int .i64 x3.y, .int .i64 x3.z, .int .i64 x3.a, .int .i64 x3.b, .int .i64 x3.c, .int .i64 x3.d] 25) := ⟨_, rfl⟩
  rw [← hZ]
  have KZ := Lib.hid (show Below w.heap.size w Z by rw [hZ]; exact K6.out.alloc K6.out.size _)
  have UZ := Lib.hid (show Z.heap[w2.heap.size]? = some (tB u1 u2 u3) by rw [hZ]; exact tB_alloc _ U6.out)
  have QZ := Lib.hid (show Z.heap[w3.heap.size]? = some (pB q) by rw [hZ]; exact pB_alloc _ Q6.out)
  have NZ := Lib.hid (show Z.heap[w3.heap.size + 1]? = some (tB u2 u3 u1) by rw [hZ]; exact tB_alloc _ N6.out)
  have BZ := Lib.hid (show Z.heap[V.heap.size]? = some (tB u1 u3 u2) by rw [hZ]; exact tB_alloc _ B6.out)
  have XZ := Lib.hid (show Z.heap[w5.heap.size]? = some (tB x1 x2 x3) by rw [hZ]; exact tB_alloc _ X6.out)
  have YZ := Lib.hid (show Z.heap[w6.heap.size]? = some (tB x1 x2 x3) by rw [hZ]; exact new_at rfl)
  clear hZ K6 U6 Q6 N6 B6 X6 HX HY
  go_cut [79] from 46 to 79 (fun s wc => s = .bool false ∧ Below Z.heap.size Z wc)
  case first =>
    go_wp2_with (refine wp_loadT (.tmp 8) rfl rfl rfl NZ.out ?_)
    with_reducible refine (A2.out _).mono ?_
    rintro e Z1 ⟨rfl, hb⟩
    have L1 := Lib.hid hb
    have B1 := Lib.hid (tB_grow BZ.out hb)
    have X1 := Lib.hid (tB_grow XZ.out hb)
    clear hb
    go_wp2_with (refine wp_loadT (.tmp 9) rfl rfl rfl B1.out ?_)
    with_reducible refine (A3.out _).mono ?_
    rintro e Z2 ⟨rfl, hb⟩
    have L2 := Lib.hid (bstep L1.out L1.out.size hb)
    have X2 := Lib.hid (tB_grow X1.out hb)
    clear hb B1 X1 L1
    rcases HW.out with ⟨rfl, rfl, -⟩ | ⟨⟨z1, z2⟩, rfl, rfl⟩ | ⟨⟨z1, z2⟩, rfl, rfl, -⟩
    · go_wp2
      go_meet
      case rel => exact ⟨by simp, L2.out⟩
    · have z3 : ¬ k < -k := by omega
      go_wp2_with (refine wp_loadT (.tmp 11) rfl rfl rfl X2.out ?_)
      with_reducible refine (A4.out _).mono ?_
      rintro e Z3 ⟨rfl, hb⟩
      have L3 := Lib.hid (bstep L2.out L2.out.size hb)
      clear hb X2 L2
      go_wp2
      go_meet
      case rel => exact ⟨by simp; omega, L3.out⟩
    · have z3 : m < -m := by omega
      go_wp2_with (refine wp_loadT (.tmp 11) rfl rfl rfl X2.out ?_)
      with_reducible refine (A4.out _).mono ?_
      rintro e Z3 ⟨rfl, hb⟩
      have L3 := Lib.hid (bstep L2.out L2.out.size hb)
      clear hb X2 L2
      go_wp2
      go_meet
      case rel => exact ⟨by simp; omega, L3.out⟩
  obtain ⟨rfl, hb⟩ := hcut
  have KY := Lib.hid (bstep KZ.out KZ.out.size hb)
  have UY := Lib.hid (tB_grow UZ.out hb)
  have QY := Lib.hid (pB_grow QZ.out hb)
  have NY := Lib.hid (tB_grow NZ.out hb)
  have XY := Lib.hid (tB_grow XZ.out hb)
  have YY := Lib.hid (tB_grow YZ.out hb)
  clear hb KZ UZ QZ NZ BZ XZ YZ A2 A3 A4
  rename World => Y
  go_wp2
  have g2 := fun x : Grow Y => pB_cell (pB_grow QY.out x.below)
  have ne1 := Grow.ne Y
  have HM := Lib.hid (show 0 < m ∨ (¬ 0 < m ∧ r = false) by
    rcases HW.out with ⟨h, -, h'⟩ | ⟨⟨h, -⟩, -⟩ | ⟨⟨h, -⟩, -, -, h'⟩
    · exact .inr ⟨by omega, h'⟩
    · exact .inl h
    · exact .inr ⟨by omega, h'⟩)
  clear HW
  try simp only [List.append]
  rcases HM.out with z | ⟨z, rfl⟩
  all_goals
    refine wp_region_grow (by kernel_rfl) (by kernel_rfl) ?_
    repeat (first | go_big_quiet_skip | (refine quiet_loadT (.tmp 6) rfl rfl rfl UY.out ?_; simp only [Act.put, List.setIfInBounds_toArray, List.set_cons_zero, List.set_cons_succ]) | (refine quiet_loadT (.tmp 8) rfl rfl rfl NY.out ?_; simp only [Act.put, List.setIfInBounds_toArray, List.set_cons_zero, List.set_cons_succ]) | (refine quiet_loadT (.tmp 11) rfl rfl rfl XY.out ?_; simp only [Act.put, List.setIfInBounds_toArray, List.set_cons_zero, List.set_cons_succ]) | (refine quiet_loadT (.tmp 13) rfl rfl rfl YY.out ?_; simp only [Act.put, List.setIfInBounds_toArray, List.set_cons_zero, List.set_cons_succ]) | (go_big_quiet_step (with_reducible first | exact Grow.calls (I1.out _) | exact Grow.calls (I2.out _) | exact Grow.calls (I3.out _))))
    refine wpQuiet_nil ?_
    rintro _ ⟨x, rfl⟩
    go_wp2
    go_ret
    exact ⟨by simp, bstep KY.out KY.out.size x.below⟩
end Go.Proofs.Ytoocphkpmlgipaa
