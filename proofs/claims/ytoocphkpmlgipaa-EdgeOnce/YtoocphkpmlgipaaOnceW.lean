/-
  EdgeOnce's walk.
-/
import Derived.Test.YtoocphkpmlgipaaShown
import Derived.Test.YtoocphkpmlgipaaPure3
import Derived.Deep.Cut
import Derived.Deep.CutRange
namespace Go.Proofs.Ytoocphkpmlgipaa
open Go.RowKit
attribute [local go_sem ↓] Go.wp_at_zero Go.wp_at_succ

theorem new_four {w : World} (A B C D : Obj) : ((((w.alloc A).alloc B).alloc C).alloc D).heap[w.heap.size]? = some A ∧ ((((w.alloc A).alloc B).alloc C).alloc D).heap[w.heap.size + 1]? = some B ∧
    ((((w.alloc A).alloc B).alloc C).alloc D).heap[w.heap.size + 2]? = some C ∧ ((((w.alloc A).alloc B).alloc C).alloc D).heap[w.heap.size + 3]? = some D := by
  refine ⟨?_, ?_, ?_, new_at (by simp)⟩
  · rw [Below.heap_alloc _ _ _ (by simp; omega), Below.heap_alloc _ _ _ (by simp; omega)]; exact (new_two _ _).1
  · rw [Below.heap_alloc _ _ _ (by simp), Below.heap_alloc _ _ _ (by simp)]; exact (new_two _ _).2
  · rw [Below.heap_alloc _ _ _ (by simp)]; exact new_at (by simp)
theorem third_bd {n j m : Int} (hn0 : 1 ≤ n) (hn1 : n ≤ 16384) (hj0 : 0 ≤ j) (hj1 : j ≤ 3) (hm : n * j = m) : 0 ≤ m ∧ m ≤ 49152 ∧ 0 ≤ m.tdiv 3 ∧ m.tdiv 3 ≤ 16384 := by
  have h0 : 0 ≤ m := by rw [← hm]; exact Int.mul_nonneg (by omega) hj0
  have h1 := (mul_bd (B := 16384) (C := 3) (m := n) (n := j) (by omega) (by omega) (by omega) (by omega)).2
  rw [hm] at h1
  rw [Int.tdiv_eq_ediv_of_nonneg h0]
  omega
theorem wh_ways (ax ay n x y : Int) : ∃ wh : Bool, (wh = true ↔ (ax ≤ x ∧ x < ax + n ∧ ay ≤ y ∧ y < ay + n)) ∧
    ((wh = true ∧ ax ≤ x ∧ x < ax + n ∧ ay ≤ y ∧ y < ay + n) ∨ (wh = false ∧ ¬ ax ≤ x) ∨ (wh = false ∧ ax ≤ x ∧ ¬ x < ax + n) ∨ (wh = false ∧ ax ≤ x ∧ x < ax + n ∧ ¬ ay ≤ y) ∨ (wh = false ∧ ax ≤ x ∧ x < ax + n ∧ ay ≤ y ∧ ¬ y < ay + n)) := by
  refine ⟨decide (ax ≤ x ∧ x < ax + n ∧ ay ≤ y ∧ y < ay + n), by simp, ?_⟩
  by_cases h : (ax ≤ x ∧ x < ax + n ∧ ay ≤ y ∧ y < ay + n)
  · exact .inl ⟨by simp [h], h⟩
  · simp only [h, decide_false, Bool.false_eq_true, false_and, true_and, false_or]
    omega

set_option maxRecDepth 100000 in
set_option maxHeartbeats 2000000 in
theorem once_walk (p q : P) (x : Int) (w : World) (x0 : 0 ≤ x) (x1 : x ≤ 65535) :
    Calls Try.prog 5 #[.agg #[.int .i64 p.x, .int .i64 p.y, .int .i64 p.z, .int .i64 p.a, .int .i64 p.b, .int .i64 p.c, .int .i64 p.d], .agg #[.int .i64 q.x, .int .i64 q.y, .int .i64 q.z, .int .i64 q.a, .int .i64 q.b, .int .i64 q.c, .int .i64 q.d], .int .u16 x] w fun e w' => e = .returned (.bool true) ∧ Below w.heap.size w w' := by
  have HS := Lib.hid shown_any
  have HP := Lib.hid (small_any p)
  have HQ := Lib.hid (small_any q)
  obtain ⟨A, h1⟩ : ∃ u, smallP p = u := ⟨_, rfl⟩
  obtain ⟨S, h2⟩ : ∃ u, smallP q = u := ⟨_, rfl⟩
  rw [h1] at HP
  rw [h2] at HQ
  have oA : A.ok := by rw [← h1]; exact smallP_ok p
  have oS : S.ok := by rw [← h2]; exact smallP_ok q
  clear h1 h2
  obtain ⟨n, hn⟩ : ∃ n, 1 + x % 16384 = n := ⟨_, rfl⟩
  have HN := Lib.hid hn
  have n0 : 1 ≤ n := by omega
  have n1 : n ≤ 16384 := by omega
  have ex : IntKind.i64.wrap x = x := by rw [IntKind.wrap_i64]; omega
  have en : IntKind.i64.wrap (1 + x % 16384) = 1 + x % 16384 := by rw [IntKind.wrap_i64]; omega
  clear hn
  have HA := Lib.hid oA
  have HO := Lib.hid oS
  obtain ⟨⟨a0, a1⟩, ⟨a2, a3⟩⟩ := oA
  obtain ⟨⟨z0, z1⟩, ⟨z2, z3⟩⟩ := oS
  obtain ⟨bx, hbx⟩ : ∃ n', A.x + n = n' := ⟨_, rfl⟩
  obtain ⟨cy, hcy⟩ : ∃ n', A.y + n = n' := ⟨_, rfl⟩
  have e1 : IntKind.i64.wrap (A.x + n) = bx := by rw [IntKind.wrap_i64]; omega
  have e2 : IntKind.i64.wrap (A.y + n) = cy := by rw [IntKind.wrap_i64]; omega
  obtain ⟨B, hB⟩ : ∃ B : P, B = ⟨bx, A.y, 0, 0, 0, 0, 0⟩ := ⟨_, rfl⟩
  obtain ⟨C, hC⟩ : ∃ B : P, B = ⟨bx, cy, 0, 0, 0, 0, 0⟩ := ⟨_, rfl⟩
  obtain ⟨D, hD⟩ : ∃ B : P, B = ⟨A.x, cy, 0, 0, 0, 0, 0⟩ := ⟨_, rfl⟩
  have smA : A.sm := HA.out.sm
  have smB : B.sm := by rw [hB]; exact ⟨⟨by simp only; omega, by simp only; omega⟩, ⟨by simp only; omega, by simp only; omega⟩⟩
  have smC : C.sm := by rw [hC]; exact ⟨⟨by simp only; omega, by simp only; omega⟩, ⟨by simp only; omega, by simp only; omega⟩⟩
  have smD : D.sm := by rw [hD]; exact ⟨⟨by simp only; omega, by simp only; omega⟩, ⟨by simp only; omega, by simp only; omega⟩⟩
  have I1 := Lib.hid (fun x y h0 h1 h2 h3 w => in_any A B C x y smA smB smC h0 h1 h2 h3 w)
  have I2 := Lib.hid (fun x y h0 h1 h2 h3 w => in_any A C D x y smA smC smD h0 h1 h2 h3 w)
  have I3 := Lib.hid (fun x y h0 h1 h2 h3 w => in_any A B D x y smA smB smD h0 h1 h2 h3 w)
  have I4 := Lib.hid (fun x y h0 h1 h2 h3 w => in_any B C D x y smB smC smD h0 h1 h2 h3 w)
  have HW := Lib.hid (fun x y wh hw => once_ways (a := A) (b := B) (c := C) (d := D) (n := n) x y (by omega) (by rw [hB]; exact hbx.symm) (by rw [hB]) (by rw [hC]; exact hbx.symm) (by rw [hC]; exact hcy.symm) (by rw [hD]) (by rw [hD]; exact hcy.symm) wh hw)
  have GB := Lib.hid hB
  have GC := Lib.hid hC
  have GD := Lib.hid hD
  have EX := Lib.hid hbx
  have EY := Lib.hid hcy
  clear smA smB smC smD hB hC hD hbx hcy
  go_enter Try.func5, Try.ntmps5
  go_wp2_with fail
  with_reducible refine (HS.out _).mono ?_
  rintro e w1 ⟨rfl, hb⟩
  have K1 := Lib.hid (bstep (((Below.refl w.heap.size w).alloc (Nat.le_refl _) _).alloc (by simp) _) (by simp; omega) hb)
  have P1 := Lib.hid (show w1.heap[w.heap.size]? = some (pB p) from pB_grow (new_two _ _).1 hb)
  have Q1 := Lib.hid (show w1.heap[w.heap.size + 1]? = some (pB q) from pB_grow (new_two _ _).2 hb)
  clear hb
  obtain ⟨c0, c1, c2, c3, c4, c5, c6⟩ := pB_cell P1.out
  go_wp2_with fail
  with_reducible refine (HP.out _).mono ?_
  rintro e w2 ⟨rfl, hb⟩
  have K2 := Lib.hid (bstep K1.out K1.out.size hb)
  have Q2 := Lib.hid (pB_grow Q1.out hb)
  clear hb c0 c1 c2 c3 c4 c5 c6 P1 Q1 K1
  go_upto_region 4 with fail
  rw [HN.out]
  clear ex en HN x0 x1
  go_upto_region 7 with fail
  obtain ⟨V, hV⟩ : ∃ X, X = (((w2.alloc (Obj.cells #[.int .i64 A.x, .int .i64 A.y, .int .i64 A.z, .int .i64 A.a, .int .i64 A.b, .int .i64 A.c, .int .i64 A.d] 24)).alloc (Obj.cells #[.int .i64 bx, .int .i64 A.y, .int .i64 0, .int .i64 0, .int .i64 0, .int .i64 0, .int .i64 0] 24)).alloc (Obj.cells #[.int .i64 bx, .int .i64 cy, .int .i64 0, .int .i64 0, .int .i64 0, .int .i64 0, .int .i64 0] 24)).alloc (Obj.cells #[.int .i64 A.x, .int .i64 cy, .int .i64 0, .int .i64 0, .int .i64 0, .int .i64 0, .int .i64 0] 24) := ⟨_, rfl⟩
  rw [← hV]
  have KV := Lib.hid (show Below w.heap.size w V by rw [hV]; have := K2.out.size; exact (((K2.out.alloc this _).alloc (by simp; omega) _).alloc (by simp; omega) _).alloc (by simp; omega) _)
  have QV := Lib.hid (show V.heap[w.heap.size + 1]? = some (pB q) by rw [hV]; exact pB_alloc _ (pB_alloc _ (pB_alloc _ (pB_alloc _ Q2.out))))
  have AV := Lib.hid (show V.heap[w2.heap.size]? = some (pB A) by rw [hV]; exact (new_four _ _ _ _).1)
  have BV := Lib.hid (show V.heap[w2.heap.size + 1]? = some (pB B) by rw [hV, GB.out]; exact (new_four _ _ _ _).2.1)
  have CV := Lib.hid (show V.heap[w2.heap.size + 1 + 1]? = some (pB C) by rw [hV, GC.out]; exact (new_four _ _ _ _).2.2.1)
  have DV := Lib.hid (show V.heap[w2.heap.size + 1 + 1 + 1]? = some (pB D) by rw [hV, GD.out]; exact (new_four _ _ _ _).2.2.2)
  clear hV Q2 K2 GB GC GD
  obtain ⟨c0, c1, c2, c3, c4, c5, c6⟩ := pB_cell QV.out
  go_wp2_with fail
  with_reducible refine (HQ.out _).mono ?_
  rintro e w3 ⟨rfl, hb⟩
  have K3 := Lib.hid (bstep KV.out KV.out.size hb)
  have A3 := Lib.hid (pB_grow AV.out hb)
  have B3 := Lib.hid (pB_grow BV.out hb)
  have C3 := Lib.hid (pB_grow CV.out hb)
  have D3 := Lib.hid (pB_grow DV.out hb)
  clear hb c0 c1 c2 c3 c4 c5 c6 KV AV BV CV DV QV HS HP HQ
  go_wp2
  go_loopw [14] (fun i wr => ∃ k : Nat, k ≤ 5 ∧ i = .int .i64 k ∧ Below w.heap.size w wr ∧ wr.heap[w2.heap.size]? = some (pB A) ∧ wr.heap[w2.heap.size + 1]? = some (pB B) ∧ wr.heap[w2.heap.size + 1 + 1]? = some (pB C) ∧ wr.heap[w2.heap.size + 1 + 1 + 1]? = some (pB D) ∧ wr.heap[w3.heap.size]? = some (pB S))
    (fun i _ => 5 - (intOf i).toNat)
  case atStart => exact ⟨0, by omega, rfl, K3.out.alloc K3.out.size _, pB_alloc _ A3.out, pB_alloc _ B3.out, pB_alloc _ C3.out, pB_alloc _ D3.out, new_at rfl⟩
  case round =>
    obtain ⟨k, hk, rfl, hbel, hA, hB, hC, hD, hS⟩ := hrel
    have KR := Lib.hid hbel
    have AR := Lib.hid hA
    have BR := Lib.hid hB
    have CR := Lib.hid hC
    have DR := Lib.hid hD
    have SR := Lib.hid hS
    clear hbel hA hB hC hD hS A3 B3 C3 D3 K3
    by_cases hlt : k < 5
    · have q1 : (k : Int) < 5 := by omega
      have q2 : (0 : Int) ≤ (k : Int) := by omega
      obtain ⟨s0, s1, s2, s3, s4, s5, s6⟩ := pB_cell SR.out
      go_upto_if 63 with fail
      go_cut [15, 16] from 62 to 79 (fun s t wc => ∃ X Y : Int, s = .int .i64 X ∧ t = .int .i64 Y ∧ (-65536 ≤ X ∧ X ≤ 65536) ∧ (-65536 ≤ Y ∧ Y ≤ 65536) ∧ wr = wc)
      case first =>
        by_cases hz : (0 : Int) < (k : Int)
        · obtain ⟨j, hj⟩ : ∃ j, (k : Int) - 1 = j := ⟨_, rfl⟩
          obtain ⟨m, hm⟩ : ∃ m, n * j = m := ⟨_, rfl⟩
          obtain ⟨m0, m1, m2, m3⟩ := third_bd n0 n1 (show 0 ≤ j by omega) (by omega) hm
          have d1 : IntKind.i64.wrap ((k : Int) - 1) = j := by rw [IntKind.wrap_i64]; omega
          have d2 : IntKind.i64.wrap (n * j) = m := by rw [hm, IntKind.wrap_i64]; omega
          obtain ⟨t, ht⟩ : ∃ t, m.tdiv 3 = t := ⟨_, rfl⟩
          rw [ht] at m2 m3
          have d3 : IntKind.i64.wrap t = t := by rw [IntKind.wrap_i64]; omega
          obtain ⟨X, hX⟩ : ∃ X, A.x + t = X := ⟨_, rfl⟩
          obtain ⟨Y, hY⟩ : ∃ Y, A.y + t = Y := ⟨_, rfl⟩
          have d4 : IntKind.i64.wrap (A.x + t) = X := by rw [IntKind.wrap_i64]; omega
          have d5 : IntKind.i64.wrap (A.y + t) = Y := by rw [IntKind.wrap_i64]; omega
          have BX := Lib.hid (show (-65536 ≤ X ∧ X ≤ 65536) ∧ (-65536 ≤ Y ∧ Y ≤ 65536) by omega)
          have nm : ¬ m = -9223372036854775808 := by omega
          clear hj hm hX hY m2 m3 m1
          obtain ⟨c0, c1, c2, c3, c4, c5, c6⟩ := pB_cell AR.out
          go_wp2
          go_meet
          case rel => exact ⟨X, Y, by simp, by simp, BX.out.1, BX.out.2, rfl⟩
        · go_wp2
          go_meet
          case rel => exact ⟨S.x, S.y, rfl, rfl, by omega, by omega, rfl⟩
      obtain ⟨X, Y, rfl, rfl, ⟨X0, X1⟩, ⟨Y0, Y1⟩, rfl⟩ := hcut
      have H1 := Lib.hid (I1.out X Y X0 X1 Y0 Y1)
      have H2 := Lib.hid (I2.out X Y X0 X1 Y0 Y1)
      have H3 := Lib.hid (I3.out X Y X0 X1 Y0 Y1)
      have H4 := Lib.hid (I4.out X Y X0 X1 Y0 Y1)
      obtain ⟨wh, hwh, hww⟩ := wh_ways A.x A.y n X Y
      have WW := Lib.hid (HW.out X Y wh hwh)
      rw [EX.out, EY.out] at hww
      have HH := Lib.hid hww
      generalize inn A B C X Y = r1 at *
      generalize inn A C D X Y = r2 at *
      generalize inn A B D X Y = r3 at *
      generalize inn B C D X Y = r4 at *
      clear s0 s1 s2 s3 s4 s5 s6 hwh hww X0 X1 Y0 Y1
      go_upto_region 16 with fail
      go_cut [17] from 80 to 105 (fun s wc => s = .bool wh ∧ wr = wc)
      case first =>
        obtain ⟨c0, c1, c2, c3, c4, c5, c6⟩ := pB_cell AR.out
        rcases HH.out with ⟨rfl, y1, y2, y3, y4⟩ | ⟨rfl, y1⟩ | ⟨rfl, y1, y2⟩ | ⟨rfl, y1, y2, y3⟩ | ⟨rfl, y1, y2, y3, y4⟩
        all_goals
          go_wp2
          go_meet
          case rel => exact ⟨by simp, rfl⟩
      obtain ⟨rfl, rfl⟩ := hcut
      clear HH
      obtain ⟨c0, c1, c2, c3, c4, c5, c6⟩ := pB_cell AR.out
      obtain ⟨d0, d1, d2, d3, d4, d5, d6⟩ := pB_cell BR.out
      obtain ⟨e0, e1, e2, e3, e4, e5, e6⟩ := pB_cell CR.out
      obtain ⟨f0, f1, f2, f3, f4, f5, f6⟩ := pB_cell DR.out
      go_wp2_with (refine wp_buildT (a := A) (b := B) (c := C) _ _ _ rfl rfl rfl rfl rfl ?_)
      with_reducible refine (H1.out _).mono ?_
      rintro e W1 ⟨rfl, hb⟩
      have A1R := Lib.hid (pB_grow AR.out hb)
      have B1R := Lib.hid (pB_grow BR.out hb)
      have C1R := Lib.hid (pB_grow CR.out hb)
      have D1R := Lib.hid (pB_grow DR.out hb)
      have S1R := Lib.hid (pB_grow SR.out hb)
      have K1R := Lib.hid (bstep KR.out KR.out.size hb)
      clear hb c0 c1 c2 c3 c4 c5 c6 d0 d1 d2 d3 d4 d5 d6 e0 e1 e2 e3 e4 e5 e6 f0 f1 f2 f3 f4 f5 f6 AR BR CR DR SR KR H1
      obtain ⟨c0, c1, c2, c3, c4, c5, c6⟩ := pB_cell A1R.out
      obtain ⟨d0, d1, d2, d3, d4, d5, d6⟩ := pB_cell B1R.out
      obtain ⟨e0, e1, e2, e3, e4, e5, e6⟩ := pB_cell C1R.out
      obtain ⟨f0, f1, f2, f3, f4, f5, f6⟩ := pB_cell D1R.out
      go_wp2_with (refine wp_buildT (a := A) (b := C) (c := D) _ _ _ rfl rfl rfl rfl rfl ?_)
      with_reducible refine (H2.out _).mono ?_
      rintro e W2 ⟨rfl, hb⟩
      have A2R := Lib.hid (pB_grow A1R.out hb)
      have B2R := Lib.hid (pB_grow B1R.out hb)
      have C2R := Lib.hid (pB_grow C1R.out hb)
      have D2R := Lib.hid (pB_grow D1R.out hb)
      have S2R := Lib.hid (pB_grow S1R.out hb)
      have K2R := Lib.hid (bstep K1R.out K1R.out.size hb)
      clear hb c0 c1 c2 c3 c4 c5 c6 d0 d1 d2 d3 d4 d5 d6 e0 e1 e2 e3 e4 e5 e6 f0 f1 f2 f3 f4 f5 f6 A1R B1R C1R D1R S1R K1R H2
      obtain ⟨c0, c1, c2, c3, c4, c5, c6⟩ := pB_cell A2R.out
      obtain ⟨d0, d1, d2, d3, d4, d5, d6⟩ := pB_cell B2R.out
      obtain ⟨e0, e1, e2, e3, e4, e5, e6⟩ := pB_cell C2R.out
      obtain ⟨f0, f1, f2, f3, f4, f5, f6⟩ := pB_cell D2R.out
      go_wp2_with (refine wp_buildT (a := A) (b := B) (c := D) _ _ _ rfl rfl rfl rfl rfl ?_)
      with_reducible refine (H3.out _).mono ?_
      rintro e W3 ⟨rfl, hb⟩
      have A3R := Lib.hid (pB_grow A2R.out hb)
      have B3R := Lib.hid (pB_grow B2R.out hb)
      have C3R := Lib.hid (pB_grow C2R.out hb)
      have D3R := Lib.hid (pB_grow D2R.out hb)
      have S3R := Lib.hid (pB_grow S2R.out hb)
      have K3R := Lib.hid (bstep K2R.out K2R.out.size hb)
      clear hb c0 c1 c2 c3 c4 c5 c6 d0 d1 d2 d3 d4 d5 d6 e0 e1 e2 e3 e4 e5 e6 f0 f1 f2 f3 f4 f5 f6 A2R B2R C2R D2R S2R K2R H3
      obtain ⟨c0, c1, c2, c3, c4, c5, c6⟩ := pB_cell A3R.out
      obtain ⟨d0, d1, d2, d3, d4, d5, d6⟩ := pB_cell B3R.out
      obtain ⟨e0, e1, e2, e3, e4, e5, e6⟩ := pB_cell C3R.out
      obtain ⟨f0, f1, f2, f3, f4, f5, f6⟩ := pB_cell D3R.out
      go_wp2_with (refine wp_buildT (a := B) (b := C) (c := D) _ _ _ rfl rfl rfl rfl rfl ?_)
      with_reducible refine (H4.out _).mono ?_
      rintro e W4 ⟨rfl, hb⟩
      have A4R := Lib.hid (pB_grow A3R.out hb)
      have B4R := Lib.hid (pB_grow B3R.out hb)
      have C4R := Lib.hid (pB_grow C3R.out hb)
      have D4R := Lib.hid (pB_grow D3R.out hb)
      have S4R := Lib.hid (pB_grow S3R.out hb)
      have K4R := Lib.hid (bstep K3R.out K3R.out.size hb)
      clear hb c0 c1 c2 c3 c4 c5 c6 d0 d1 d2 d3 d4 d5 d6 e0 e1 e2 e3 e4 e5 e6 f0 f1 f2 f3 f4 f5 f6 A3R B3R C3R D3R S3R K3R H4
      rcases WW.out with ⟨rfl, ⟨rfl, rfl⟩, ⟨rfl, rfl⟩⟩ | ⟨rfl, ⟨rfl, rfl⟩ | ⟨rfl, rfl⟩, ⟨rfl, rfl⟩ | ⟨rfl, rfl⟩⟩
      all_goals
        go_wp2
        go_roundw
        case rel => exact ⟨k + 1, by omega, by go_num, K4R.out, A4R.out, B4R.out, C4R.out, D4R.out, S4R.out⟩
        case measure => simp [intOf]; omega
    · have q1 : ¬ (k : Int) < 5 := by omega
      go_wp2
      go_ret
      exact ⟨rfl, KR.out⟩
end Go.Proofs.Ytoocphkpmlgipaa
