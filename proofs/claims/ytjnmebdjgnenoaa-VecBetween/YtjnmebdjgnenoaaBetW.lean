/-
  The walk of glazierlaw04.VecBetween.
-/
import Derived.Test.YtjnmebdjgnenoaaNear
namespace Go.Proofs.Ytjnmebdjgnenoaa
open Go.RowKit
attribute [local go_sem ↓] Go.wp_at_zero Go.wp_at_succ
attribute [local go_sem high] eql36 eql24
attribute [local go_sem] guard36 guard24

set_option maxHeartbeats 8000000 in
theorem bet_walk (a b : V) (n : Int) (w : World) (n0 : 0 ≤ n) (n1 : n ≤ 255) :
    Calls Try.prog 4 #[.agg #[.int .i64 a.x, .int .i64 a.y, .int .i64 a.z, .int .i64 a.w, .int .i64 a.a, .int .i64 a.b, .int .i64 a.c, .int .i64 a.d, .int .i64 b.x, .int .i64 b.y, .int .i64 b.z, .int .i64 b.w, .int .i64 b.a, .int .i64 b.b, .int .i64 b.c, .int .i64 b.d], .int .u8 n] w fun e w' => e = .returned (.bool true) ∧ Below w.heap.size w w' := by
  have HS := Lib.hid shown_any
  have HFa := Lib.hid (fit_any a)
  have HFb := Lib.hid (fit_any b)
  obtain ⟨A, hA⟩ : ∃ f, fitV a = f := ⟨_, rfl⟩
  obtain ⟨B, hB⟩ : ∃ f, fitV b = f := ⟨_, rfl⟩
  rw [hA] at HFa
  rw [hB] at HFb
  have okA := Lib.hid (show A.ok by rw [← hA]; exact fitV_ok a)
  have okB := Lib.hid (show B.ok by rw [← hB]; exact fitV_ok b)
  clear hA hB
  obtain ⟨p, hp⟩ : ∃ m, n.tmod 5 = m := ⟨_, rfl⟩
  have wn : IntKind.i64.wrap n = n := by rw [IntKind.wrap_i64]; omega
  obtain ⟨D, hD⟩ : ∃ D, dist p A = D := ⟨_, rfl⟩
  obtain ⟨E, hE⟩ : ∃ D, dist p B = D := ⟨_, rfl⟩
  have HRA := Lib.hid (right_any A)
  rw [rightB_ok okA.out] at HRA
  have HRB := Lib.hid (right_any B)
  rw [rightB_ok okB.out] at HRB
  have CA := Lib.hid (dist8 p A.x A.y A.z A.w A.a A.b A.c A.d D okA.out.sm hD)
  have CB := Lib.hid (dist8 p B.x B.y B.z B.w B.a B.b B.c B.d E okB.out.sm hE)
  have HD := Lib.hid hD
  have HE := Lib.hid hE
  clear hD hE
  go_enter Try.func4, Try.ntmps4
  go_wp2_with fail
  with_reducible refine (HS.out _).mono ?_
  rintro e w1 ⟨rfl, hb⟩
  have k1 := bstep ((Below.refl w.heap.size w).alloc (Nat.le_refl _) (Obj.cells #[.int .i64 a.x, .int .i64 a.y, .int .i64 a.z, .int .i64 a.w, .int .i64 a.a, .int .i64 a.b, .int .i64 a.c, .int .i64 a.d, .int .i64 b.x, .int .i64 b.y, .int .i64 b.z, .int .i64 b.w, .int .i64 b.a, .int .i64 b.b, .int .i64 b.c, .int .i64 b.d] 25)) (by simp) hb
  have L1 := Lib.hid (show w1.heap[w.heap.size]? = some (v2B a b) from v2B_grow (new_at rfl) hb)
  have K1 := Lib.hid k1
  clear hb k1
  obtain ⟨c0, c1, c2, c3, c4, c5, c6, c7, c8, c9, c10, c11, c12, c13, c14, c15⟩ := v2B_cell L1.out
  go_wp2_with fail
  with_reducible refine (HFa.out _).mono ?_
  rintro e w2 ⟨rfl, hb⟩
  have L2 := Lib.hid (v2B_grow L1.out hb)
  have l2 := v2B_lt L2.out
  have K2 := Lib.hid (bstep K1.out K1.out.size hb)
  clear hb L1 c0 c1 c2 c3 c4 c5 c6 c7 c8 c9 c10 c11 c12 c13 c14 c15
  obtain ⟨c0, c1, c2, c3, c4, c5, c6, c7, c8, c9, c10, c11, c12, c13, c14, c15⟩ := v2B_cell L2.out
  go_wp2_with fail
  with_reducible refine (HFb.out _).mono ?_
  rintro e w3 ⟨rfl, hb⟩
  have k3 := K2.out.alloc K2.out.size (vB 24 A)
  have A3 := Lib.hid (show w3.heap[w2.heap.size]? = some (vB 24 A) from vB_grow (new_at rfl) hb)
  have K3 := Lib.hid (bstep k3 k3.size hb)
  have l3 := vB_lt A3.out
  clear hb L2 k3 c0 c1 c2 c3 c4 c5 c6 c7 c8 c9 c10 c11 c12 c13 c14 c15
  obtain ⟨c0, c1, c2, c3, c4, c5, c6, c7⟩ := vB_cell A3.out
  go_wp2_with fail
  with_reducible refine (CA.out _).mono ?_
  rintro e w4 ⟨rfl, hb⟩
  have k3 := K3.out.alloc K3.out.size (vB 24 B)
  have K4 := Lib.hid (bstep k3 k3.size hb)
  have A4 := Lib.hid (vB_grow (vB_alloc (vB 24 B) A3.out) hb)
  have B4 := Lib.hid (show w4.heap[w3.heap.size]? = some (vB 24 B) from vB_grow (new_at rfl) hb)
  clear hb k3 c0 c1 c2 c3 c4 c5 c6 c7
  obtain ⟨c0, c1, c2, c3, c4, c5, c6, c7⟩ := vB_cell B4.out
  go_wp2_with fail
  with_reducible refine (CB.out _).mono ?_
  rintro e w5 ⟨rfl, hb⟩
  have K5 := Lib.hid (bstep K4.out K4.out.size hb)
  have A5 := Lib.hid (vB_grow A4.out hb)
  have B5 := Lib.hid (vB_grow B4.out hb)
  clear hb c0 c1 c2 c3 c4 c5 c6 c7
  obtain ⟨c0, c1, c2, c3, c4, c5, c6, c7⟩ := vB_cell A5.out
  obtain ⟨d0, d1, d2, d3, d4, d5, d6, d7⟩ := vB_cell B5.out
  by_cases hyes : 0 ≤ D ∧ E < 0
  · obtain ⟨y0, y1⟩ := hyes
    obtain ⟨K, hK⟩ : ∃ K, D - E = K := ⟨_, rfl⟩
    obtain ⟨R, hR⟩ : ∃ R, btV D K A B = R := ⟨_, rfl⟩
    have okR := Lib.hid (show R.ok by rw [← hR]; exact btV_ok y0 (by omega) (by omega) okA.out okB.out)
    have BT := Lib.hid (between_core A B R p D E K okA.out.sm okB.out.sm HD.out HE.out hK hR y0 y1)
    obtain ⟨Q, hQ⟩ : ∃ Q, dist p R = Q := ⟨_, rfl⟩
    have bQ : -5 ≤ Q ∧ Q ≤ 5 := by rw [← hQ, ← hR]; exact dist_near HD.out (by rw [HE.out]; exact hK) (by omega)
    have CQ := Lib.hid (dist8 p R.x R.y R.z R.w R.a R.b R.c R.d Q okR.out.sm hQ)
    have HRR := Lib.hid (right_any R)
    rw [rightB_ok okR.out] at HRR
    have mx : min A.x B.x ≤ R.x ∧ R.x ≤ max A.x B.x := by rw [← hR]; exact bt_mm y0 (by omega) (by omega)
    have mw : min A.w B.w ≤ R.w ∧ R.w ≤ max A.w B.w := by rw [← hR]; exact bt_mm y0 (by omega) (by omega)
    have mc : min A.c B.c ≤ R.c ∧ R.c ≤ max A.c B.c := by rw [← hR]; exact bt_mm y0 (by omega) (by omega)
    obtain ⟨mx0, mx1⟩ := mx
    obtain ⟨mw0, mw1⟩ := mw
    obtain ⟨mc0, mc1⟩ := mc
    obtain ⟨bQ0, bQ1⟩ := bQ
    clear hK hR hQ
    go_wp2_with fail
    with_reducible refine (BT.out _).mono ?_
    rintro e w6 ⟨rfl, hb⟩
    have K6 := Lib.hid (bstep K5.out K5.out.size hb)
    have A6 := Lib.hid (vB_grow A5.out hb)
    have B6 := Lib.hid (vB_grow B5.out hb)
    have l6 := vB_lt A6.out
    have l6' := vB_lt B6.out
    clear hb c0 c1 c2 c3 c4 c5 c6 c7 d0 d1 d2 d3 d4 d5 d6 d7
    obtain ⟨c0, c1, c2, c3, c4, c5, c6, c7⟩ := vB_cell A6.out
    go_wp2_with fail
    with_reducible refine (HRA.out _).mono ?_
    rintro e w7 ⟨rfl, hb⟩
    have k6 := K6.out.alloc K6.out.size (vB 24 R)
    have K7 := Lib.hid (bstep k6 k6.size hb)
    have A7 := Lib.hid (vB_grow (vB_alloc (vB 24 R) A6.out) hb)
    have B7 := Lib.hid (vB_grow (vB_alloc (vB 24 R) B6.out) hb)
    have R7 := Lib.hid (show w7.heap[w6.heap.size]? = some (vB 24 R) from vB_grow (new_at rfl) hb)
    clear hb k6 c0 c1 c2 c3 c4 c5 c6 c7
    obtain ⟨c0, c1, c2, c3, c4, c5, c6, c7⟩ := vB_cell B7.out
    go_wp2_with fail
    with_reducible refine (HRB.out _).mono ?_
    rintro e w8 ⟨rfl, hb⟩
    have K8 := Lib.hid (bstep K7.out K7.out.size hb)
    have A8 := Lib.hid (vB_grow A7.out hb)
    have B8 := Lib.hid (vB_grow B7.out hb)
    have R8 := Lib.hid (vB_grow R7.out hb)
    clear hb c0 c1 c2 c3 c4 c5 c6 c7
    obtain ⟨c0, c1, c2, c3, c4, c5, c6, c7⟩ := vB_cell A8.out
    obtain ⟨d0, d1, d2, d3, d4, d5, d6, d7⟩ := vB_cell B8.out
    obtain ⟨r0, r1, r2, r3, r4, r5, r6, r7⟩ := vB_cell R8.out
    go_wp2_with fail
    with_reducible refine (CQ.out _).mono ?_
    rintro e w9 ⟨rfl, hb⟩
    have K9 := Lib.hid (bstep K8.out K8.out.size hb)
    have R9 := Lib.hid (vB_grow R8.out hb)
    clear hb c0 c1 c2 c3 c4 c5 c6 c7 d0 d1 d2 d3 d4 d5 d6 d7 r0 r1 r2 r3 r4 r5 r6 r7
    obtain ⟨r0, r1, r2, r3, r4, r5, r6, r7⟩ := vB_cell R9.out
    go_wp2_with fail
    with_reducible refine (HRR.out _).mono ?_
    rintro e w10 ⟨rfl, hb⟩
    have K10 := Lib.hid (bstep K9.out K9.out.size hb)
    clear hb r0 r1 r2 r3 r4 r5 r6 r7
    go_wp2
    go_ret
    exact ⟨rfl, K10.out⟩
  · have BT := Lib.hid (between_no A B p okA.out.sm okB.out.sm (by rw [HD.out, HE.out]; exact hyes))
    go_wp2_with fail
    with_reducible refine (BT.out _).mono ?_
    rintro e w6 ⟨rfl, hb⟩
    have K6 := Lib.hid (bstep K5.out K5.out.size hb)
    have A6 := Lib.hid (vB_grow A5.out hb)
    have B6 := Lib.hid (vB_grow B5.out hb)
    have l6 := vB_lt A6.out
    have l6' := vB_lt B6.out
    clear hb c0 c1 c2 c3 c4 c5 c6 c7 d0 d1 d2 d3 d4 d5 d6 d7
    obtain ⟨c0, c1, c2, c3, c4, c5, c6, c7⟩ := vB_cell A6.out
    go_wp2_with fail
    all_goals
      with_reducible refine (HRA.out _).mono ?_
      rintro e w7 ⟨rfl, hb⟩
      have k6 := K6.out.alloc K6.out.size (vB 24 ⟨0, 0, 0, 0, 0, 0, 0, 0⟩)
      have K7 := Lib.hid (bstep k6 k6.size hb)
      have B7 := Lib.hid (vB_grow (vB_alloc (vB 24 ⟨0, 0, 0, 0, 0, 0, 0, 0⟩) B6.out) hb)
      have R7 := Lib.hid (show w7.heap[w6.heap.size]? = some (vB 24 ⟨0, 0, 0, 0, 0, 0, 0, 0⟩) from vB_grow (new_at rfl) hb)
      clear hb k6 c0 c1 c2 c3 c4 c5 c6 c7
      obtain ⟨c0, c1, c2, c3, c4, c5, c6, c7⟩ := vB_cell B7.out
      go_wp2_with fail
      with_reducible refine (HRB.out _).mono ?_
      rintro e w8 ⟨rfl, hb⟩
      have K8 := Lib.hid (bstep K7.out K7.out.size hb)
      have R8 := Lib.hid (vB_grow R7.out hb)
      clear hb c0 c1 c2 c3 c4 c5 c6 c7
      obtain ⟨r0, r1, r2, r3, r4, r5, r6, r7⟩ := vB_cell R8.out
      go_wp2
      go_ret
      exact ⟨rfl, K8.out⟩
end Go.Proofs.Ytjnmebdjgnenoaa
