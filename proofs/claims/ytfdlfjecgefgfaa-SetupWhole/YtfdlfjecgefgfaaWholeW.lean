/-
  SetupWhole's walk.
-/
import Derived.Test.YtfdlfjecgefgfaaPut3
import Derived.Test.YtfdlfjecgefgfaaWholeP
import Derived.Test.YtfdlfjecgefgfaaCEqP
namespace Go.Proofs.Ytfdlfjecgefgfaa
open Go.RowKit
attribute [local go_sem ↓] Go.wp_at_zero Go.wp_at_succ
attribute [local go_sem high] C.eqlAA
attribute [local go_sem] C.guardA C.sameA_self

set_option maxRecDepth 100000 in
set_option maxHeartbeats 4000000 in
theorem whole_walk (a0 b0 c0 : C.V) (i j n : Int) (hi0 : 0 ≤ i ∧ i ≤ 255) (hj0 : 0 ≤ j ∧ j ≤ 255) (hn0 : 0 ≤ n ∧ n ≤ 255) (w : World) :
    Calls Try.prog 6 #[.agg #[.int .u8 i, .int .u8 j], .agg #[.int .i64 a0.x, .int .i64 a0.y, .int .i64 a0.z, .int .i64 a0.w, .int .i64 a0.a, .int .i64 a0.b, .int .i64 a0.c, .int .i64 a0.d, .int .i64 b0.x, .int .i64 b0.y, .int .i64 b0.z, .int .i64 b0.w, .int .i64 b0.a, .int .i64 b0.b, .int .i64 b0.c, .int .i64 b0.d, .int .i64 c0.x, .int .i64 c0.y, .int .i64 c0.z, .int .i64 c0.w, .int .i64 c0.a, .int .i64 c0.b, .int .i64 c0.c, .int .i64 c0.d], .int .u8 n] w fun e w' => e = .returned (.bool true) ∧ Below w.heap.size w w' := by
  have HSh := Lib.hid shown_any
  have HF := fit3_any a0 b0 c0
  have oa := C.fitV_ok a0
  have ob := C.fitV_ok b0
  have oc := C.fitV_ok c0
  generalize C.fitV a0 = a at *
  generalize C.fitV b0 = b at *
  generalize C.fitV c0 = c at *
  replace HF := Lib.hid HF
  obtain ⟨m, hm⟩ : ∃ m, 1 + i % 64 = m := ⟨_, rfl⟩
  obtain ⟨k, hk⟩ : ∃ k, 1 + j % 64 = k := ⟨_, rfl⟩
  have hmb : 1 ≤ m ∧ m ≤ 64 := by omega
  have hkb : 1 ≤ k ∧ k ≤ 64 := by omega
  have EM := Lib.hid hm
  have EK := Lib.hid hk
  obtain ⟨p, hp⟩ : ∃ p : Nat, n % 6 = (p : Int) := ⟨(n % 6).toNat, by omega⟩
  have hp6 : p < 6 := by omega
  have HPN := Lib.hid hp
  clear hm hk hp
  obtain ⟨k0, hk0⟩ : ∃ k, 1 + a.w % 4096 = k := ⟨_, rfl⟩
  have w0 : 0 ≤ a.w := by have := oa.w; omega
  have kb0 : 1 ≤ k0 ∧ k0 ≤ 4096 := by omega
  have in0 : In5 (inV k0 a) := inV_in (by omega) oa
  unfold inV at in0
  obtain ⟨x0, ex0⟩ : ∃ x, a.x.tmod (4 * k0 + 1) = x := ⟨_, rfl⟩
  obtain ⟨y0, ey0⟩ : ∃ x, a.y.tmod (4 * k0 + 1) = x := ⟨_, rfl⟩
  obtain ⟨z0, ez0⟩ : ∃ x, a.z.tmod (k0 + 1) = x := ⟨_, rfl⟩
  rw [ex0, ey0, ez0] at in0
  have bx0 := in0.x
  have by0 := in0.y
  have bz0 := in0.z
  simp only [] at bx0 by0 bz0
  have EX0 := Lib.hid (show (a.x.tmod (4 * k0 + 1) = x0 ∧ IntKind.i64.wrap x0 = x0) ∧ (a.y.tmod (4 * k0 + 1) = y0 ∧ IntKind.i64.wrap y0 = y0) ∧ (a.z.tmod (k0 + 1) = z0 ∧ IntKind.i64.wrap z0 = z0) from
    ⟨⟨ex0, by rw [IntKind.wrap_i64]; omega⟩, ⟨ey0, by rw [IntKind.wrap_i64]; omega⟩, ⟨ez0, by rw [IntKind.wrap_i64]; omega⟩⟩)
  have EK0 := Lib.hid hk0
  have IN0 := Lib.hid in0
  clear hk0 ex0 ey0 ez0 in0 bx0 by0 bz0
  obtain ⟨k1, hk1⟩ : ∃ k, 1 + b.w % 4096 = k := ⟨_, rfl⟩
  have w1 : 0 ≤ b.w := by have := ob.w; omega
  have kb1 : 1 ≤ k1 ∧ k1 ≤ 4096 := by omega
  have in1 : In5 (inV k1 b) := inV_in (by omega) ob
  unfold inV at in1
  obtain ⟨x1, ex1⟩ : ∃ x, b.x.tmod (4 * k1 + 1) = x := ⟨_, rfl⟩
  obtain ⟨y1, ey1⟩ : ∃ x, b.y.tmod (4 * k1 + 1) = x := ⟨_, rfl⟩
  obtain ⟨z1, ez1⟩ : ∃ x, b.z.tmod (k1 + 1) = x := ⟨_, rfl⟩
  rw [ex1, ey1, ez1] at in1
  have bx1 := in1.x
  have by1 := in1.y
  have bz1 := in1.z
  simp only [] at bx1 by1 bz1
  have EX1 := Lib.hid (show (b.x.tmod (4 * k1 + 1) = x1 ∧ IntKind.i64.wrap x1 = x1) ∧ (b.y.tmod (4 * k1 + 1) = y1 ∧ IntKind.i64.wrap y1 = y1) ∧ (b.z.tmod (k1 + 1) = z1 ∧ IntKind.i64.wrap z1 = z1) from
    ⟨⟨ex1, by rw [IntKind.wrap_i64]; omega⟩, ⟨ey1, by rw [IntKind.wrap_i64]; omega⟩, ⟨ez1, by rw [IntKind.wrap_i64]; omega⟩⟩)
  have EK1 := Lib.hid hk1
  have IN1 := Lib.hid in1
  clear hk1 ex1 ey1 ez1 in1 bx1 by1 bz1
  obtain ⟨k2, hk2⟩ : ∃ k, 1 + c.w % 4096 = k := ⟨_, rfl⟩
  have w2 : 0 ≤ c.w := by have := oc.w; omega
  have kb2 : 1 ≤ k2 ∧ k2 ≤ 4096 := by omega
  have in2 : In5 (inV k2 c) := inV_in (by omega) oc
  unfold inV at in2
  obtain ⟨x2, ex2⟩ : ∃ x, c.x.tmod (4 * k2 + 1) = x := ⟨_, rfl⟩
  obtain ⟨y2, ey2⟩ : ∃ x, c.y.tmod (4 * k2 + 1) = x := ⟨_, rfl⟩
  obtain ⟨z2, ez2⟩ : ∃ x, c.z.tmod (k2 + 1) = x := ⟨_, rfl⟩
  rw [ex2, ey2, ez2] at in2
  have bx2 := in2.x
  have by2 := in2.y
  have bz2 := in2.z
  simp only [] at bx2 by2 bz2
  have EX2 := Lib.hid (show (c.x.tmod (4 * k2 + 1) = x2 ∧ IntKind.i64.wrap x2 = x2) ∧ (c.y.tmod (4 * k2 + 1) = y2 ∧ IntKind.i64.wrap y2 = y2) ∧ (c.z.tmod (k2 + 1) = z2 ∧ IntKind.i64.wrap z2 = z2) from
    ⟨⟨ex2, by rw [IntKind.wrap_i64]; omega⟩, ⟨ey2, by rw [IntKind.wrap_i64]; omega⟩, ⟨ez2, by rw [IntKind.wrap_i64]; omega⟩⟩)
  have EK2 := Lib.hid hk2
  have IN2 := Lib.hid in2
  clear hk2 ex2 ey2 ez2 in2 bx2 by2 bz2
  have HP := Lib.hid (fun w => prt_any (outV_ok (p := p) IN0.out) (outV_ok (p := p) IN1.out) (outV_ok (p := p) IN2.out) hmb hkb w)
  have HOut := Lib.hid (show p < 5 → prt m k (outV p (⟨x0, y0, z0, k0, a.a, a.b, a.c, a.d⟩ : C.V)) (outV p (⟨x1, y1, z1, k1, b.a, b.b, b.c, b.d⟩ : C.V)) (outV p (⟨x2, y2, z2, k2, c.a, c.b, c.c, c.d⟩ : C.V)) = [] from fun h => by unfold prt; rw [polyV_out h IN0.out IN1.out IN2.out]; exact parts_none m k)
  have HIn := Lib.hid (show p = 5 → _ from fun h => by have := parts_three IN0.out IN1.out IN2.out hmb hkb; subst h; exact (show prt m k (outV 5 (⟨x0, y0, z0, k0, a.a, a.b, a.c, a.d⟩ : C.V)) (outV 5 (⟨x1, y1, z1, k1, b.a, b.b, b.c, b.d⟩ : C.V)) (outV 5 (⟨x2, y2, z2, k2, c.a, c.b, c.c, c.d⟩ : C.V)) = _ from this))
  clear oa ob oc
  go_enter Try.func6, Try.ntmps6
  go_wp2_with fail
  with_reducible refine (HSh.out _).mono ?_
  rintro e' w1 ⟨rfl, hb⟩
  have T1 := Lib.hid (show w1.heap[w.heap.size + 1]? = some (v3B a0 b0 c0) from (hb.block _ (by simp)).trans (new_two _ _).2)
  have S0 : w1.cell? ⟨w.heap.size, 0, none⟩ = some (.int .u8 i) := (hb.cell (p := ⟨w.heap.size, 0, none⟩) (by simp; omega)).trans (by simp [go_sem])
  have S1 : w1.cell? ⟨w.heap.size, 1, none⟩ = some (.int .u8 j) := (hb.cell (p := ⟨w.heap.size, 1, none⟩) (by simp; omega)).trans (by simp [go_sem])
  have K1 := Lib.hid (bstep (((Below.refl w.heap.size w).alloc (Nat.le_refl _) _).alloc (by simp) _) (by simp; omega) hb)
  clear hb
  go_wp2_with (refine wp_load3 (a := a0) (b := b0) (c := c0) (.tmp 4) rfl rfl rfl T1.out ?_)
  with_reducible refine (HF.out _).mono ?_
  rintro e' w2 ⟨rfl, hb⟩
  have K2 := Lib.hid (bstep K1.out K1.out.size hb)
  clear hb S0 S1 T1 K1
  rw [EM.out, EK.out]
  go_wp2_with (refine wp_new3 (a := a) (b := b) (c := c) _ rfl rfl rfl rfl rfl rfl rfl rfl ?_)
  obtain ⟨W0, hW0⟩ : ∃ W0, W0 = w2.alloc (.cells #[.int .i64 a.x, .int .i64 a.y, .int .i64 a.z, .int .i64 a.w, .int .i64 a.a, .int .i64 a.b, .int .i64 a.c, .int .i64 a.d, .int .i64 b.x, .int .i64 b.y, .int .i64 b.z, .int .i64 b.w, .int .i64 b.a, .int .i64 b.b, .int .i64 b.c, .int .i64 b.d, .int .i64 c.x, .int .i64 c.y, .int .i64 c.z, .int .i64 c.w, .int .i64 c.a, .int .i64 c.b, .int .i64 c.c, .int .i64 c.d] 26) := ⟨_, rfl⟩
  rw [← hW0]
  have T0 := Lib.hid (show W0.heap[w2.heap.size]? = some (v3B a b c) by rw [hW0]; exact new_at rfl)
  have K0 := Lib.hid (show Below w.heap.size w W0 by rw [hW0]; exact K2.out.alloc K2.out.size _)
  have hg : w.heap.size ≤ w2.heap.size := K2.out.size
  clear hW0 K2
  generalize w2.heap.size = g at *
  go_loopw [11] (fun i wr => ∃ t : Nat, t ≤ 3 ∧ i = .int .i64 t ∧ wr.heap[g]? = some (match t with | 0 => v3B a b c | 1 => v3B (outV p (⟨x0, y0, z0, k0, a.a, a.b, a.c, a.d⟩ : C.V)) b c | 2 => v3B (outV p (⟨x0, y0, z0, k0, a.a, a.b, a.c, a.d⟩ : C.V)) (outV p (⟨x1, y1, z1, k1, b.a, b.b, b.c, b.d⟩ : C.V)) c | _ => v3B (outV p (⟨x0, y0, z0, k0, a.a, a.b, a.c, a.d⟩ : C.V)) (outV p (⟨x1, y1, z1, k1, b.a, b.b, b.c, b.d⟩ : C.V)) (outV p (⟨x2, y2, z2, k2, c.a, c.b, c.c, c.d⟩ : C.V))) ∧ Below w.heap.size w wr) (fun i _ => 3 - (intOf i).toNat)
  case atStart => exact ⟨0, by omega, rfl, T0.out, K0.out⟩
  case round =>
    obtain ⟨t, ht, rfl, hT, hB⟩ := hrel
    have HB := Lib.hid hB
    clear hB T0 K0
    obtain rfl | rfl | rfl | rfl : t = 0 ∨ t = 1 ∨ t = 2 ∨ t = 3 := by omega
    all_goals
      simp only [] at hT
      have HT := Lib.hid hT
      clear hT
    · skip
      have c0 : wr.cell? ⟨g, 0, none⟩ = some (.int .i64 a.x) := (v3B_0 HT.out) 0 _ rfl
      have c1 : wr.cell? ⟨g, 1, none⟩ = some (.int .i64 a.y) := (v3B_0 HT.out) 1 _ rfl
      have c2 : wr.cell? ⟨g, 2, none⟩ = some (.int .i64 a.z) := (v3B_0 HT.out) 2 _ rfl
      have c3 : wr.cell? ⟨g, 3, none⟩ = some (.int .i64 a.w) := (v3B_0 HT.out) 3 _ rfl
      have fz := v3B_free HT.out
      go_upto_region 9 with fail
      rw [EK0.out]
      obtain ⟨W1, hW1⟩ : ∃ W1, W1 = wr.setCell ⟨g, 3, none⟩ (.int .i64 k0) := ⟨_, rfl⟩
      rw [← hW1]
      have T1 := Lib.hid (show W1.heap[g]? = some (v3B (⟨a.x, a.y, a.z, k0, a.a, a.b, a.c, a.d⟩ : C.V) b c) by rw [hW1]; exact v3B_set HT.out 3 _ (by kernel_rfl))
      have K1 := Lib.hid (show Below w.heap.size w W1 by rw [hW1]; exact HB.out.setCell hg _)
      clear hW1 c0 c1 c2 c3 fz HT HB
      have c0 : W1.cell? ⟨g, 0, none⟩ = some (.int .i64 a.x) := (v3B_0 T1.out) 0 _ rfl
      have c1 : W1.cell? ⟨g, 1, none⟩ = some (.int .i64 a.y) := (v3B_0 T1.out) 1 _ rfl
      have c2 : W1.cell? ⟨g, 2, none⟩ = some (.int .i64 a.z) := (v3B_0 T1.out) 2 _ rfl
      have c3 : W1.cell? ⟨g, 3, none⟩ = some (.int .i64 k0) := (v3B_0 T1.out) 3 _ rfl
      have fz := v3B_free T1.out
      obtain ⟨⟨ex, wx⟩, ⟨ey, wy⟩, ⟨ez, wz⟩⟩ := EX0.out
      have nz : ¬ 4 * k0 + 1 = 0 := by omega
      have nz2 : ¬ k0 + 1 = 0 := by omega
      go_upto_region 13 with fail
      obtain ⟨W2, hW2⟩ : ∃ W2, W2 = ((W1.setCell ⟨g, 0, none⟩ (.int .i64 x0)).setCell ⟨g, 1, none⟩ (.int .i64 y0)).setCell ⟨g, 2, none⟩ (.int .i64 z0) := ⟨_, rfl⟩
      rw [← hW2]
      have T2 := Lib.hid (show W2.heap[g]? = some (v3B (⟨x0, y0, z0, k0, a.a, a.b, a.c, a.d⟩ : C.V) b c) by rw [hW2]; exact v3B_set (v3B_set (v3B_set T1.out 0 _ rfl) 1 _ rfl) 2 _ (by kernel_rfl))
      have K2 := Lib.hid (show Below w.heap.size w W2 by rw [hW2]; exact ((K1.out.setCell hg _).setCell hg _).setCell hg _)
      clear hW2 c0 c1 c2 c3 fz T1 K1 ex wx ey wy ez wz
      obtain rfl | rfl | rfl | rfl | rfl | rfl : p = 0 ∨ p = 1 ∨ p = 2 ∨ p = 3 ∨ p = 4 ∨ p = 5 := by omega
      · skip
        have hp6 : n % 6 = 0 := by have := HPN.out; omega
        have c0 : W2.cell? ⟨g, 2, none⟩ = some (.int .i64 z0) := (v3B_0 T2.out) 2 _ rfl
        have fz := v3B_free T2.out
        go_wp2
        go_roundw
        case rel => exact ⟨1, by omega, rfl, v3B_set T2.out 2 _ (by kernel_rfl), K2.out.setCell hg _⟩
        case measure => simp [intOf]
      · skip
        have hp6 : n % 6 = 1 := by have := HPN.out; omega
        have c0 : W2.cell? ⟨g, 0, none⟩ = some (.int .i64 x0) := (v3B_0 T2.out) 0 _ rfl
        have fz := v3B_free T2.out
        go_wp2
        go_roundw
        case rel => exact ⟨1, by omega, rfl, v3B_set T2.out 0 _ (by kernel_rfl), K2.out.setCell hg _⟩
        case measure => simp [intOf]
      · skip
        have hp6 : n % 6 = 2 := by have := HPN.out; omega
        have c0 : W2.cell? ⟨g, 0, none⟩ = some (.int .i64 x0) := (v3B_0 T2.out) 0 _ rfl
        have fz := v3B_free T2.out
        go_wp2
        go_roundw
        case rel => exact ⟨1, by omega, rfl, v3B_set T2.out 0 _ (by kernel_rfl), K2.out.setCell hg _⟩
        case measure => simp [intOf]
      · skip
        have hp6 : n % 6 = 3 := by have := HPN.out; omega
        have c0 : W2.cell? ⟨g, 1, none⟩ = some (.int .i64 y0) := (v3B_0 T2.out) 1 _ rfl
        have fz := v3B_free T2.out
        go_wp2
        go_roundw
        case rel => exact ⟨1, by omega, rfl, v3B_set T2.out 1 _ (by kernel_rfl), K2.out.setCell hg _⟩
        case measure => simp [intOf]
      · skip
        have hp6 : n % 6 = 4 := by have := HPN.out; omega
        have c0 : W2.cell? ⟨g, 1, none⟩ = some (.int .i64 y0) := (v3B_0 T2.out) 1 _ rfl
        have fz := v3B_free T2.out
        go_wp2
        go_roundw
        case rel => exact ⟨1, by omega, rfl, v3B_set T2.out 1 _ (by kernel_rfl), K2.out.setCell hg _⟩
        case measure => simp [intOf]
      · skip
        have hp6 : n % 6 = 5 := by have := HPN.out; omega
        go_wp2
        go_roundw
        case rel => exact ⟨1, by omega, rfl, T2.out, K2.out⟩
        case measure => simp [intOf]
    · skip
      have c0 : wr.cell? ⟨g, 8, none⟩ = some (.int .i64 b.x) := (v3B_1 HT.out) 0 _ rfl
      have c1 : wr.cell? ⟨g, 9, none⟩ = some (.int .i64 b.y) := (v3B_1 HT.out) 1 _ rfl
      have c2 : wr.cell? ⟨g, 10, none⟩ = some (.int .i64 b.z) := (v3B_1 HT.out) 2 _ rfl
      have c3 : wr.cell? ⟨g, 11, none⟩ = some (.int .i64 b.w) := (v3B_1 HT.out) 3 _ rfl
      have fz := v3B_free HT.out
      go_upto_region 9 with fail
      rw [EK1.out]
      obtain ⟨W1, hW1⟩ : ∃ W1, W1 = wr.setCell ⟨g, 11, none⟩ (.int .i64 k1) := ⟨_, rfl⟩
      rw [← hW1]
      have T1 := Lib.hid (show W1.heap[g]? = some (v3B (outV p (⟨x0, y0, z0, k0, a.a, a.b, a.c, a.d⟩ : C.V)) (⟨b.x, b.y, b.z, k1, b.a, b.b, b.c, b.d⟩ : C.V) c) by rw [hW1]; exact v3B_set HT.out 11 _ (by kernel_rfl))
      have K1 := Lib.hid (show Below w.heap.size w W1 by rw [hW1]; exact HB.out.setCell hg _)
      clear hW1 c0 c1 c2 c3 fz HT HB
      have c0 : W1.cell? ⟨g, 8, none⟩ = some (.int .i64 b.x) := (v3B_1 T1.out) 0 _ rfl
      have c1 : W1.cell? ⟨g, 9, none⟩ = some (.int .i64 b.y) := (v3B_1 T1.out) 1 _ rfl
      have c2 : W1.cell? ⟨g, 10, none⟩ = some (.int .i64 b.z) := (v3B_1 T1.out) 2 _ rfl
      have c3 : W1.cell? ⟨g, 11, none⟩ = some (.int .i64 k1) := (v3B_1 T1.out) 3 _ rfl
      have fz := v3B_free T1.out
      obtain ⟨⟨ex, wx⟩, ⟨ey, wy⟩, ⟨ez, wz⟩⟩ := EX1.out
      have nz : ¬ 4 * k1 + 1 = 0 := by omega
      have nz2 : ¬ k1 + 1 = 0 := by omega
      go_upto_region 13 with fail
      obtain ⟨W2, hW2⟩ : ∃ W2, W2 = ((W1.setCell ⟨g, 8, none⟩ (.int .i64 x1)).setCell ⟨g, 9, none⟩ (.int .i64 y1)).setCell ⟨g, 10, none⟩ (.int .i64 z1) := ⟨_, rfl⟩
      rw [← hW2]
      have T2 := Lib.hid (show W2.heap[g]? = some (v3B (outV p (⟨x0, y0, z0, k0, a.a, a.b, a.c, a.d⟩ : C.V)) (⟨x1, y1, z1, k1, b.a, b.b, b.c, b.d⟩ : C.V) c) by rw [hW2]; exact v3B_set (v3B_set (v3B_set T1.out 8 _ rfl) 9 _ rfl) 10 _ (by kernel_rfl))
      have K2 := Lib.hid (show Below w.heap.size w W2 by rw [hW2]; exact ((K1.out.setCell hg _).setCell hg _).setCell hg _)
      clear hW2 c0 c1 c2 c3 fz T1 K1 ex wx ey wy ez wz
      obtain rfl | rfl | rfl | rfl | rfl | rfl : p = 0 ∨ p = 1 ∨ p = 2 ∨ p = 3 ∨ p = 4 ∨ p = 5 := by omega
      · skip
        have hp6 : n % 6 = 0 := by have := HPN.out; omega
        have c0 : W2.cell? ⟨g, 10, none⟩ = some (.int .i64 z1) := (v3B_1 T2.out) 2 _ rfl
        have fz := v3B_free T2.out
        go_wp2
        go_roundw
        case rel => exact ⟨2, by omega, rfl, v3B_set T2.out 10 _ (by kernel_rfl), K2.out.setCell hg _⟩
        case measure => simp [intOf]
      · skip
        have hp6 : n % 6 = 1 := by have := HPN.out; omega
        have c0 : W2.cell? ⟨g, 8, none⟩ = some (.int .i64 x1) := (v3B_1 T2.out) 0 _ rfl
        have fz := v3B_free T2.out
        go_wp2
        go_roundw
        case rel => exact ⟨2, by omega, rfl, v3B_set T2.out 8 _ (by kernel_rfl), K2.out.setCell hg _⟩
        case measure => simp [intOf]
      · skip
        have hp6 : n % 6 = 2 := by have := HPN.out; omega
        have c0 : W2.cell? ⟨g, 8, none⟩ = some (.int .i64 x1) := (v3B_1 T2.out) 0 _ rfl
        have fz := v3B_free T2.out
        go_wp2
        go_roundw
        case rel => exact ⟨2, by omega, rfl, v3B_set T2.out 8 _ (by kernel_rfl), K2.out.setCell hg _⟩
        case measure => simp [intOf]
      · skip
        have hp6 : n % 6 = 3 := by have := HPN.out; omega
        have c0 : W2.cell? ⟨g, 9, none⟩ = some (.int .i64 y1) := (v3B_1 T2.out) 1 _ rfl
        have fz := v3B_free T2.out
        go_wp2
        go_roundw
        case rel => exact ⟨2, by omega, rfl, v3B_set T2.out 9 _ (by kernel_rfl), K2.out.setCell hg _⟩
        case measure => simp [intOf]
      · skip
        have hp6 : n % 6 = 4 := by have := HPN.out; omega
        have c0 : W2.cell? ⟨g, 9, none⟩ = some (.int .i64 y1) := (v3B_1 T2.out) 1 _ rfl
        have fz := v3B_free T2.out
        go_wp2
        go_roundw
        case rel => exact ⟨2, by omega, rfl, v3B_set T2.out 9 _ (by kernel_rfl), K2.out.setCell hg _⟩
        case measure => simp [intOf]
      · skip
        have hp6 : n % 6 = 5 := by have := HPN.out; omega
        go_wp2
        go_roundw
        case rel => exact ⟨2, by omega, rfl, T2.out, K2.out⟩
        case measure => simp [intOf]
    · skip
      have c0 : wr.cell? ⟨g, 16, none⟩ = some (.int .i64 c.x) := (v3B_2 HT.out) 0 _ rfl
      have c1 : wr.cell? ⟨g, 17, none⟩ = some (.int .i64 c.y) := (v3B_2 HT.out) 1 _ rfl
      have c2 : wr.cell? ⟨g, 18, none⟩ = some (.int .i64 c.z) := (v3B_2 HT.out) 2 _ rfl
      have c3 : wr.cell? ⟨g, 19, none⟩ = some (.int .i64 c.w) := (v3B_2 HT.out) 3 _ rfl
      have fz := v3B_free HT.out
      go_upto_region 9 with fail
      rw [EK2.out]
      obtain ⟨W1, hW1⟩ : ∃ W1, W1 = wr.setCell ⟨g, 19, none⟩ (.int .i64 k2) := ⟨_, rfl⟩
      rw [← hW1]
      have T1 := Lib.hid (show W1.heap[g]? = some (v3B (outV p (⟨x0, y0, z0, k0, a.a, a.b, a.c, a.d⟩ : C.V)) (outV p (⟨x1, y1, z1, k1, b.a, b.b, b.c, b.d⟩ : C.V)) (⟨c.x, c.y, c.z, k2, c.a, c.b, c.c, c.d⟩ : C.V)) by rw [hW1]; exact v3B_set HT.out 19 _ (by kernel_rfl))
      have K1 := Lib.hid (show Below w.heap.size w W1 by rw [hW1]; exact HB.out.setCell hg _)
      clear hW1 c0 c1 c2 c3 fz HT HB
      have c0 : W1.cell? ⟨g, 16, none⟩ = some (.int .i64 c.x) := (v3B_2 T1.out) 0 _ rfl
      have c1 : W1.cell? ⟨g, 17, none⟩ = some (.int .i64 c.y) := (v3B_2 T1.out) 1 _ rfl
      have c2 : W1.cell? ⟨g, 18, none⟩ = some (.int .i64 c.z) := (v3B_2 T1.out) 2 _ rfl
      have c3 : W1.cell? ⟨g, 19, none⟩ = some (.int .i64 k2) := (v3B_2 T1.out) 3 _ rfl
      have fz := v3B_free T1.out
      obtain ⟨⟨ex, wx⟩, ⟨ey, wy⟩, ⟨ez, wz⟩⟩ := EX2.out
      have nz : ¬ 4 * k2 + 1 = 0 := by omega
      have nz2 : ¬ k2 + 1 = 0 := by omega
      go_upto_region 13 with fail
      obtain ⟨W2, hW2⟩ : ∃ W2, W2 = ((W1.setCell ⟨g, 16, none⟩ (.int .i64 x2)).setCell ⟨g, 17, none⟩ (.int .i64 y2)).setCell ⟨g, 18, none⟩ (.int .i64 z2) := ⟨_, rfl⟩
      rw [← hW2]
      have T2 := Lib.hid (show W2.heap[g]? = some (v3B (outV p (⟨x0, y0, z0, k0, a.a, a.b, a.c, a.d⟩ : C.V)) (outV p (⟨x1, y1, z1, k1, b.a, b.b, b.c, b.d⟩ : C.V)) (⟨x2, y2, z2, k2, c.a, c.b, c.c, c.d⟩ : C.V)) by rw [hW2]; exact v3B_set (v3B_set (v3B_set T1.out 16 _ rfl) 17 _ rfl) 18 _ (by kernel_rfl))
      have K2 := Lib.hid (show Below w.heap.size w W2 by rw [hW2]; exact ((K1.out.setCell hg _).setCell hg _).setCell hg _)
      clear hW2 c0 c1 c2 c3 fz T1 K1 ex wx ey wy ez wz
      obtain rfl | rfl | rfl | rfl | rfl | rfl : p = 0 ∨ p = 1 ∨ p = 2 ∨ p = 3 ∨ p = 4 ∨ p = 5 := by omega
      · skip
        have hp6 : n % 6 = 0 := by have := HPN.out; omega
        have c0 : W2.cell? ⟨g, 18, none⟩ = some (.int .i64 z2) := (v3B_2 T2.out) 2 _ rfl
        have fz := v3B_free T2.out
        go_wp2
        go_roundw
        case rel => exact ⟨3, by omega, rfl, v3B_set T2.out 18 _ (by kernel_rfl), K2.out.setCell hg _⟩
        case measure => simp [intOf]
      · skip
        have hp6 : n % 6 = 1 := by have := HPN.out; omega
        have c0 : W2.cell? ⟨g, 16, none⟩ = some (.int .i64 x2) := (v3B_2 T2.out) 0 _ rfl
        have fz := v3B_free T2.out
        go_wp2
        go_roundw
        case rel => exact ⟨3, by omega, rfl, v3B_set T2.out 16 _ (by kernel_rfl), K2.out.setCell hg _⟩
        case measure => simp [intOf]
      · skip
        have hp6 : n % 6 = 2 := by have := HPN.out; omega
        have c0 : W2.cell? ⟨g, 16, none⟩ = some (.int .i64 x2) := (v3B_2 T2.out) 0 _ rfl
        have fz := v3B_free T2.out
        go_wp2
        go_roundw
        case rel => exact ⟨3, by omega, rfl, v3B_set T2.out 16 _ (by kernel_rfl), K2.out.setCell hg _⟩
        case measure => simp [intOf]
      · skip
        have hp6 : n % 6 = 3 := by have := HPN.out; omega
        have c0 : W2.cell? ⟨g, 17, none⟩ = some (.int .i64 y2) := (v3B_2 T2.out) 1 _ rfl
        have fz := v3B_free T2.out
        go_wp2
        go_roundw
        case rel => exact ⟨3, by omega, rfl, v3B_set T2.out 17 _ (by kernel_rfl), K2.out.setCell hg _⟩
        case measure => simp [intOf]
      · skip
        have hp6 : n % 6 = 4 := by have := HPN.out; omega
        have c0 : W2.cell? ⟨g, 17, none⟩ = some (.int .i64 y2) := (v3B_2 T2.out) 1 _ rfl
        have fz := v3B_free T2.out
        go_wp2
        go_roundw
        case rel => exact ⟨3, by omega, rfl, v3B_set T2.out 17 _ (by kernel_rfl), K2.out.setCell hg _⟩
        case measure => simp [intOf]
      · skip
        have hp6 : n % 6 = 5 := by have := HPN.out; omega
        go_wp2
        go_roundw
        case rel => exact ⟨3, by omega, rfl, T2.out, K2.out⟩
        case measure => simp [intOf]
    · go_wp2_with (refine wp_load3 (a := (outV p (⟨x0, y0, z0, k0, a.a, a.b, a.c, a.d⟩ : C.V))) (b := (outV p (⟨x1, y1, z1, k1, b.a, b.b, b.c, b.d⟩ : C.V))) (c := (outV p (⟨x2, y2, z2, k2, c.a, c.b, c.c, c.d⟩ : C.V))) (.tmp 10) rfl rfl rfl HT.out ?_)
      with_reducible refine (HP.out _).mono ?_
      rintro e' w5 ⟨v5, rfl, ho, hb⟩
      have K5 := Lib.hid (bstep HB.out HB.out.size hb)
      have T5 := Lib.hid (v3B_grow HT.out hb)
      have hgz := v3B_lt T5.out
      clear hb HT HB
      by_cases hp5 : p < 5
      · rw [HOut.out hp5] at ho
        obtain ⟨A5, c5, rfl, -, -, -⟩ := ho.es
        clear ho
        have hpn : n % 6 < 5 := by have := HPN.out; omega
        go_wp2
        go_ret
        exact ⟨rfl, K5.out⟩
      · obtain rfl : p = 5 := by omega
        have hpn : ¬ n % 6 < 5 := by have := HPN.out; omega
        rw [HIn.out rfl] at ho
        by_cases hO : trO (C.pt m k (⟨x0, y0, z0, k0, a.a, a.b, a.c, a.d⟩ : C.V)) (C.pt m k (⟨x1, y1, z1, k1, b.a, b.b, b.c, b.d⟩ : C.V)) (C.pt m k (⟨x2, y2, z2, k2, c.a, c.b, c.c, c.d⟩ : C.V)) = true
        · rw [if_pos hO] at ho
          have hA : area (C.pt m k (⟨x0, y0, z0, k0, a.a, a.b, a.c, a.d⟩ : C.V)) (C.pt m k (⟨x1, y1, z1, k1, b.a, b.b, b.c, b.d⟩ : C.V)) (C.pt m k (⟨x2, y2, z2, k2, c.a, c.b, c.c, c.d⟩ : C.V)) ≠ 0 := by unfold trO at hO; simpa using hO
          unfold tr1 tr2 tr3 at ho
          rw [if_neg hA, if_neg hA, if_neg hA] at ho
          obtain ⟨A5, c5, rfl, -, -, es⟩ := ho.es
          obtain ⟨b5, off, rfl, hbB, hat⟩ := es.at (k := 0) rfl
          rw [show off + 0 * EQ.size = off by omega] at hat
          have cN : w5.cell? ⟨b5, off, none⟩ = some (.int .i64 0) := atQ_n hat
          have g4 : w5.cell? ⟨g, 4, none⟩ = some (.int .i64 a.a) := (v3B_0 T5.out) 4 _ rfl
          have g5 : w5.cell? ⟨g, 5, none⟩ = some (.int .i64 a.b) := (v3B_0 T5.out) 5 _ rfl
          have g6 : w5.cell? ⟨g, 6, none⟩ = some (.int .i64 a.c) := (v3B_0 T5.out) 6 _ rfl
          have g7 : w5.cell? ⟨g, 7, none⟩ = some (.int .i64 a.d) := (v3B_0 T5.out) 7 _ rfl
          have g12 : w5.cell? ⟨g, 12, none⟩ = some (.int .i64 b.a) := (v3B_1 T5.out) 4 _ rfl
          have g13 : w5.cell? ⟨g, 13, none⟩ = some (.int .i64 b.b) := (v3B_1 T5.out) 5 _ rfl
          have g14 : w5.cell? ⟨g, 14, none⟩ = some (.int .i64 b.c) := (v3B_1 T5.out) 6 _ rfl
          have g15 : w5.cell? ⟨g, 15, none⟩ = some (.int .i64 b.d) := (v3B_1 T5.out) 7 _ rfl
          have g20 : w5.cell? ⟨g, 20, none⟩ = some (.int .i64 c.a) := (v3B_2 T5.out) 4 _ rfl
          have g21 : w5.cell? ⟨g, 21, none⟩ = some (.int .i64 c.b) := (v3B_2 T5.out) 5 _ rfl
          have g22 : w5.cell? ⟨g, 22, none⟩ = some (.int .i64 c.c) := (v3B_2 T5.out) 6 _ rfl
          have g23 : w5.cell? ⟨g, 23, none⟩ = some (.int .i64 c.d) := (v3B_2 T5.out) 7 _ rfl
          by_cases hs : area (C.pt m k (⟨x0, y0, z0, k0, a.a, a.b, a.c, a.d⟩ : C.V)) (C.pt m k (⟨x1, y1, z1, k1, b.a, b.b, b.c, b.d⟩ : C.V)) (C.pt m k (⟨x2, y2, z2, k2, c.a, c.b, c.c, c.d⟩ : C.V)) < 0
          · rw [if_pos hs, if_pos hs] at hat
            have q4 : w5.cell? ⟨b5, off + 4, none⟩ = some (.int .i64 a.a) := hat 4 (.int .i64 a.a) rfl
            have q5 : w5.cell? ⟨b5, off + 5, none⟩ = some (.int .i64 a.b) := hat 5 (.int .i64 a.b) rfl
            have q6 : w5.cell? ⟨b5, off + 6, none⟩ = some (.int .i64 a.c) := hat 6 (.int .i64 a.c) rfl
            have q7 : w5.cell? ⟨b5, off + 7, none⟩ = some (.int .i64 a.d) := hat 7 (.int .i64 a.d) rfl
            have r4 : w5.cell? ⟨b5, off + 11, none⟩ = some (.int .i64 c.a) := hat 11 (.int .i64 c.a) rfl
            have r5 : w5.cell? ⟨b5, off + 12, none⟩ = some (.int .i64 c.b) := hat 12 (.int .i64 c.b) rfl
            have r6 : w5.cell? ⟨b5, off + 13, none⟩ = some (.int .i64 c.c) := hat 13 (.int .i64 c.c) rfl
            have r7 : w5.cell? ⟨b5, off + 14, none⟩ = some (.int .i64 c.d) := hat 14 (.int .i64 c.d) rfl
            have s4 : w5.cell? ⟨b5, off + 18, none⟩ = some (.int .i64 b.a) := hat 18 (.int .i64 b.a) rfl
            have s5 : w5.cell? ⟨b5, off + 19, none⟩ = some (.int .i64 b.b) := hat 19 (.int .i64 b.b) rfl
            have s6 : w5.cell? ⟨b5, off + 20, none⟩ = some (.int .i64 b.c) := hat 20 (.int .i64 b.c) rfl
            have s7 : w5.cell? ⟨b5, off + 21, none⟩ = some (.int .i64 b.d) := hat 21 (.int .i64 b.d) rfl
            clear hat es ho
            by_cases he : c.a = b.a ∧ c.b = b.b ∧ c.c = b.c ∧ c.d = b.d
            · obtain ⟨h1, h2, h3, h4⟩ := he
              rw [h1] at r4 g20
              rw [h2] at r5 g21
              rw [h3] at r6 g22
              rw [h4] at r7 g23
              go_wp2_with fail
              simp only [List.append]
              go_big_quiet (fail)
              go_wp2
              go_ret
              exact ⟨rfl, below_drewN K5.out⟩
            · have hse : C.sameA c.a c.b c.c c.d b.a b.b b.c b.d = false := by
                unfold C.sameA
                simpa using he
              go_wp2_with fail
              simp only [List.append]
              go_big_quiet (fail)
              go_wp2
              go_ret
              exact ⟨rfl, below_drewN K5.out⟩
          · rw [if_neg hs, if_neg hs] at hat
            have q4 : w5.cell? ⟨b5, off + 4, none⟩ = some (.int .i64 a.a) := hat 4 (.int .i64 a.a) rfl
            have q5 : w5.cell? ⟨b5, off + 5, none⟩ = some (.int .i64 a.b) := hat 5 (.int .i64 a.b) rfl
            have q6 : w5.cell? ⟨b5, off + 6, none⟩ = some (.int .i64 a.c) := hat 6 (.int .i64 a.c) rfl
            have q7 : w5.cell? ⟨b5, off + 7, none⟩ = some (.int .i64 a.d) := hat 7 (.int .i64 a.d) rfl
            have r4 : w5.cell? ⟨b5, off + 11, none⟩ = some (.int .i64 b.a) := hat 11 (.int .i64 b.a) rfl
            have r5 : w5.cell? ⟨b5, off + 12, none⟩ = some (.int .i64 b.b) := hat 12 (.int .i64 b.b) rfl
            have r6 : w5.cell? ⟨b5, off + 13, none⟩ = some (.int .i64 b.c) := hat 13 (.int .i64 b.c) rfl
            have r7 : w5.cell? ⟨b5, off + 14, none⟩ = some (.int .i64 b.d) := hat 14 (.int .i64 b.d) rfl
            have s4 : w5.cell? ⟨b5, off + 18, none⟩ = some (.int .i64 c.a) := hat 18 (.int .i64 c.a) rfl
            have s5 : w5.cell? ⟨b5, off + 19, none⟩ = some (.int .i64 c.b) := hat 19 (.int .i64 c.b) rfl
            have s6 : w5.cell? ⟨b5, off + 20, none⟩ = some (.int .i64 c.c) := hat 20 (.int .i64 c.c) rfl
            have s7 : w5.cell? ⟨b5, off + 21, none⟩ = some (.int .i64 c.d) := hat 21 (.int .i64 c.d) rfl
            clear hat es ho
            go_wp2_with fail
            simp only [List.append]
            go_big_quiet (fail)
            go_wp2
            go_ret
            exact ⟨rfl, below_drewN K5.out⟩
        · rw [if_neg hO] at ho
          obtain ⟨A5, c5, rfl, -, -, -⟩ := ho.es
          clear ho
          go_wp2
          go_ret
          exact ⟨rfl, K5.out⟩
end Go.Proofs.Ytfdlfjecgefgfaa
