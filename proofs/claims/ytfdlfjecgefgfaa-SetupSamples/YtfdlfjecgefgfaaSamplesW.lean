/-
  SetupSamples' walk.
-/
import Derived.Test.YtfdlfjecgefgfaaPut3
import Derived.Test.YtfdlfjecgefgfaaWholeP
import Derived.Test.YtfdlfjecgefgfaaBoxP
import Derived.Test.YtfdlfjecgefgfaaCRefP
namespace Go.Proofs.Ytfdlfjecgefgfaa
open Go.RowKit
attribute [local go_sem ↓] Go.wp_at_zero Go.wp_at_succ

theorem and0 {M : Int} (h : 0 ≤ M ∧ M ≤ 15) : bits .and .u8 M 0 = 0 := by
  have k : ∀ i : Fin 16, bits .and .u8 (i.val : Int) 0 = 0 := by decide +kernel
  have := k ⟨M.toNat, by omega⟩
  rwa [show ((M.toNat : Nat) : Int) = M by omega] at this
theorem or0 {M : Int} (h : 0 ≤ M ∧ M ≤ 15) : bits .or .u8 0 M = M := by
  have k : ∀ i : Fin 16, bits .or .u8 0 (i.val : Int) = (i.val : Int) := by decide +kernel
  have := k ⟨M.toNat, by omega⟩
  rwa [show ((M.toNat : Nat) : Int) = M by omega] at this

set_option maxRecDepth 100000 in
set_option maxHeartbeats 4000000 in
theorem samples_walk (a0 b0 c0 : C.V) (i j : Int) (hi0 : 0 ≤ i ∧ i ≤ 255) (hj0 : 0 ≤ j ∧ j ≤ 255) (w : World) :
    Calls Try.prog 7 #[.agg #[.int .u8 i, .int .u8 j], .agg #[.int .i64 a0.x, .int .i64 a0.y, .int .i64 a0.z, .int .i64 a0.w, .int .i64 a0.a, .int .i64 a0.b, .int .i64 a0.c, .int .i64 a0.d, .int .i64 b0.x, .int .i64 b0.y, .int .i64 b0.z, .int .i64 b0.w, .int .i64 b0.a, .int .i64 b0.b, .int .i64 b0.c, .int .i64 b0.d, .int .i64 c0.x, .int .i64 c0.y, .int .i64 c0.z, .int .i64 c0.w, .int .i64 c0.a, .int .i64 c0.b, .int .i64 c0.c, .int .i64 c0.d]] w fun e w' => e = .returned (.bool true) ∧ Below w.heap.size w w' := by
  have HSh := Lib.hid shown_any
  have HF := fit3_any a0 b0 c0
  have oa := C.fitV_ok a0
  have ob := C.fitV_ok b0
  have oc := C.fitV_ok c0
  generalize C.fitV a0 = a at *
  generalize C.fitV b0 = b at *
  generalize C.fitV c0 = c at *
  replace HF := Lib.hid HF
  obtain ⟨m, hm⟩ : ∃ m, 1 + i % 12 = m := ⟨_, rfl⟩
  obtain ⟨k, hk⟩ : ∃ k, 1 + j % 12 = k := ⟨_, rfl⟩
  have hmb : 1 ≤ m ∧ m ≤ 12 := by omega
  have hkb : 1 ≤ k ∧ k ≤ 12 := by omega
  have EM := Lib.hid hm
  have EK := Lib.hid hk
  clear hm hk
  obtain ⟨k0, hk0⟩ : ∃ k, 1 + a.w % 64 = k := ⟨_, rfl⟩
  have w0 : 0 ≤ a.w := by have := oa.w; omega
  have kb0 : 1 ≤ k0 ∧ k0 ≤ 64 := by omega
  have in0 : In5 (inV k0 a) := inV_in (by omega) oa
  unfold inV at in0
  obtain ⟨x0, ex0⟩ : ∃ x, a.x.tmod (4 * k0 + 1) = x := ⟨_, rfl⟩
  obtain ⟨y0, ey0⟩ : ∃ x, a.y.tmod (4 * k0 + 1) = x := ⟨_, rfl⟩
  obtain ⟨z0, ez0⟩ : ∃ x, a.z.tmod (k0 + 1) = x := ⟨_, rfl⟩
  rw [ex0, ey0, ez0] at in0
  have bx0 := in0.x
  have by0 := in0.y
  have bz0 := in0.z
  simp only [] at bx0 by0 bz0
  have EX0 := Lib.hid (show (a.x.tmod (4 * k0 + 1) = x0 ∧ IntKind.i64.wrap x0 = x0) ∧ (a.y.tmod (4 * k0 + 1) = y0 ∧ IntKind.i64.wrap y0 = y0) ∧ (a.z.tmod (k0 + 1) = z0 ∧ IntKind.i64.wrap z0 = z0) from
    ⟨⟨ex0, by rw [IntKind.wrap_i64]; omega⟩, ⟨ey0, by rw [IntKind.wrap_i64]; omega⟩, ⟨ez0, by rw [IntKind.wrap_i64]; omega⟩⟩)
  have EK0 := Lib.hid hk0
  have IN0 := Lib.hid in0
  clear hk0 ex0 ey0 ez0 in0 bx0 by0 bz0
  obtain ⟨k1, hk1⟩ : ∃ k, 1 + b.w % 64 = k := ⟨_, rfl⟩
  have w1 : 0 ≤ b.w := by have := ob.w; omega
  have kb1 : 1 ≤ k1 ∧ k1 ≤ 64 := by omega
  have in1 : In5 (inV k1 b) := inV_in (by omega) ob
  unfold inV at in1
  obtain ⟨x1, ex1⟩ : ∃ x, b.x.tmod (4 * k1 + 1) = x := ⟨_, rfl⟩
  obtain ⟨y1, ey1⟩ : ∃ x, b.y.tmod (4 * k1 + 1) = x := ⟨_, rfl⟩
  obtain ⟨z1, ez1⟩ : ∃ x, b.z.tmod (k1 + 1) = x := ⟨_, rfl⟩
  rw [ex1, ey1, ez1] at in1
  have bx1 := in1.x
  have by1 := in1.y
  have bz1 := in1.z
  simp only [] at bx1 by1 bz1
  have EX1 := Lib.hid (show (b.x.tmod (4 * k1 + 1) = x1 ∧ IntKind.i64.wrap x1 = x1) ∧ (b.y.tmod (4 * k1 + 1) = y1 ∧ IntKind.i64.wrap y1 = y1) ∧ (b.z.tmod (k1 + 1) = z1 ∧ IntKind.i64.wrap z1 = z1) from
    ⟨⟨ex1, by rw [IntKind.wrap_i64]; omega⟩, ⟨ey1, by rw [IntKind.wrap_i64]; omega⟩, ⟨ez1, by rw [IntKind.wrap_i64]; omega⟩⟩)
  have EK1 := Lib.hid hk1
  have IN1 := Lib.hid in1
  clear hk1 ex1 ey1 ez1 in1 bx1 by1 bz1
  obtain ⟨k2, hk2⟩ : ∃ k, 1 + c.w % 64 = k := ⟨_, rfl⟩
  have w2 : 0 ≤ c.w := by have := oc.w; omega
  have kb2 : 1 ≤ k2 ∧ k2 ≤ 64 := by omega
  have in2 : In5 (inV k2 c) := inV_in (by omega) oc
  unfold inV at in2
  obtain ⟨x2, ex2⟩ : ∃ x, c.x.tmod (4 * k2 + 1) = x := ⟨_, rfl⟩
  obtain ⟨y2, ey2⟩ : ∃ x, c.y.tmod (4 * k2 + 1) = x := ⟨_, rfl⟩
  obtain ⟨z2, ez2⟩ : ∃ x, c.z.tmod (k2 + 1) = x := ⟨_, rfl⟩
  rw [ex2, ey2, ez2] at in2
  have bx2 := in2.x
  have by2 := in2.y
  have bz2 := in2.z
  simp only [] at bx2 by2 bz2
  have EX2 := Lib.hid (show (c.x.tmod (4 * k2 + 1) = x2 ∧ IntKind.i64.wrap x2 = x2) ∧ (c.y.tmod (4 * k2 + 1) = y2 ∧ IntKind.i64.wrap y2 = y2) ∧ (c.z.tmod (k2 + 1) = z2 ∧ IntKind.i64.wrap z2 = z2) from
    ⟨⟨ex2, by rw [IntKind.wrap_i64]; omega⟩, ⟨ey2, by rw [IntKind.wrap_i64]; omega⟩, ⟨ez2, by rw [IntKind.wrap_i64]; omega⟩⟩)
  have EK2 := Lib.hid hk2
  have IN2 := Lib.hid in2
  clear hk2 ex2 ey2 ez2 in2 bx2 by2 bz2
  have HP := Lib.hid (fun w => prt_any IN0.out.ok IN1.out.ok IN2.out.ok (show 1 ≤ m ∧ m ≤ 64 by omega) (show 1 ≤ k ∧ k ≤ 64 by omega) w)
  have HIn := Lib.hid (show prt m k (⟨x0, y0, z0, k0, a.a, a.b, a.c, a.d⟩ : C.V) (⟨x1, y1, z1, k1, b.a, b.b, b.c, b.d⟩ : C.V) (⟨x2, y2, z2, k2, c.a, c.b, c.c, c.d⟩ : C.V) = _ from parts_three IN0.out IN1.out IN2.out (show 1 ≤ m ∧ m ≤ 64 by omega) (show 1 ≤ k ∧ k ≤ 64 by omega))
  have HOK := Lib.hid (okAll3 IN0.out IN1.out IN2.out (show 1 ≤ m ∧ m ≤ 64 by omega) (show 1 ≤ k ∧ k ≤ 64 by omega))
  have HRP := Lib.hid (show ∀ A c' B w, C.Vs w B A [(⟨x0, y0, z0, k0, a.a, a.b, a.c, a.d⟩ : C.V), (⟨x1, y1, z1, k1, b.a, b.b, b.c, b.d⟩ : C.V), (⟨x2, y2, z2, k2, c.a, c.b, c.c, c.d⟩ : C.V)] → B ≤ w.heap.size → Calls Try.prog 21 #[.int .i64 m, .int .i64 k, .slice A 3 c'] w (C.MadeB w.heap.size w [C.pt m k (⟨x0, y0, z0, k0, a.a, a.b, a.c, a.d⟩ : C.V), C.pt m k (⟨x1, y1, z1, k1, b.a, b.b, b.c, b.d⟩ : C.V), C.pt m k (⟨x2, y2, z2, k2, c.a, c.b, c.c, c.d⟩ : C.V)] true) from fun A c' B w hs hB => by
    have h := C.rpoints_any m k A c' [(⟨x0, y0, z0, k0, a.a, a.b, a.c, a.d⟩ : C.V), (⟨x1, y1, z1, k1, b.a, b.b, b.c, b.d⟩ : C.V), (⟨x2, y2, z2, k2, c.a, c.b, c.c, c.d⟩ : C.V)] B w hs hB (by simp) (by
      intro v hv
      simp only [List.mem_cons, List.not_mem_nil, or_false] at hv
      rcases hv with rfl | rfl | rfl
      · exact IN0.out.ok.sm
      · exact IN1.out.ok.sm
      · exact IN2.out.ok.sm)
    unfold C.pts at h
    rw [if_pos HOK.out, HOK.out] at h
    exact h)
  have s0 : (C.pt m k (⟨x0, y0, z0, k0, a.a, a.b, a.c, a.d⟩ : C.V)).sm := pt_sm IN0.out.ok (fun j _ => by have := IN0.out.dist (j : Int); omega) (by omega) (by omega)
  have s1 : (C.pt m k (⟨x1, y1, z1, k1, b.a, b.b, b.c, b.d⟩ : C.V)).sm := pt_sm IN1.out.ok (fun j _ => by have := IN1.out.dist (j : Int); omega) (by omega) (by omega)
  have s2 : (C.pt m k (⟨x2, y2, z2, k2, c.a, c.b, c.c, c.d⟩ : C.V)).sm := pt_sm IN2.out.ok (fun j _ => by have := IN2.out.dist (j : Int); omega) (by omega) (by omega)
  obtain ⟨p0, hp0⟩ : ∃ p, C.pt m k (⟨x0, y0, z0, k0, a.a, a.b, a.c, a.d⟩ : C.V) = p := ⟨_, rfl⟩
  obtain ⟨p1, hp1⟩ : ∃ p, C.pt m k (⟨x1, y1, z1, k1, b.a, b.b, b.c, b.d⟩ : C.V) = p := ⟨_, rfl⟩
  obtain ⟨p2, hp2⟩ : ∃ p, C.pt m k (⟨x2, y2, z2, k2, c.a, c.b, c.c, c.d⟩ : C.V) = p := ⟨_, rfl⟩
  rw [hp0] at s0 HIn HRP
  rw [hp1] at s1 HIn HRP
  rw [hp2] at s2 HIn HRP
  have HTU := rturned_any p0 p1 p2 s0 s1 s2
  obtain ⟨sd, se, sf⟩ := tr_sm s0 s1 s2
  generalize prt m k (⟨x0, y0, z0, k0, a.a, a.b, a.c, a.d⟩ : C.V) (⟨x1, y1, z1, k1, b.a, b.b, b.c, b.d⟩ : C.V) (⟨x2, y2, z2, k2, c.a, c.b, c.c, c.d⟩ : C.V) = PL at *
  generalize tr1 p0 p1 p2 = d at *
  generalize tr2 p0 p1 p2 = e at *
  generalize tr3 p0 p1 p2 = f at *
  generalize trO p0 p1 p2 = o at *
  replace HTU := Lib.hid HTU
  have HPL0 := Lib.hid (show o = false → PL = [] from fun h => by have := HIn.out; rw [h] at this; exact this)
  have HPL1 := Lib.hid (show o = true → PL = [⟨0, d, e, f⟩] from fun h => by have := HIn.out; rw [h] at this; exact this)
  have HM := Lib.hid (fun x y hx hy => rmask_any d e f x y sd se sf hx hy)
  clear oa ob oc hp0 hp1 hp2 s0 s1 s2 sd se sf HIn HOK
  go_enter Try.func7, Try.ntmps7
  go_wp2_with fail
  with_reducible refine (HSh.out _).mono ?_
  rintro e' w1 ⟨rfl, hb⟩
  have T1 := Lib.hid (show w1.heap[w.heap.size + 1]? = some (v3B a0 b0 c0) from (hb.block _ (by simp)).trans (new_two _ _).2)
  have S0 : w1.cell? ⟨w.heap.size, 0, none⟩ = some (.int .u8 i) := (hb.cell (p := ⟨w.heap.size, 0, none⟩) (by simp; omega)).trans (by simp [go_sem])
  have S1 : w1.cell? ⟨w.heap.size, 1, none⟩ = some (.int .u8 j) := (hb.cell (p := ⟨w.heap.size, 1, none⟩) (by simp; omega)).trans (by simp [go_sem])
  have K1 := Lib.hid (bstep (((Below.refl w.heap.size w).alloc (Nat.le_refl _) _).alloc (by simp) _) (by simp; omega) hb)
  clear hb
  go_wp2_with (refine wp_load3 (a := a0) (b := b0) (c := c0) (.tmp 3) rfl rfl rfl T1.out ?_)
  with_reducible refine (HF.out _).mono ?_
  rintro e' w2 ⟨rfl, hb⟩
  have K2 := Lib.hid (bstep K1.out K1.out.size hb)
  clear hb S0 S1 T1 K1
  rw [EM.out, EK.out]
  go_wp2_with (refine wp_new3 (a := a) (b := b) (c := c) _ rfl rfl rfl rfl rfl rfl rfl rfl ?_)
  obtain ⟨W0, hW0⟩ : ∃ W0, W0 = w2.alloc (.cells #[.int .i64 a.x, .int .i64 a.y, .int .i64 a.z, .int .i64 a.w, .int .i64 a.a, .int .i64 a.b, .int .i64 a.c, .int .i64 a.d, .int .i64 b.x, .int .i64 b.y, .int .i64 b.z, .int .i64 b.w, .int .i64 b.a, .int .i64 b.b, .int .i64 b.c, .int .i64 b.d, .int .i64 c.x, .int .i64 c.y, .int .i64 c.z, .int .i64 c.w, .int .i64 c.a, .int .i64 c.b, .int .i64 c.c, .int .i64 c.d] 26) := ⟨_, rfl⟩
  rw [← hW0]
  have T0 := Lib.hid (show W0.heap[w2.heap.size]? = some (v3B a b c) by rw [hW0]; exact new_at rfl)
  have K0 := Lib.hid (show Below w.heap.size w W0 by rw [hW0]; exact K2.out.alloc K2.out.size _)
  have hg : w.heap.size ≤ w2.heap.size := K2.out.size
  clear hW0 K2
  generalize w2.heap.size = g at *
  go_loopw [9] (fun i wr => ∃ t : Nat, t ≤ 3 ∧ i = .int .i64 t ∧ wr.heap[g]? = some (match t with | 0 => v3B a b c | 1 => v3B (⟨x0, y0, z0, k0, a.a, a.b, a.c, a.d⟩ : C.V) b c | 2 => v3B (⟨x0, y0, z0, k0, a.a, a.b, a.c, a.d⟩ : C.V) (⟨x1, y1, z1, k1, b.a, b.b, b.c, b.d⟩ : C.V) c | _ => v3B (⟨x0, y0, z0, k0, a.a, a.b, a.c, a.d⟩ : C.V) (⟨x1, y1, z1, k1, b.a, b.b, b.c, b.d⟩ : C.V) (⟨x2, y2, z2, k2, c.a, c.b, c.c, c.d⟩ : C.V)) ∧ Below w.heap.size w wr) (fun i _ => 3 - (intOf i).toNat)
  case atStart => exact ⟨0, by omega, rfl, T0.out, K0.out⟩
  case round =>
    obtain ⟨t, ht, rfl, hT, hB⟩ := hrel
    have HB := Lib.hid hB
    clear hB T0 K0
    obtain rfl | rfl | rfl | rfl : t = 0 ∨ t = 1 ∨ t = 2 ∨ t = 3 := by omega
    all_goals
      simp only [] at hT
      have HT := Lib.hid hT
      clear hT
    · skip
      have c0 : wr.cell? ⟨g, 0, none⟩ = some (.int .i64 a.x) := (v3B_0 HT.out) 0 _ rfl
      have c1 : wr.cell? ⟨g, 1, none⟩ = some (.int .i64 a.y) := (v3B_0 HT.out) 1 _ rfl
      have c2 : wr.cell? ⟨g, 2, none⟩ = some (.int .i64 a.z) := (v3B_0 HT.out) 2 _ rfl
      have c3 : wr.cell? ⟨g, 3, none⟩ = some (.int .i64 a.w) := (v3B_0 HT.out) 3 _ rfl
      have fz := v3B_free HT.out
      go_upto_region 9 with fail
      rw [EK0.out]
      obtain ⟨W1, hW1⟩ : ∃ W1, W1 = wr.setCell ⟨g, 3, none⟩ (.int .i64 k0) := ⟨_, rfl⟩
      rw [← hW1]
      have T1 := Lib.hid (show W1.heap[g]? = some (v3B (⟨a.x, a.y, a.z, k0, a.a, a.b, a.c, a.d⟩ : C.V) b c) by rw [hW1]; exact v3B_set HT.out 3 _ (by kernel_rfl))
      have K1 := Lib.hid (show Below w.heap.size w W1 by rw [hW1]; exact HB.out.setCell hg _)
      clear hW1 c0 c1 c2 c3 fz HT HB
      have c0 : W1.cell? ⟨g, 0, none⟩ = some (.int .i64 a.x) := (v3B_0 T1.out) 0 _ rfl
      have c1 : W1.cell? ⟨g, 1, none⟩ = some (.int .i64 a.y) := (v3B_0 T1.out) 1 _ rfl
      have c2 : W1.cell? ⟨g, 2, none⟩ = some (.int .i64 a.z) := (v3B_0 T1.out) 2 _ rfl
      have c3 : W1.cell? ⟨g, 3, none⟩ = some (.int .i64 k0) := (v3B_0 T1.out) 3 _ rfl
      have fz := v3B_free T1.out
      obtain ⟨⟨ex, wx⟩, ⟨ey, wy⟩, ⟨ez, wz⟩⟩ := EX0.out
      have nz : ¬ 4 * k0 + 1 = 0 := by omega
      have nz2 : ¬ k0 + 1 = 0 := by omega
      go_upto_region 7 with fail
      obtain ⟨W2, hW2⟩ : ∃ W2, W2 = ((W1.setCell ⟨g, 0, none⟩ (.int .i64 x0)).setCell ⟨g, 1, none⟩ (.int .i64 y0)).setCell ⟨g, 2, none⟩ (.int .i64 z0) := ⟨_, rfl⟩
      rw [← hW2]
      have T2 := Lib.hid (show W2.heap[g]? = some (v3B (⟨x0, y0, z0, k0, a.a, a.b, a.c, a.d⟩ : C.V) b c) by rw [hW2]; exact v3B_set (v3B_set (v3B_set T1.out 0 _ rfl) 1 _ rfl) 2 _ (by kernel_rfl))
      have K2 := Lib.hid (show Below w.heap.size w W2 by rw [hW2]; exact ((K1.out.setCell hg _).setCell hg _).setCell hg _)
      clear hW2 c0 c1 c2 c3 fz T1 K1 ex wx ey wy ez wz
      go_wp2
      go_roundw
      case rel => exact ⟨1, by omega, rfl, T2.out, K2.out⟩
      case measure => simp [intOf]
    · skip
      have c0 : wr.cell? ⟨g, 8, none⟩ = some (.int .i64 b.x) := (v3B_1 HT.out) 0 _ rfl
      have c1 : wr.cell? ⟨g, 9, none⟩ = some (.int .i64 b.y) := (v3B_1 HT.out) 1 _ rfl
      have c2 : wr.cell? ⟨g, 10, none⟩ = some (.int .i64 b.z) := (v3B_1 HT.out) 2 _ rfl
      have c3 : wr.cell? ⟨g, 11, none⟩ = some (.int .i64 b.w) := (v3B_1 HT.out) 3 _ rfl
      have fz := v3B_free HT.out
      go_upto_region 9 with fail
      rw [EK1.out]
      obtain ⟨W1, hW1⟩ : ∃ W1, W1 = wr.setCell ⟨g, 11, none⟩ (.int .i64 k1) := ⟨_, rfl⟩
      rw [← hW1]
      have T1 := Lib.hid (show W1.heap[g]? = some (v3B (⟨x0, y0, z0, k0, a.a, a.b, a.c, a.d⟩ : C.V) (⟨b.x, b.y, b.z, k1, b.a, b.b, b.c, b.d⟩ : C.V) c) by rw [hW1]; exact v3B_set HT.out 11 _ (by kernel_rfl))
      have K1 := Lib.hid (show Below w.heap.size w W1 by rw [hW1]; exact HB.out.setCell hg _)
      clear hW1 c0 c1 c2 c3 fz HT HB
      have c0 : W1.cell? ⟨g, 8, none⟩ = some (.int .i64 b.x) := (v3B_1 T1.out) 0 _ rfl
      have c1 : W1.cell? ⟨g, 9, none⟩ = some (.int .i64 b.y) := (v3B_1 T1.out) 1 _ rfl
      have c2 : W1.cell? ⟨g, 10, none⟩ = some (.int .i64 b.z) := (v3B_1 T1.out) 2 _ rfl
      have c3 : W1.cell? ⟨g, 11, none⟩ = some (.int .i64 k1) := (v3B_1 T1.out) 3 _ rfl
      have fz := v3B_free T1.out
      obtain ⟨⟨ex, wx⟩, ⟨ey, wy⟩, ⟨ez, wz⟩⟩ := EX1.out
      have nz : ¬ 4 * k1 + 1 = 0 := by omega
      have nz2 : ¬ k1 + 1 = 0 := by omega
      go_upto_region 7 with fail
      obtain ⟨W2, hW2⟩ : ∃ W2, W2 = ((W1.setCell ⟨g, 8, none⟩ (.int .i64 x1)).setCell ⟨g, 9, none⟩ (.int .i64 y1)).setCell ⟨g, 10, none⟩ (.int .i64 z1) := ⟨_, rfl⟩
      rw [← hW2]
      have T2 := Lib.hid (show W2.heap[g]? = some (v3B (⟨x0, y0, z0, k0, a.a, a.b, a.c, a.d⟩ : C.V) (⟨x1, y1, z1, k1, b.a, b.b, b.c, b.d⟩ : C.V) c) by rw [hW2]; exact v3B_set (v3B_set (v3B_set T1.out 8 _ rfl) 9 _ rfl) 10 _ (by kernel_rfl))
      have K2 := Lib.hid (show Below w.heap.size w W2 by rw [hW2]; exact ((K1.out.setCell hg _).setCell hg _).setCell hg _)
      clear hW2 c0 c1 c2 c3 fz T1 K1 ex wx ey wy ez wz
      go_wp2
      go_roundw
      case rel => exact ⟨2, by omega, rfl, T2.out, K2.out⟩
      case measure => simp [intOf]
    · skip
      have c0 : wr.cell? ⟨g, 16, none⟩ = some (.int .i64 c.x) := (v3B_2 HT.out) 0 _ rfl
      have c1 : wr.cell? ⟨g, 17, none⟩ = some (.int .i64 c.y) := (v3B_2 HT.out) 1 _ rfl
      have c2 : wr.cell? ⟨g, 18, none⟩ = some (.int .i64 c.z) := (v3B_2 HT.out) 2 _ rfl
      have c3 : wr.cell? ⟨g, 19, none⟩ = some (.int .i64 c.w) := (v3B_2 HT.out) 3 _ rfl
      have fz := v3B_free HT.out
      go_upto_region 9 with fail
      rw [EK2.out]
      obtain ⟨W1, hW1⟩ : ∃ W1, W1 = wr.setCell ⟨g, 19, none⟩ (.int .i64 k2) := ⟨_, rfl⟩
      rw [← hW1]
      have T1 := Lib.hid (show W1.heap[g]? = some (v3B (⟨x0, y0, z0, k0, a.a, a.b, a.c, a.d⟩ : C.V) (⟨x1, y1, z1, k1, b.a, b.b, b.c, b.d⟩ : C.V) (⟨c.x, c.y, c.z, k2, c.a, c.b, c.c, c.d⟩ : C.V)) by rw [hW1]; exact v3B_set HT.out 19 _ (by kernel_rfl))
      have K1 := Lib.hid (show Below w.heap.size w W1 by rw [hW1]; exact HB.out.setCell hg _)
      clear hW1 c0 c1 c2 c3 fz HT HB
      have c0 : W1.cell? ⟨g, 16, none⟩ = some (.int .i64 c.x) := (v3B_2 T1.out) 0 _ rfl
      have c1 : W1.cell? ⟨g, 17, none⟩ = some (.int .i64 c.y) := (v3B_2 T1.out) 1 _ rfl
      have c2 : W1.cell? ⟨g, 18, none⟩ = some (.int .i64 c.z) := (v3B_2 T1.out) 2 _ rfl
      have c3 : W1.cell? ⟨g, 19, none⟩ = some (.int .i64 k2) := (v3B_2 T1.out) 3 _ rfl
      have fz := v3B_free T1.out
      obtain ⟨⟨ex, wx⟩, ⟨ey, wy⟩, ⟨ez, wz⟩⟩ := EX2.out
      have nz : ¬ 4 * k2 + 1 = 0 := by omega
      have nz2 : ¬ k2 + 1 = 0 := by omega
      go_upto_region 7 with fail
      obtain ⟨W2, hW2⟩ : ∃ W2, W2 = ((W1.setCell ⟨g, 16, none⟩ (.int .i64 x2)).setCell ⟨g, 17, none⟩ (.int .i64 y2)).setCell ⟨g, 18, none⟩ (.int .i64 z2) := ⟨_, rfl⟩
      rw [← hW2]
      have T2 := Lib.hid (show W2.heap[g]? = some (v3B (⟨x0, y0, z0, k0, a.a, a.b, a.c, a.d⟩ : C.V) (⟨x1, y1, z1, k1, b.a, b.b, b.c, b.d⟩ : C.V) (⟨x2, y2, z2, k2, c.a, c.b, c.c, c.d⟩ : C.V)) by rw [hW2]; exact v3B_set (v3B_set (v3B_set T1.out 16 _ rfl) 17 _ rfl) 18 _ (by kernel_rfl))
      have K2 := Lib.hid (show Below w.heap.size w W2 by rw [hW2]; exact ((K1.out.setCell hg _).setCell hg _).setCell hg _)
      clear hW2 c0 c1 c2 c3 fz T1 K1 ex wx ey wy ez wz
      go_wp2
      go_roundw
      case rel => exact ⟨3, by omega, rfl, T2.out, K2.out⟩
      case measure => simp [intOf]
    · go_wp2_with (refine wp_load3 (a := (⟨x0, y0, z0, k0, a.a, a.b, a.c, a.d⟩ : C.V)) (b := (⟨x1, y1, z1, k1, b.a, b.b, b.c, b.d⟩ : C.V)) (c := (⟨x2, y2, z2, k2, c.a, c.b, c.c, c.d⟩ : C.V)) (.tmp 8) rfl rfl rfl HT.out ?_)
      with_reducible refine (HP.out _).mono ?_
      rintro e' w5 ⟨v5, rfl, ho, hb⟩
      have K5 := Lib.hid (bstep HB.out HB.out.size hb)
      have T5 := Lib.hid (v3B_grow HT.out hb)
      have HOP := Lib.hid ho
      clear hb HT HB ho
      go_wp2_with fail
      with_reducible refine (HRP.out _ _ _ _ (v3B_vs T5.out) (Nat.le_refl _)).mono ?_
      rintro e' w6 ⟨v6, rfl, ho6, hb6⟩
      have K6 := Lib.hid (bstep K5.out K5.out.size hb6)
      have K56 := Lib.hid hb6
      obtain ⟨A6, c6, rfl, -, -, ps6⟩ := ho6.ps
      obtain ⟨b6, off6, rfl, hbB6, hcell⟩ := ps6 (by simp)
      have R0 := Lib.hid (show w6.rangeAt b6 off6 [.int .i64 p0.x, .int .i64 p0.y, .int .i64 p0.z, .int .i64 p0.a, .int .i64 p0.b, .int .i64 p0.c, .int .i64 p0.d] by have h := at7_range (hcell 0 p0 rfl); rw [Nat.zero_mul, Nat.add_zero] at h; exact h)
      have R1 := Lib.hid (show w6.rangeAt b6 (off6 + 7) [.int .i64 p1.x, .int .i64 p1.y, .int .i64 p1.z, .int .i64 p1.a, .int .i64 p1.b, .int .i64 p1.c, .int .i64 p1.d] by have h := at7_range (hcell 1 p1 rfl); rw [Nat.one_mul] at h; exact h)
      have R2 := Lib.hid (show w6.rangeAt b6 (off6 + 14) [.int .i64 p2.x, .int .i64 p2.y, .int .i64 p2.z, .int .i64 p2.a, .int .i64 p2.b, .int .i64 p2.c, .int .i64 p2.d] from at7_range (hcell 2 p2 rfl))
      have hbz : b6 < w6.heap.size := hbB6
      clear hb6 ho6 ps6 hcell
      go_wp2_with fail
      obtain ⟨Y0, hY0⟩ : ∃ Y0, Y0 = World.drew w6 := ⟨_, rfl⟩
      have B0 := Lib.hid (show Below w6.heap.size w6 Y0 by rw [hY0]; exact (Below.refl _ _).drew)
      refine wp_region_held_drew (S := fun w' => ∃ x : Grow w6, w' = x.w) (by kernel_rfl) ⟨⟨Y0, B0.out⟩, hY0.symm⟩ (fun hS => ?_)
      rw [← hY0] at hS ⊢
      clear hY0
      refine wpAnyH_take (i := 0) (v := (.slice (some ⟨b6, off6, none⟩) 3 c6)) rfl (by kernel_rfl) (by kernel_rfl) (by kernel_rfl) (fun _ _ _ h => h) (Or.inl ⟨by rfl, fun w hw => by obtain ⟨x, rfl⟩ := hw; go_simp⟩) hS ?_
      try simp only [Act.put, List.setIfInBounds_toArray, List.set_cons_zero, List.set_cons_succ, List.getElem_toArray, List.getElem_cons_zero]
      refine wpAnyH_take (i := 1) (v := (.pointer (some ⟨b6, off6, none⟩))) rfl (by kernel_rfl) (by kernel_rfl) (by kernel_rfl) (fun _ _ _ h => h) (Or.inl ⟨by rfl, fun w hw => by obtain ⟨x, rfl⟩ := hw; go_simp⟩) hS ?_
      try simp only [Act.put, List.setIfInBounds_toArray, List.set_cons_zero, List.set_cons_succ, List.getElem_toArray, List.getElem_cons_zero, List.getElem_cons_succ]
      refine wpAnyH_take (i := 2) (v := (.agg #[.int .i64 p0.x, .int .i64 p0.y, .int .i64 p0.z, .int .i64 p0.a, .int .i64 p0.b, .int .i64 p0.c, .int .i64 p0.d])) rfl (by kernel_rfl) (by kernel_rfl) (by kernel_rfl) (fun _ _ _ h => h) (yields_pnt (v := p0) _ rfl rfl rfl R0.out hbz) hS ?_
      try simp only [Act.put, List.setIfInBounds_toArray, List.set_cons_zero, List.set_cons_succ, List.getElem_toArray, List.getElem_cons_zero, List.getElem_cons_succ]
      refine wpAnyH_take (i := 3) (v := (.slice (some ⟨b6, off6, none⟩) 3 c6)) rfl (by kernel_rfl) (by kernel_rfl) (by kernel_rfl) (fun _ _ _ h => h) (Or.inl ⟨by rfl, fun w hw => by obtain ⟨x, rfl⟩ := hw; go_simp⟩) hS ?_
      try simp only [Act.put, List.setIfInBounds_toArray, List.set_cons_zero, List.set_cons_succ, List.getElem_toArray, List.getElem_cons_zero, List.getElem_cons_succ]
      refine wpAnyH_take (i := 4) (v := (.pointer (some ⟨b6, off6 + 7, none⟩))) rfl (by kernel_rfl) (by kernel_rfl) (by kernel_rfl) (fun _ _ _ h => h) (Or.inl ⟨by rfl, fun w hw => by obtain ⟨x, rfl⟩ := hw; go_simp⟩) hS ?_
      try simp only [Act.put, List.setIfInBounds_toArray, List.set_cons_zero, List.set_cons_succ, List.getElem_toArray, List.getElem_cons_zero, List.getElem_cons_succ]
      refine wpAnyH_take (i := 5) (v := (.agg #[.int .i64 p1.x, .int .i64 p1.y, .int .i64 p1.z, .int .i64 p1.a, .int .i64 p1.b, .int .i64 p1.c, .int .i64 p1.d])) rfl (by kernel_rfl) (by kernel_rfl) (by kernel_rfl) (fun _ _ _ h => h) (yields_pnt (v := p1) _ rfl rfl rfl R1.out hbz) hS ?_
      try simp only [Act.put, List.setIfInBounds_toArray, List.set_cons_zero, List.set_cons_succ, List.getElem_toArray, List.getElem_cons_zero, List.getElem_cons_succ]
      refine wpAnyH_take (i := 6) (v := (.slice (some ⟨b6, off6, none⟩) 3 c6)) rfl (by kernel_rfl) (by kernel_rfl) (by kernel_rfl) (fun _ _ _ h => h) (Or.inl ⟨by rfl, fun w hw => by obtain ⟨x, rfl⟩ := hw; go_simp⟩) hS ?_
      try simp only [Act.put, List.setIfInBounds_toArray, List.set_cons_zero, List.set_cons_succ, List.getElem_toArray, List.getElem_cons_zero, List.getElem_cons_succ]
      refine wpAnyH_take (i := 7) (v := (.pointer (some ⟨b6, off6 + 14, none⟩))) rfl (by kernel_rfl) (by kernel_rfl) (by kernel_rfl) (fun _ _ _ h => h) (Or.inl ⟨by rfl, fun w hw => by obtain ⟨x, rfl⟩ := hw; go_simp⟩) hS ?_
      try simp only [Act.put, List.setIfInBounds_toArray, List.set_cons_zero, List.set_cons_succ, List.getElem_toArray, List.getElem_cons_zero, List.getElem_cons_succ]
      refine wpAnyH_take (i := 8) (v := (.agg #[.int .i64 p2.x, .int .i64 p2.y, .int .i64 p2.z, .int .i64 p2.a, .int .i64 p2.b, .int .i64 p2.c, .int .i64 p2.d])) rfl (by kernel_rfl) (by kernel_rfl) (by kernel_rfl) (fun _ _ _ h => h) (yields_pnt (v := p2) _ rfl rfl rfl R2.out hbz) hS ?_
      try simp only [Act.put, List.setIfInBounds_toArray, List.set_cons_zero, List.set_cons_succ, List.getElem_toArray, List.getElem_cons_zero, List.getElem_cons_succ]
      refine wpAnyH_take (i := 9) (v := (.agg #[.int .i64 p0.x, .int .i64 p0.y, .int .i64 p0.z, .int .i64 p0.a, .int .i64 p0.b, .int .i64 p0.c, .int .i64 p0.d, .int .i64 p1.x, .int .i64 p1.y, .int .i64 p1.z, .int .i64 p1.a, .int .i64 p1.b, .int .i64 p1.c, .int .i64 p1.d, .int .i64 p2.x, .int .i64 p2.y, .int .i64 p2.z, .int .i64 p2.a, .int .i64 p2.b, .int .i64 p2.c, .int .i64 p2.d])) rfl (by kernel_rfl) (by kernel_rfl) (by kernel_rfl) (fun _ _ _ h => h) (yields_build 38 [(0, .tmp 98), (1, .tmp 101), (2, .tmp 104)] #[.int .i64 p0.x, .int .i64 p0.y, .int .i64 p0.z, .int .i64 p0.a, .int .i64 p0.b, .int .i64 p0.c, .int .i64 p0.d, .int .i64 p1.x, .int .i64 p1.y, .int .i64 p1.z, .int .i64 p1.a, .int .i64 p1.b, .int .i64 p1.c, .int .i64 p1.d, .int .i64 p2.x, .int .i64 p2.y, .int .i64 p2.z, .int .i64 p2.a, .int .i64 p2.b, .int .i64 p2.c, .int .i64 p2.d] rfl rfl (by kernel_rfl)) hS ?_
      try simp only [Act.put, List.setIfInBounds_toArray, List.set_cons_zero, List.set_cons_succ, List.getElem_toArray, List.getElem_cons_zero, List.getElem_cons_succ]
      refine wpAnyH_ready (rs := [10, 14]) (by kernel_rfl) (by simp) ?_
      refine AllReadyH.cons rfl (fun K hK => ?_) ?_
      · skip
        go_simp
        with_reducible refine (HTU.out _).mono ?_
        rintro e t1 ⟨rfl, hb⟩
        have Bt1 := Lib.hid (bstep B0.out B0.out.size hb)
        clear hb
        refine hK.out _ _ ⟨⟨_, Bt1.out⟩, rfl⟩ (fun hS => ?_)
        clear hK K
        try simp only [Act.put, List.setIfInBounds_toArray, List.set_cons_zero, List.set_cons_succ, List.getElem_toArray, List.getElem_cons_zero, List.getElem_cons_succ]
        refine wpAnyH_take (i := 11) (v := (.tuple #[.agg #[.int .i64 d.x, .int .i64 d.y, .int .i64 d.z, .int .i64 d.a, .int .i64 d.b, .int .i64 d.c, .int .i64 d.d, .int .i64 e.x, .int .i64 e.y, .int .i64 e.z, .int .i64 e.a, .int .i64 e.b, .int .i64 e.c, .int .i64 e.d, .int .i64 f.x, .int .i64 f.y, .int .i64 f.z, .int .i64 f.a, .int .i64 f.b, .int .i64 f.c, .int .i64 f.d], .bool o])) rfl (by kernel_rfl) (by kernel_rfl) (by kernel_rfl) (fun _ _ _ h => h) (Or.inl ⟨by rfl, fun w hw => by obtain ⟨x, rfl⟩ := hw; go_simp⟩) hS ?_
        try simp only [Act.put, List.setIfInBounds_toArray, List.set_cons_zero, List.set_cons_succ, List.getElem_toArray, List.getElem_cons_zero, List.getElem_cons_succ]
        refine wpAnyH_take (i := 12) (v := (.agg #[.int .i64 d.x, .int .i64 d.y, .int .i64 d.z, .int .i64 d.a, .int .i64 d.b, .int .i64 d.c, .int .i64 d.d, .int .i64 e.x, .int .i64 e.y, .int .i64 e.z, .int .i64 e.a, .int .i64 e.b, .int .i64 e.c, .int .i64 e.d, .int .i64 f.x, .int .i64 f.y, .int .i64 f.z, .int .i64 f.a, .int .i64 f.b, .int .i64 f.c, .int .i64 f.d])) rfl (by kernel_rfl) (by kernel_rfl) (by kernel_rfl) (fun _ _ _ h => h) (Or.inl ⟨by rfl, fun w hw => by obtain ⟨x, rfl⟩ := hw; go_simp⟩) hS ?_
        try simp only [Act.put, List.setIfInBounds_toArray, List.set_cons_zero, List.set_cons_succ, List.getElem_toArray, List.getElem_cons_zero, List.getElem_cons_succ]
        refine wpAnyH_take (i := 13) (v := (.bool o)) rfl (by kernel_rfl) (by kernel_rfl) (by kernel_rfl) (fun _ _ _ h => h) (Or.inl ⟨by rfl, fun w hw => by obtain ⟨x, rfl⟩ := hw; go_simp⟩) hS ?_
        try simp only [Act.put, List.setIfInBounds_toArray, List.set_cons_zero, List.set_cons_succ, List.getElem_toArray, List.getElem_cons_zero, List.getElem_cons_succ]
        refine wpAnyH_ready (rs := [14]) (by kernel_rfl) (by simp) ?_
        refine AllReadyH.cons rfl (fun K hK => ?_) AllReadyH.nil
        rw [if_pos (by rfl)]
        refine opw_allocT rfl rfl ?_
        refine hK.out _ _ ⟨⟨_, Bt1.out.alloc Bt1.out.size _⟩, rfl⟩ (fun hS => ?_)
        clear hK K hS
        try simp only [Act.put, List.setIfInBounds_toArray, List.set_cons_zero, List.set_cons_succ]
        obtain ⟨t2, ht⟩ : ∃ t, t = t1.alloc (tB zP zP zP) := ⟨_, rfl⟩
        rw [← ht]
        have Bt2 := Lib.hid (show Below w6.heap.size w6 t2 by rw [ht]; exact Bt1.out.alloc Bt1.out.size _)
        have Gt2 := Lib.hid (show t2.heap[t1.heap.size]? = some (tB zP zP zP) by rw [ht]; exact new_at rfl)
        have hge := Lib.hid (show w6.heap.size ≤ t1.heap.size from Bt1.out.size)
        clear ht
        have hS : (fun w' => ∃ x : Grow w6, w' = x.w) t2 := ⟨⟨_, Bt2.out⟩, rfl⟩
        obtain ⟨h, eg⟩ : ∃ g, g = t1.heap.size := ⟨_, rfl⟩
        rw [← eg] at Gt2 hge ⊢
        clear eg
        refine wpAnyH_ready (rs := [15]) (by kernel_rfl) (by simp) ?_
        refine AllReadyH.cons rfl (fun K hK => ?_) AllReadyH.nil
        rw [if_pos (by rfl)]
        refine opw_storeT (a := d) (b := e) (c := f) _ _ rfl rfl rfl rfl Gt2.out rfl (fun w7 P7 => ?_)
        have B7 := Lib.hid (P7.out.below _ _ Bt2.out hge.out)
        have T7 := Lib.hid P7.out.same
        clear P7
        refine hK.out _ _ ⟨⟨_, B7.out⟩, rfl⟩ (fun hS => ?_)
        clear hK K
        try simp only [Act.put, List.setIfInBounds_toArray, List.set_cons_zero, List.set_cons_succ, List.getElem_toArray, List.getElem_cons_zero, List.getElem_cons_succ]
        refine wpAnyH_ready (rs := [16]) (by kernel_rfl) (by simp) ?_
        refine AllReadyH.cons rfl (fun K hK => ?_) AllReadyH.nil
        go_simp
        refine hK.out _ _ ⟨⟨_, B7.out⟩, rfl⟩ (fun hS => ?_)
        clear hK K hS
        try simp only [Act.put, List.setIfInBounds_toArray, List.set_cons_zero, List.set_cons_succ, List.getElem_toArray, List.getElem_cons_zero, List.getElem_cons_succ]
        refine wpAnyH_done (by kernel_rfl) ?_ _
        have K8 := Lib.hid (show Below w.heap.size w w7 from bstep K6.out K6.out.size B7.out)
        cases o
        · have hPL := HPL0.out rfl
          subst hPL
          obtain ⟨A5, c5, rfl, -, -, -⟩ := HOP.out.es
          go_wp2
          go_loopw [16] (fun y wr => ∃ u : Nat, (u : Int) ≤ k ∧ y = .int .i64 u ∧ wr.heap[h]? = some (tB d e f) ∧ Below w7.heap.size w7 wr) (fun y _ => (k - intOf y).toNat)
          case atStart => exact ⟨0, by omega, rfl, T7.out, Below.refl _ _⟩
          case round =>
            obtain ⟨u, hu, rfl, hT, hB⟩ := hrel
            have HT4 := Lib.hid hT
            have HB4 := Lib.hid hB
            clear hT hB
            by_cases hlt : (u : Int) < k
            · have hki : decide ((u : Int) < k) = true := by simpa using hlt
              go_wp2
              go_loopw [17] (fun x wr => ∃ v : Nat, (v : Int) ≤ m ∧ x = .int .i64 v ∧ wr.heap[h]? = some (tB d e f) ∧ Below w7.heap.size w7 wr) (fun x _ => (m - intOf x).toNat)
              case atStart => exact ⟨0, by omega, rfl, HT4.out, HB4.out⟩
              case round =>
                obtain ⟨v, hv, rfl, hT, hB⟩ := hrel
                have HT5 := Lib.hid hT
                have HB5 := Lib.hid hB
                clear hT hB
                by_cases hvt : (v : Int) < m
                · have HMa := Lib.hid (HM.out (v : Int) (u : Int) (by omega) (by omega))
                  have bM := mask_bd d e f (v : Int) (u : Int)
                  generalize mask d e f (v : Int) (u : Int) = M at *
                  have hand : bits .and .u8 M 0 = 0 := and0 bM
                  have hor : bits .or .u8 0 M = M := or0 bM
                  have hvm : decide ((v : Int) < m) = true := by simpa using hvt
                  go_wp2
                  refine wp_loop_rounds 1 ?_
                  rw [rounds_succ]
                  go_wp2
                  go_roundw
                  case rel => exact ⟨v + 1, by omega, by go_num, HT5.out, HB5.out⟩
                  case measure => simp [intOf]; omega
                · go_wp2
                  go_roundw
                  case rel => exact ⟨u + 1, by omega, by go_num, HT5.out, HB5.out⟩
                  case measure => simp [intOf]; omega
            · go_wp2
              go_ret
              exact ⟨rfl, bstep K8.out K8.out.size HB4.out⟩
        · have hPL := HPL1.out rfl
          subst hPL
          obtain ⟨A5, c5, rfl, -, -, es⟩ := HOP.out.es
          obtain ⟨bq, offq, rfl, hbB, hat⟩ := es.at (k := 0) rfl
          rw [show offq + 0 * EQ.size = offq by omega] at hat
          have HQT := Lib.hid (show w5.rangeAt bq (offq + 1) [.int .i64 d.x, .int .i64 d.y, .int .i64 d.z, .int .i64 d.a, .int .i64 d.b, .int .i64 d.c, .int .i64 d.d, .int .i64 e.x, .int .i64 e.y, .int .i64 e.z, .int .i64 e.a, .int .i64 e.b, .int .i64 e.c, .int .i64 e.d, .int .i64 f.x, .int .i64 f.y, .int .i64 f.z, .int .i64 f.a, .int .i64 f.b, .int .i64 f.c, .int .i64 f.d] from atQ_t hat)
          have K57 := Lib.hid (bstep K56.out K56.out.size B7.out)
          have hbq : bq < w5.heap.size := hat.lt
          clear hat es
          go_wp2
          go_loopw [16] (fun y wr => ∃ u : Nat, (u : Int) ≤ k ∧ y = .int .i64 u ∧ wr.heap[h]? = some (tB d e f) ∧ Below w7.heap.size w7 wr) (fun y _ => (k - intOf y).toNat)
          case atStart => exact ⟨0, by omega, rfl, T7.out, Below.refl _ _⟩
          case round =>
            obtain ⟨u, hu, rfl, hT, hB⟩ := hrel
            have HT4 := Lib.hid hT
            have HB4 := Lib.hid hB
            clear hT hB
            by_cases hlt : (u : Int) < k
            · have hki : decide ((u : Int) < k) = true := by simpa using hlt
              go_wp2
              go_loopw [17] (fun x wr => ∃ v : Nat, (v : Int) ≤ m ∧ x = .int .i64 v ∧ wr.heap[h]? = some (tB d e f) ∧ Below w7.heap.size w7 wr) (fun x _ => (m - intOf x).toNat)
              case atStart => exact ⟨0, by omega, rfl, HT4.out, HB4.out⟩
              case round =>
                obtain ⟨v, hv, rfl, hT, hB⟩ := hrel
                have HT5 := Lib.hid hT
                have HB5 := Lib.hid hB
                clear hT hB
                by_cases hvt : (v : Int) < m
                · have HMa := Lib.hid (HM.out (v : Int) (u : Int) (by omega) (by omega))
                  have bM := mask_bd d e f (v : Int) (u : Int)
                  generalize mask d e f (v : Int) (u : Int) = M at *
                  have hand : bits .and .u8 M 0 = 0 := and0 bM
                  have hor : bits .or .u8 0 M = M := or0 bM
                  have hvm : decide ((v : Int) < m) = true := by simpa using hvt
                  go_wp2
                  refine wp_loop_rounds 2 ?_
                  rw [rounds_succ]
                  go_wp2_with (refine wp_midT (a := d) (b := e) (c := f) (.tmp 128) rfl rfl rfl (range_below HQT.out (bstep K57.out K57.out.size HB5.out) hbq) ?_)
                  with_reducible refine (HMa.out _).mono ?_
                  rintro e' w9 ⟨rfl, hb⟩
                  have K9 := Lib.hid (bstep HB5.out HB5.out.size hb)
                  have T9 := Lib.hid (tB_grow HT5.out hb)
                  clear hb
                  go_wp2
                  rw [rounds_succ]
                  go_wp2_with (refine wp_loadT (a := d) (b := e) (c := f) (.tmp 14) rfl rfl rfl T9.out ?_)
                  with_reducible refine (HMa.out _).mono ?_
                  rintro e' w10 ⟨rfl, hb⟩
                  have K10 := Lib.hid (bstep K9.out K9.out.size hb)
                  have T10 := Lib.hid (tB_grow T9.out hb)
                  clear hb
                  go_wp2
                  go_roundw
                  case rel => exact ⟨v + 1, by omega, by go_num, T10.out, K10.out⟩
                  case measure => simp [intOf]; omega
                · go_wp2
                  go_roundw
                  case rel => exact ⟨u + 1, by omega, by go_num, HT5.out, HB5.out⟩
                  case measure => simp [intOf]; omega
            · go_wp2
              go_ret
              exact ⟨rfl, bstep K8.out K8.out.size HB4.out⟩
      refine AllReadyH.cons rfl (fun K hK => ?_) AllReadyH.nil
      · skip
        rw [if_pos (by rfl)]
        refine opw_allocT rfl rfl ?_
        refine hK.out _ _ ⟨⟨_, B0.out.alloc B0.out.size _⟩, rfl⟩ (fun hS => ?_)
        clear hK K hS
        try simp only [Act.put, List.setIfInBounds_toArray, List.set_cons_zero, List.set_cons_succ]
        obtain ⟨t1, ht⟩ : ∃ t, t = Y0.alloc (tB zP zP zP) := ⟨_, rfl⟩
        rw [← ht]
        have Bt1 := Lib.hid (show Below w6.heap.size w6 t1 by rw [ht]; exact B0.out.alloc B0.out.size _)
        have Gt1 := Lib.hid (show t1.heap[Y0.heap.size]? = some (tB zP zP zP) by rw [ht]; exact new_at rfl)
        have hge := Lib.hid (show w6.heap.size ≤ Y0.heap.size from B0.out.size)
        clear ht
        have hS : (fun w' => ∃ x : Grow w6, w' = x.w) t1 := ⟨⟨_, Bt1.out⟩, rfl⟩
        obtain ⟨h, eg⟩ : ∃ g, g = Y0.heap.size := ⟨_, rfl⟩
        rw [← eg] at Gt1 hge ⊢
        clear eg
        refine wpAnyH_ready (rs := [10]) (by kernel_rfl) (by simp) ?_
        refine AllReadyH.cons rfl (fun K hK => ?_) AllReadyH.nil
        go_simp
        with_reducible refine (HTU.out _).mono ?_
        rintro e t2 ⟨rfl, hb⟩
        have Bt2 := Lib.hid (bstep Bt1.out Bt1.out.size hb)
        have Gt2 := Lib.hid (tB_grow Gt1.out hb)
        clear hb
        refine hK.out _ _ ⟨⟨_, Bt2.out⟩, rfl⟩ (fun hS => ?_)
        clear hK K
        try simp only [Act.put, List.setIfInBounds_toArray, List.set_cons_zero, List.set_cons_succ, List.getElem_toArray, List.getElem_cons_zero, List.getElem_cons_succ]
        refine wpAnyH_take (i := 11) (v := (.tuple #[.agg #[.int .i64 d.x, .int .i64 d.y, .int .i64 d.z, .int .i64 d.a, .int .i64 d.b, .int .i64 d.c, .int .i64 d.d, .int .i64 e.x, .int .i64 e.y, .int .i64 e.z, .int .i64 e.a, .int .i64 e.b, .int .i64 e.c, .int .i64 e.d, .int .i64 f.x, .int .i64 f.y, .int .i64 f.z, .int .i64 f.a, .int .i64 f.b, .int .i64 f.c, .int .i64 f.d], .bool o])) rfl (by kernel_rfl) (by kernel_rfl) (by kernel_rfl) (fun _ _ _ h => h) (Or.inl ⟨by rfl, fun w hw => by obtain ⟨x, rfl⟩ := hw; go_simp⟩) hS ?_
        try simp only [Act.put, List.setIfInBounds_toArray, List.set_cons_zero, List.set_cons_succ, List.getElem_toArray, List.getElem_cons_zero, List.getElem_cons_succ]
        refine wpAnyH_take (i := 12) (v := (.agg #[.int .i64 d.x, .int .i64 d.y, .int .i64 d.z, .int .i64 d.a, .int .i64 d.b, .int .i64 d.c, .int .i64 d.d, .int .i64 e.x, .int .i64 e.y, .int .i64 e.z, .int .i64 e.a, .int .i64 e.b, .int .i64 e.c, .int .i64 e.d, .int .i64 f.x, .int .i64 f.y, .int .i64 f.z, .int .i64 f.a, .int .i64 f.b, .int .i64 f.c, .int .i64 f.d])) rfl (by kernel_rfl) (by kernel_rfl) (by kernel_rfl) (fun _ _ _ h => h) (Or.inl ⟨by rfl, fun w hw => by obtain ⟨x, rfl⟩ := hw; go_simp⟩) hS ?_
        try simp only [Act.put, List.setIfInBounds_toArray, List.set_cons_zero, List.set_cons_succ, List.getElem_toArray, List.getElem_cons_zero, List.getElem_cons_succ]
        refine wpAnyH_take (i := 13) (v := (.bool o)) rfl (by kernel_rfl) (by kernel_rfl) (by kernel_rfl) (fun _ _ _ h => h) (Or.inl ⟨by rfl, fun w hw => by obtain ⟨x, rfl⟩ := hw; go_simp⟩) hS ?_
        try simp only [Act.put, List.setIfInBounds_toArray, List.set_cons_zero, List.set_cons_succ, List.getElem_toArray, List.getElem_cons_zero, List.getElem_cons_succ]
        refine wpAnyH_ready (rs := [15]) (by kernel_rfl) (by simp) ?_
        refine AllReadyH.cons rfl (fun K hK => ?_) AllReadyH.nil
        rw [if_pos (by rfl)]
        refine opw_storeT (a := d) (b := e) (c := f) _ _ rfl rfl rfl rfl Gt2.out rfl (fun w7 P7 => ?_)
        have B7 := Lib.hid (P7.out.below _ _ Bt2.out hge.out)
        have T7 := Lib.hid P7.out.same
        clear P7
        refine hK.out _ _ ⟨⟨_, B7.out⟩, rfl⟩ (fun hS => ?_)
        clear hK K
        try simp only [Act.put, List.setIfInBounds_toArray, List.set_cons_zero, List.set_cons_succ, List.getElem_toArray, List.getElem_cons_zero, List.getElem_cons_succ]
        refine wpAnyH_ready (rs := [16]) (by kernel_rfl) (by simp) ?_
        refine AllReadyH.cons rfl (fun K hK => ?_) AllReadyH.nil
        go_simp
        refine hK.out _ _ ⟨⟨_, B7.out⟩, rfl⟩ (fun hS => ?_)
        clear hK K hS
        try simp only [Act.put, List.setIfInBounds_toArray, List.set_cons_zero, List.set_cons_succ, List.getElem_toArray, List.getElem_cons_zero, List.getElem_cons_succ]
        refine wpAnyH_done (by kernel_rfl) ?_ _
        have K8 := Lib.hid (show Below w.heap.size w w7 from bstep K6.out K6.out.size B7.out)
        cases o
        · have hPL := HPL0.out rfl
          subst hPL
          obtain ⟨A5, c5, rfl, -, -, -⟩ := HOP.out.es
          go_wp2
          go_loopw [16] (fun y wr => ∃ u : Nat, (u : Int) ≤ k ∧ y = .int .i64 u ∧ wr.heap[h]? = some (tB d e f) ∧ Below w7.heap.size w7 wr) (fun y _ => (k - intOf y).toNat)
          case atStart => exact ⟨0, by omega, rfl, T7.out, Below.refl _ _⟩
          case round =>
            obtain ⟨u, hu, rfl, hT, hB⟩ := hrel
            have HT4 := Lib.hid hT
            have HB4 := Lib.hid hB
            clear hT hB
            by_cases hlt : (u : Int) < k
            · have hki : decide ((u : Int) < k) = true := by simpa using hlt
              go_wp2
              go_loopw [17] (fun x wr => ∃ v : Nat, (v : Int) ≤ m ∧ x = .int .i64 v ∧ wr.heap[h]? = some (tB d e f) ∧ Below w7.heap.size w7 wr) (fun x _ => (m - intOf x).toNat)
              case atStart => exact ⟨0, by omega, rfl, HT4.out, HB4.out⟩
              case round =>
                obtain ⟨v, hv, rfl, hT, hB⟩ := hrel
                have HT5 := Lib.hid hT
                have HB5 := Lib.hid hB
                clear hT hB
                by_cases hvt : (v : Int) < m
                · have HMa := Lib.hid (HM.out (v : Int) (u : Int) (by omega) (by omega))
                  have bM := mask_bd d e f (v : Int) (u : Int)
                  generalize mask d e f (v : Int) (u : Int) = M at *
                  have hand : bits .and .u8 M 0 = 0 := and0 bM
                  have hor : bits .or .u8 0 M = M := or0 bM
                  have hvm : decide ((v : Int) < m) = true := by simpa using hvt
                  go_wp2
                  refine wp_loop_rounds 1 ?_
                  rw [rounds_succ]
                  go_wp2
                  go_roundw
                  case rel => exact ⟨v + 1, by omega, by go_num, HT5.out, HB5.out⟩
                  case measure => simp [intOf]; omega
                · go_wp2
                  go_roundw
                  case rel => exact ⟨u + 1, by omega, by go_num, HT5.out, HB5.out⟩
                  case measure => simp [intOf]; omega
            · go_wp2
              go_ret
              exact ⟨rfl, bstep K8.out K8.out.size HB4.out⟩
        · have hPL := HPL1.out rfl
          subst hPL
          obtain ⟨A5, c5, rfl, -, -, es⟩ := HOP.out.es
          obtain ⟨bq, offq, rfl, hbB, hat⟩ := es.at (k := 0) rfl
          rw [show offq + 0 * EQ.size = offq by omega] at hat
          have HQT := Lib.hid (show w5.rangeAt bq (offq + 1) [.int .i64 d.x, .int .i64 d.y, .int .i64 d.z, .int .i64 d.a, .int .i64 d.b, .int .i64 d.c, .int .i64 d.d, .int .i64 e.x, .int .i64 e.y, .int .i64 e.z, .int .i64 e.a, .int .i64 e.b, .int .i64 e.c, .int .i64 e.d, .int .i64 f.x, .int .i64 f.y, .int .i64 f.z, .int .i64 f.a, .int .i64 f.b, .int .i64 f.c, .int .i64 f.d] from atQ_t hat)
          have K57 := Lib.hid (bstep K56.out K56.out.size B7.out)
          have hbq : bq < w5.heap.size := hat.lt
          clear hat es
          go_wp2
          go_loopw [16] (fun y wr => ∃ u : Nat, (u : Int) ≤ k ∧ y = .int .i64 u ∧ wr.heap[h]? = some (tB d e f) ∧ Below w7.heap.size w7 wr) (fun y _ => (k - intOf y).toNat)
          case atStart => exact ⟨0, by omega, rfl, T7.out, Below.refl _ _⟩
          case round =>
            obtain ⟨u, hu, rfl, hT, hB⟩ := hrel
            have HT4 := Lib.hid hT
            have HB4 := Lib.hid hB
            clear hT hB
            by_cases hlt : (u : Int) < k
            · have hki : decide ((u : Int) < k) = true := by simpa using hlt
              go_wp2
              go_loopw [17] (fun x wr => ∃ v : Nat, (v : Int) ≤ m ∧ x = .int .i64 v ∧ wr.heap[h]? = some (tB d e f) ∧ Below w7.heap.size w7 wr) (fun x _ => (m - intOf x).toNat)
              case atStart => exact ⟨0, by omega, rfl, HT4.out, HB4.out⟩
              case round =>
                obtain ⟨v, hv, rfl, hT, hB⟩ := hrel
                have HT5 := Lib.hid hT
                have HB5 := Lib.hid hB
                clear hT hB
                by_cases hvt : (v : Int) < m
                · have HMa := Lib.hid (HM.out (v : Int) (u : Int) (by omega) (by omega))
                  have bM := mask_bd d e f (v : Int) (u : Int)
                  generalize mask d e f (v : Int) (u : Int) = M at *
                  have hand : bits .and .u8 M 0 = 0 := and0 bM
                  have hor : bits .or .u8 0 M = M := or0 bM
                  have hvm : decide ((v : Int) < m) = true := by simpa using hvt
                  go_wp2
                  refine wp_loop_rounds 2 ?_
                  rw [rounds_succ]
                  go_wp2_with (refine wp_midT (a := d) (b := e) (c := f) (.tmp 128) rfl rfl rfl (range_below HQT.out (bstep K57.out K57.out.size HB5.out) hbq) ?_)
                  with_reducible refine (HMa.out _).mono ?_
                  rintro e' w9 ⟨rfl, hb⟩
                  have K9 := Lib.hid (bstep HB5.out HB5.out.size hb)
                  have T9 := Lib.hid (tB_grow HT5.out hb)
                  clear hb
                  go_wp2
                  rw [rounds_succ]
                  go_wp2_with (refine wp_loadT (a := d) (b := e) (c := f) (.tmp 14) rfl rfl rfl T9.out ?_)
                  with_reducible refine (HMa.out _).mono ?_
                  rintro e' w10 ⟨rfl, hb⟩
                  have K10 := Lib.hid (bstep K9.out K9.out.size hb)
                  have T10 := Lib.hid (tB_grow T9.out hb)
                  clear hb
                  go_wp2
                  go_roundw
                  case rel => exact ⟨v + 1, by omega, by go_num, T10.out, K10.out⟩
                  case measure => simp [intOf]; omega
                · go_wp2
                  go_roundw
                  case rel => exact ⟨u + 1, by omega, by go_num, HT5.out, HB5.out⟩
                  case measure => simp [intOf]; omega
            · go_wp2
              go_ret
              exact ⟨rfl, bstep K8.out K8.out.size HB4.out⟩
end Go.Proofs.Ytfdlfjecgefgfaa
