/-
  SetupPixels' walk.
-/
import Derived.Test.YtfdlfjecgefgfaaGone
import Derived.Test.YtfdlfjecgefgfaaCPb
import Derived.BigRegion
namespace Go.Proofs.Ytfdlfjecgefgfaa
open Go.RowKit
attribute [local go_sem ↓] Go.wp_at_zero Go.wp_at_succ

theorem neqD (w : World) (a b a' b' : Int) : (binOp .neq 45 (.agg #[.int .i64 a, .int .i64 b]) (.agg #[.int .i64 a', .int .i64 b'])).run Try.prog w = .ok (.bool (!([a, b] == [a', b']))) w := by
  have h := C.run_equalIn_ints (P := Try.prog) w 9998 45 3 2 Try.underlying45 Try.underlying3 Try.sizeOf3 [a, b] [a', b'] rfl rfl
  simp only [List.map_cons, List.map_nil] at h
  simp only [binOp, Op.equal, Op.maxDepth, Sem.run_bind]
  rw [show (10000 : Nat) = 9998 + 2 from rfl, h, Result.andThen_ok]
  rfl
theorem neqD_self (w : World) (a b : Int) : (binOp .neq 45 (.agg #[.int .i64 a, .int .i64 b]) (.agg #[.int .i64 a, .int .i64 b])).run Try.prog w = .ok (.bool false) w := by
  rw [neqD]; simp
theorem guardD : Try.prog.eqGuardType Try.prog.depth 45 = false := by kernel_rfl
theorem pxs_len (x0 y0 x1 y1 : Int) : (pxs x0 y0 x1 y1).length = (y1 - y0).toNat * (x1 - x0).toNat := by unfold pxs; rw [upto_len]
theorem pxs_get {x0 y0 x1 y1 : Int} {t : Nat} (h : t < (y1 - y0).toNat * (x1 - x0).toNat) : (pxs x0 y0 x1 y1)[t]? = some (x0 + (t : Int) % (x1 - x0), y0 + (t : Int) / (x1 - x0)) := by
  have hp : 0 < (x1 - x0).toNat := by
    rcases Nat.eq_zero_or_pos (x1 - x0).toNat with e | e
    · rw [e, Nat.mul_zero] at h; omega
    · exact e
  have e : ((x1 - x0).toNat : Int) = x1 - x0 := by omega
  unfold pxs upto
  rw [List.getElem?_map, List.getElem?_range h]
  simp only [Option.map_some, pxl, Int.natCast_emod, Int.natCast_ediv, e]

theorem below_drewN {B n : Nat} {a b : World} (h : Below B a b) : Below B a (b.drewN n) := h.trans ⟨rfl, rfl, rfl, Nat.le_refl _, fun _ _ => rfl⟩
attribute [local go_sem high] neqD_self
attribute [local go_sem] guardD

set_option maxRecDepth 100000 in
set_option maxHeartbeats 2000000 in
theorem pixels_walk (k l m n o : Int) (bk : -128 ≤ k ∧ k ≤ 127) (bl : -128 ≤ l ∧ l ≤ 127) (bm : -128 ≤ m ∧ m ≤ 127) (bn : -128 ≤ n ∧ n ≤ 127) (bo : 0 ≤ o ∧ o ≤ 255) (w : World) :
    Calls Try.prog 8 #[.agg #[.int .i8 k, .int .i8 l, .int .i8 m, .int .i8 n], .int .u8 o] w fun e w' => e = .returned (.bool true) ∧ Below w.heap.size w w' := by
  have HSh := Lib.hid shown_any
  have tk := tmod_bd k 21 (by decide)
  have tl := tmod_bd l 21 (by decide)
  have tm := tmod_bd m 21 (by decide)
  have tn := tmod_bd n 21 (by decide)
  obtain ⟨x0, ex0⟩ : ∃ x, k.tmod 21 = x := ⟨_, rfl⟩
  obtain ⟨y0, ey0⟩ : ∃ x, l.tmod 21 = x := ⟨_, rfl⟩
  obtain ⟨x1, ex1⟩ : ∃ x, m.tmod 21 = x := ⟨_, rfl⟩
  obtain ⟨y1, ey1⟩ : ∃ x, n.tmod 21 = x := ⟨_, rfl⟩
  rw [ex0] at tk
  rw [ey0] at tl
  rw [ex1] at tm
  rw [ey1] at tn
  obtain ⟨M, hM⟩ : ∃ M : Nat, 1 + o % 16 = (M : Int) := ⟨(1 + o % 16).toNat, by omega⟩
  have hM1 : 1 ≤ M ∧ M ≤ 16 := by omega
  have EM := Lib.hid hM
  have G1 := Lib.hid (show ∀ w, Calls Try.prog 16 #[.agg #[.int .i64 x0, .int .i64 y0, .int .i64 x1, .int .i64 y1], .int .i64 100000] w (Gone w x0 y0 x1 y1 100000) from gone_any x0 y0 x1 y1 100000 (by omega) (by omega) (by omega) (by omega) (by omega) (by omega))
  have G2 := Lib.hid (gone_any x0 y0 x1 y1 M (by omega) (by omega) (by omega) (by omega) (by omega) (by omega))
  clear hM
  go_enter Try.func8, Try.ntmps8
  go_wp2_with fail
  with_reducible refine (HSh.out _).mono ?_
  rintro e w1 ⟨rfl, hb⟩
  have S0 : w1.cell? ⟨w.heap.size, 0, none⟩ = some (.int .i8 k) := (hb.cell (p := ⟨w.heap.size, 0, none⟩) (by simp)).trans (by simp [go_sem])
  have S1 : w1.cell? ⟨w.heap.size, 1, none⟩ = some (.int .i8 l) := (hb.cell (p := ⟨w.heap.size, 1, none⟩) (by simp)).trans (by simp [go_sem])
  have S2 : w1.cell? ⟨w.heap.size, 2, none⟩ = some (.int .i8 m) := (hb.cell (p := ⟨w.heap.size, 2, none⟩) (by simp)).trans (by simp [go_sem])
  have S3 : w1.cell? ⟨w.heap.size, 3, none⟩ = some (.int .i8 n) := (hb.cell (p := ⟨w.heap.size, 3, none⟩) (by simp)).trans (by simp [go_sem])
  have K1 := Lib.hid (bstep ((Below.refl w.heap.size w).alloc (Nat.le_refl _) _) (by simp) hb)
  clear hb
  go_wp2_with fail
  with_reducible refine (G1.out _).mono ?_
  rintro e w2 ⟨v2, rfl, ho, hb⟩
  have L2 : w2.heap[w1.heap.size]? = some (.cells #[.int .i64 x0, .int .i64 y0, .int .i64 x1, .int .i64 y1] 23 (0, 0)) := (hb.block _ (by simp)).trans (heap_alloc_new _ _)
  have K2 := Lib.hid (bstep (K1.out.alloc K1.out.size _) (by have := K1.out.size; simp; omega) hb)
  have z1 := K1.out.size
  clear hb S0 S1 S2 S3 K1
  have c0 : w2.cell? ⟨w1.heap.size, 0, none⟩ = some (.int .i64 x0) := by simp [World.cell?, L2]
  have c1 : w2.cell? ⟨w1.heap.size, 1, none⟩ = some (.int .i64 y0) := by simp [World.cell?, L2]
  have c2 : w2.cell? ⟨w1.heap.size, 2, none⟩ = some (.int .i64 x1) := by simp [World.cell?, L2]
  have c3 : w2.cell? ⟨w1.heap.size, 3, none⟩ = some (.int .i64 y1) := by simp [World.cell?, L2]
  have HL2 := Lib.hid L2
  have HO2 := Lib.hid ho
  clear L2 ho
  go_wp2_with fail
  rw [EM.out]
  with_reducible refine (G2.out _).mono ?_
  rintro e w3 ⟨v3, rfl, ho3, hb⟩
  have K3 := Lib.hid (bstep K2.out K2.out.size hb)
  have HL3 := Lib.hid (show w3.heap[w1.heap.size]? = some (.cells #[.int .i64 x0, .int .i64 y0, .int .i64 x1, .int .i64 y1] 23 (0, 0)) from (hb.block _ (Array.getElem?_eq_some_iff.1 HL2.out).1).trans HL2.out)
  have hlen := pxs_len x0 y0 x1 y1
  have hbig : (y1 - y0).toNat * (x1 - x0).toNat ≤ 40 * 40 := Nat.mul_le_mul (by omega) (by omega)
  have ho2 := HO2.out.keep hb
  rw [List.take_of_length_le (by omega)] at ho2
  have HG := Lib.hid (fun (t : Nat) => @pxs_get x0 y0 x1 y1 t)
  have hN : max (x1 - x0) 0 * max (y1 - y0) 0 = (((y1 - y0).toNat * (x1 - x0).toNat : Nat) : Int) := by
    rw [Int.natCast_mul, show max (x1 - x0) 0 = ((x1 - x0).toNat : Int) by omega, show max (y1 - y0) 0 = ((y1 - y0).toNat : Int) by omega, Int.mul_comm]
  have hp0 : 0 < (y1 - y0).toNat * (x1 - x0).toNat → 0 < x1 - x0 := fun h => by
    rcases Nat.eq_zero_or_pos (x1 - x0).toNat with e | e
    · rw [e, Nat.mul_zero] at h; omega
    · omega
  generalize (y1 - y0).toNat * (x1 - x0).toNat = N at *
  generalize pxs x0 y0 x1 y1 = L at *
  have hm3 : min (N : Int) (1 + o % 16) = (((L.take M).length : Nat) : Int) := by rw [EM.out, List.length_take, hlen]; omega
  have hml : (L.take M).length ≤ N := by rw [List.length_take]; omega
  have HT := Lib.hid (show ∀ t, t < (L.take M).length → (L.take M)[t]? = L[t]? from fun t ht => List.getElem?_take_of_lt (by rw [List.length_take] at ht; omega))
  obtain ⟨A2, q2, rfl, -, -, es2⟩ := ho2.es
  obtain ⟨A3, q3, rfl, -, -, es3⟩ := ho3.es
  rw [hlen]
  generalize (L.take M).length = n3 at *
  generalize L.take M = L3 at *
  have E2 := Lib.hid es2
  have E3 := Lib.hid es3
  have HN := Lib.hid hN
  have HP := Lib.hid hp0
  have hw : IntKind.i64.wrap (max (x1 - x0) 0 * max (y1 - y0) 0) = (N : Int) := by rw [hN, IntKind.wrap_i64]; omega
  clear hb ho2 ho3 es2 es3 hN hp0 hlen HO2 HL2 K2 c0 c1 c2 c3
  have c0 : w3.cell? ⟨w1.heap.size, 0, none⟩ = some (.int .i64 x0) := by simp [World.cell?, HL3.out]
  have c1 : w3.cell? ⟨w1.heap.size, 1, none⟩ = some (.int .i64 y0) := by simp [World.cell?, HL3.out]
  have c2 : w3.cell? ⟨w1.heap.size, 2, none⟩ = some (.int .i64 x1) := by simp [World.cell?, HL3.out]
  have c3 : w3.cell? ⟨w1.heap.size, 3, none⟩ = some (.int .i64 y1) := by simp [World.cell?, HL3.out]
  go_wp2
  go_loopw [12] (fun i wr => ∃ t : Nat, t ≤ N ∧ i = .int .i64 t ∧ Below w3.heap.size w3 wr) (fun i _ => N - (intOf i).toNat)
  case atStart => exact ⟨0, by omega, rfl, Below.refl _ _⟩
  case round =>
    obtain ⟨t, ht, rfl, hbel⟩ := hrel
    have HBE := Lib.hid hbel
    have d0 : wr.cell? ⟨w1.heap.size, 0, none⟩ = some (.int .i64 x0) := (hbel.cell (p := ⟨w1.heap.size, 0, none⟩) (Array.getElem?_eq_some_iff.1 HL3.out).1).trans c0
    have d1 : wr.cell? ⟨w1.heap.size, 1, none⟩ = some (.int .i64 y0) := (hbel.cell (p := ⟨w1.heap.size, 1, none⟩) (Array.getElem?_eq_some_iff.1 HL3.out).1).trans c1
    have d2 : wr.cell? ⟨w1.heap.size, 2, none⟩ = some (.int .i64 x1) := (hbel.cell (p := ⟨w1.heap.size, 2, none⟩) (Array.getElem?_eq_some_iff.1 HL3.out).1).trans c2
    clear hbel c0 c1 c2 c3
    by_cases hlt : t < N
    · have hd := HP.out (by omega)
      have hg := HG.out t hlt
      have q0 := Int.emod_nonneg (t : Int) (show x1 - x0 ≠ 0 by omega)
      have q1 := Int.emod_lt_of_pos (t : Int) hd
      have q2' : 0 ≤ (t : Int) / (x1 - x0) := Int.ediv_nonneg (by omega) (by omega)
      have q3' : (t : Int) / (x1 - x0) ≤ t := Int.ediv_le_self _ (by omega)
      have et : (t : Int).tmod (x1 - x0) = (t : Int) % (x1 - x0) := Int.tmod_eq_emod_of_nonneg (by omega)
      have ed : (t : Int).tdiv (x1 - x0) = (t : Int) / (x1 - x0) := Int.tdiv_eq_ediv_of_nonneg (by omega)
      generalize (t : Int) % (x1 - x0) = r1 at *
      generalize (t : Int) / (x1 - x0) = r2 at *
      have HGt := Lib.hid hg
      clear hg
      have hne : ¬ x1 - x0 = 0 := by omega
      have hz : w1.heap.size < wr.heap.size := World.block_lt_of_cell? _ _ d0
      have hz2 : ¬ w1.heap.size = wr.heap.size := by omega
      go_wp2_with fail
      obtain ⟨Y0, hY0⟩ : ∃ Y0, Y0 = World.drew wr := ⟨_, rfl⟩
      have B0 := Lib.hid (show Below wr.heap.size wr Y0 by rw [hY0]; exact (Below.refl _ _).drew)
      have hzY : Y0.heap.size = wr.heap.size := by rw [hY0]; rfl
      refine wp_region_held_drew (S := fun w' => ∃ x : Grow wr, w' = x.w) (by kernel_rfl) ⟨⟨Y0, B0.out⟩, hY0.symm⟩ (fun hS => ?_)
      rw [← hY0] at hS ⊢
      have y0' : ∀ x : Grow wr, x.w.cell? ⟨w1.heap.size, 0, none⟩ = some (.int .i64 x0) := fun x => x.cell d0
      have y1' : ∀ x : Grow wr, x.w.cell? ⟨w1.heap.size, 1, none⟩ = some (.int .i64 y0) := fun x => x.cell d1
      have y2' : ∀ x : Grow wr, x.w.cell? ⟨w1.heap.size, 2, none⟩ = some (.int .i64 x1) := fun x => x.cell d2
      clear hY0
      have wq0 : IntKind.i64.wrap (x1 - x0) = x1 - x0 := by rw [IntKind.wrap_i64]; omega
      have wq1 : IntKind.i64.wrap (x0 + r1) = x0 + r1 := by rw [IntKind.wrap_i64]; omega
      have wq2 : IntKind.i64.wrap (y0 + r2) = y0 + r2 := by rw [IntKind.wrap_i64]; omega
      have wq3 : IntKind.i64.wrap r1 = r1 := by rw [IntKind.wrap_i64]; omega
      have wq4 : IntKind.i64.wrap r2 = r2 := by rw [IntKind.wrap_i64]; omega
      refine wpAnyH_take (i := 0) (v := (.pointer (some ⟨w1.heap.size, 0, none⟩))) rfl (by kernel_rfl) (by kernel_rfl) (by kernel_rfl) (fun _ _ _ h => h) (Or.inl ⟨by rfl, fun w hw => by obtain ⟨x, rfl⟩ := hw; go_simp⟩) hS ?_
      try simp only [Act.put, List.setIfInBounds_toArray, List.set_cons_zero, List.set_cons_succ, List.getElem_toArray, List.getElem_cons_zero]
      refine wpAnyH_take (i := 1) (v := (.int .i64 x0)) rfl (by kernel_rfl) (by kernel_rfl) (by kernel_rfl) (fun _ _ _ h => h) (Or.inl ⟨by rfl, fun w hw => by obtain ⟨x, rfl⟩ := hw; go_simp⟩) hS ?_
      try simp only [Act.put, List.setIfInBounds_toArray, List.set_cons_zero, List.set_cons_succ, List.getElem_toArray, List.getElem_cons_zero, List.getElem_cons_succ]
      refine wpAnyH_take (i := 2) (v := (.int .i64 (t : Int))) rfl (by kernel_rfl) (by kernel_rfl) (by kernel_rfl) (fun _ _ _ h => h) (Or.inl ⟨by rfl, fun w hw => by obtain ⟨x, rfl⟩ := hw; go_simp⟩) hS ?_
      try simp only [Act.put, List.setIfInBounds_toArray, List.set_cons_zero, List.set_cons_succ, List.getElem_toArray, List.getElem_cons_zero, List.getElem_cons_succ]
      refine wpAnyH_take (i := 3) (v := (.pointer (some ⟨w1.heap.size, 2, none⟩))) rfl (by kernel_rfl) (by kernel_rfl) (by kernel_rfl) (fun _ _ _ h => h) (Or.inl ⟨by rfl, fun w hw => by obtain ⟨x, rfl⟩ := hw; go_simp⟩) hS ?_
      try simp only [Act.put, List.setIfInBounds_toArray, List.set_cons_zero, List.set_cons_succ, List.getElem_toArray, List.getElem_cons_zero, List.getElem_cons_succ]
      refine wpAnyH_take (i := 4) (v := (.int .i64 x1)) rfl (by kernel_rfl) (by kernel_rfl) (by kernel_rfl) (fun _ _ _ h => h) (Or.inl ⟨by rfl, fun w hw => by obtain ⟨x, rfl⟩ := hw; go_simp⟩) hS ?_
      try simp only [Act.put, List.setIfInBounds_toArray, List.set_cons_zero, List.set_cons_succ, List.getElem_toArray, List.getElem_cons_zero, List.getElem_cons_succ]
      refine wpAnyH_take (i := 5) (v := (.pointer (some ⟨w1.heap.size, 0, none⟩))) rfl (by kernel_rfl) (by kernel_rfl) (by kernel_rfl) (fun _ _ _ h => h) (Or.inl ⟨by rfl, fun w hw => by obtain ⟨x, rfl⟩ := hw; go_simp⟩) hS ?_
      try simp only [Act.put, List.setIfInBounds_toArray, List.set_cons_zero, List.set_cons_succ, List.getElem_toArray, List.getElem_cons_zero, List.getElem_cons_succ]
      refine wpAnyH_take (i := 6) (v := (.int .i64 x0)) rfl (by kernel_rfl) (by kernel_rfl) (by kernel_rfl) (fun _ _ _ h => h) (Or.inl ⟨by rfl, fun w hw => by obtain ⟨x, rfl⟩ := hw; go_simp⟩) hS ?_
      try simp only [Act.put, List.setIfInBounds_toArray, List.set_cons_zero, List.set_cons_succ, List.getElem_toArray, List.getElem_cons_zero, List.getElem_cons_succ]
      refine wpAnyH_take (i := 7) (v := (.int .i64 (x1 - x0))) rfl (by kernel_rfl) (by kernel_rfl) (by kernel_rfl) (fun _ _ _ h => h) (Or.inl ⟨by rfl, fun w hw => by obtain ⟨x, rfl⟩ := hw; go_simp⟩) hS ?_
      try simp only [Act.put, List.setIfInBounds_toArray, List.set_cons_zero, List.set_cons_succ, List.getElem_toArray, List.getElem_cons_zero, List.getElem_cons_succ]
      refine wpAnyH_take (i := 8) (v := (.int .i64 r1)) rfl (by kernel_rfl) (by kernel_rfl) (by kernel_rfl) (fun _ _ _ h => h) (Or.inl ⟨by rfl, fun w hw => by obtain ⟨x, rfl⟩ := hw; go_simp⟩) hS ?_
      try simp only [Act.put, List.setIfInBounds_toArray, List.set_cons_zero, List.set_cons_succ, List.getElem_toArray, List.getElem_cons_zero, List.getElem_cons_succ]
      refine wpAnyH_take (i := 9) (v := (.int .i64 (x0 + r1))) rfl (by kernel_rfl) (by kernel_rfl) (by kernel_rfl) (fun _ _ _ h => h) (Or.inl ⟨by rfl, fun w hw => by obtain ⟨x, rfl⟩ := hw; go_simp⟩) hS ?_
      try simp only [Act.put, List.setIfInBounds_toArray, List.set_cons_zero, List.set_cons_succ, List.getElem_toArray, List.getElem_cons_zero, List.getElem_cons_succ]
      refine wpAnyH_take (i := 10) (v := (.pointer (some ⟨w1.heap.size, 1, none⟩))) rfl (by kernel_rfl) (by kernel_rfl) (by kernel_rfl) (fun _ _ _ h => h) (Or.inl ⟨by rfl, fun w hw => by obtain ⟨x, rfl⟩ := hw; go_simp⟩) hS ?_
      try simp only [Act.put, List.setIfInBounds_toArray, List.set_cons_zero, List.set_cons_succ, List.getElem_toArray, List.getElem_cons_zero, List.getElem_cons_succ]
      refine wpAnyH_take (i := 11) (v := (.int .i64 y0)) rfl (by kernel_rfl) (by kernel_rfl) (by kernel_rfl) (fun _ _ _ h => h) (Or.inl ⟨by rfl, fun w hw => by obtain ⟨x, rfl⟩ := hw; go_simp⟩) hS ?_
      try simp only [Act.put, List.setIfInBounds_toArray, List.set_cons_zero, List.set_cons_succ, List.getElem_toArray, List.getElem_cons_zero, List.getElem_cons_succ]
      refine wpAnyH_take (i := 12) (v := (.int .i64 (t : Int))) rfl (by kernel_rfl) (by kernel_rfl) (by kernel_rfl) (fun _ _ _ h => h) (Or.inl ⟨by rfl, fun w hw => by obtain ⟨x, rfl⟩ := hw; go_simp⟩) hS ?_
      try simp only [Act.put, List.setIfInBounds_toArray, List.set_cons_zero, List.set_cons_succ, List.getElem_toArray, List.getElem_cons_zero, List.getElem_cons_succ]
      refine wpAnyH_take (i := 13) (v := (.pointer (some ⟨w1.heap.size, 2, none⟩))) rfl (by kernel_rfl) (by kernel_rfl) (by kernel_rfl) (fun _ _ _ h => h) (Or.inl ⟨by rfl, fun w hw => by obtain ⟨x, rfl⟩ := hw; go_simp⟩) hS ?_
      try simp only [Act.put, List.setIfInBounds_toArray, List.set_cons_zero, List.set_cons_succ, List.getElem_toArray, List.getElem_cons_zero, List.getElem_cons_succ]
      refine wpAnyH_take (i := 14) (v := (.int .i64 x1)) rfl (by kernel_rfl) (by kernel_rfl) (by kernel_rfl) (fun _ _ _ h => h) (Or.inl ⟨by rfl, fun w hw => by obtain ⟨x, rfl⟩ := hw; go_simp⟩) hS ?_
      try simp only [Act.put, List.setIfInBounds_toArray, List.set_cons_zero, List.set_cons_succ, List.getElem_toArray, List.getElem_cons_zero, List.getElem_cons_succ]
      refine wpAnyH_take (i := 15) (v := (.pointer (some ⟨w1.heap.size, 0, none⟩))) rfl (by kernel_rfl) (by kernel_rfl) (by kernel_rfl) (fun _ _ _ h => h) (Or.inl ⟨by rfl, fun w hw => by obtain ⟨x, rfl⟩ := hw; go_simp⟩) hS ?_
      try simp only [Act.put, List.setIfInBounds_toArray, List.set_cons_zero, List.set_cons_succ, List.getElem_toArray, List.getElem_cons_zero, List.getElem_cons_succ]
      refine wpAnyH_take (i := 16) (v := (.int .i64 x0)) rfl (by kernel_rfl) (by kernel_rfl) (by kernel_rfl) (fun _ _ _ h => h) (Or.inl ⟨by rfl, fun w hw => by obtain ⟨x, rfl⟩ := hw; go_simp⟩) hS ?_
      try simp only [Act.put, List.setIfInBounds_toArray, List.set_cons_zero, List.set_cons_succ, List.getElem_toArray, List.getElem_cons_zero, List.getElem_cons_succ]
      refine wpAnyH_take (i := 17) (v := (.int .i64 (x1 - x0))) rfl (by kernel_rfl) (by kernel_rfl) (by kernel_rfl) (fun _ _ _ h => h) (Or.inl ⟨by rfl, fun w hw => by obtain ⟨x, rfl⟩ := hw; go_simp⟩) hS ?_
      try simp only [Act.put, List.setIfInBounds_toArray, List.set_cons_zero, List.set_cons_succ, List.getElem_toArray, List.getElem_cons_zero, List.getElem_cons_succ]
      refine wpAnyH_take (i := 18) (v := (.int .i64 r2)) rfl (by kernel_rfl) (by kernel_rfl) (by kernel_rfl) (fun _ _ _ h => h) (Or.inl ⟨by rfl, fun w hw => by obtain ⟨x, rfl⟩ := hw; go_simp⟩) hS ?_
      try simp only [Act.put, List.setIfInBounds_toArray, List.set_cons_zero, List.set_cons_succ, List.getElem_toArray, List.getElem_cons_zero, List.getElem_cons_succ]
      refine wpAnyH_take (i := 19) (v := (.int .i64 (y0 + r2))) rfl (by kernel_rfl) (by kernel_rfl) (by kernel_rfl) (fun _ _ _ h => h) (Or.inl ⟨by rfl, fun w hw => by obtain ⟨x, rfl⟩ := hw; go_simp⟩) hS ?_
      try simp only [Act.put, List.setIfInBounds_toArray, List.set_cons_zero, List.set_cons_succ, List.getElem_toArray, List.getElem_cons_zero, List.getElem_cons_succ]
      refine wpAnyH_take (i := 20) (v := (.agg #[.int .i64 (x0 + r1), .int .i64 (y0 + r2)])) rfl (by kernel_rfl) (by kernel_rfl) (by kernel_rfl) (fun _ _ _ h => h) (Or.inl ⟨by rfl, fun w hw => by obtain ⟨x, rfl⟩ := hw; go_simp⟩) hS ?_
      try simp only [Act.put, List.setIfInBounds_toArray, List.set_cons_zero, List.set_cons_succ, List.getElem_toArray, List.getElem_cons_zero, List.getElem_cons_succ]
      refine wpAnyH_ready (rs := [21]) (by kernel_rfl) (by simp) ?_
      refine AllReadyH.cons rfl (fun K hK => ?_) AllReadyH.nil
      go_simp
      have B1 := Lib.hid (B0.out.alloc B0.out.size (.cells #[.int .i64 0, .int .i64 0] 45))
      refine hK.out _ _ ⟨⟨_, B1.out⟩, rfl⟩ (fun hS => ?_)
      clear hK K
      try simp only [Act.put, List.setIfInBounds_toArray, List.set_cons_zero, List.set_cons_succ, List.getElem_toArray, List.getElem_cons_zero, List.getElem_cons_succ]
      refine wpAnyH_ready (rs := [22]) (by kernel_rfl) (by simp) ?_
      refine AllReadyH.cons rfl (fun K hK => ?_) AllReadyH.nil
      go_simp
      have B2 := Lib.hid (B0.out.alloc B0.out.size (.cells #[.int .i64 (x0 + r1), .int .i64 (y0 + r2)] 45))
      have N2 := Lib.hid (show (Y0.alloc (.cells #[.int .i64 (x0 + r1), .int .i64 (y0 + r2)] 45)).heap[wr.heap.size]? = some (.cells #[.int .i64 (x0 + r1), .int .i64 (y0 + r2)] 45 (0, 0)) from new_at hzY.symm)
      refine hK.out _ _ ⟨⟨_, B2.out⟩, rfl⟩ (fun hS => ?_)
      clear hK K hS y0' y1' y2'
      try simp only [Act.put, List.setIfInBounds_toArray, List.set_cons_zero, List.set_cons_succ, List.getElem_toArray, List.getElem_cons_zero, List.getElem_cons_succ]
      refine wpAnyH_done (by kernel_rfl) ?_ _
      generalize Y0.alloc (.cells #[.int .i64 (x0 + r1), .int .i64 (y0 + r2)] 45) = W5 at *
      have BB := Lib.hid (bstep HBE.out HBE.out.size B2.out)
      obtain ⟨b2, off2, rfl, hb2, at2⟩ := E2.out.at HGt.out
      have at2 := (show AtE EP W5 b2 (off2 + t * 2) (x0 + r1, y0 + r2) from at2.below BB.out hb2)
      have a0 : W5.cell? ⟨b2, off2 + t * 2, none⟩ = some (.int .i64 (x0 + r1)) := at2 0 _ rfl
      have a1 : W5.cell? ⟨b2, off2 + t * 2 + 1, none⟩ = some (.int .i64 (y0 + r2)) := at2 1 _ rfl
      have n0 : W5.cell? ⟨wr.heap.size, 0, none⟩ = some (.int .i64 (x0 + r1)) := by simp [World.cell?, N2.out]
      have n1 : W5.cell? ⟨wr.heap.size, 1, none⟩ = some (.int .i64 (y0 + r2)) := by simp [World.cell?, N2.out]
      have hni : (t : Int) < (N : Int) := by omega
      generalize x0 + r1 = X at *
      generalize y0 + r2 = Y at *
      clear at2 wq0 wq1 wq2 wq3 wq4 q0 q1 q2' q3' et ed d0 d1 d2 hd hne hz2 hzY B0 B1
      by_cases ht3 : t < n3
      · have hk : L3[t]? = some (X, Y) := (HT.out t ht3).trans HGt.out
        obtain ⟨b3, off3, rfl, hb3, at3⟩ := E3.out.at hk
        have at3 := (show AtE EP W5 b3 (off3 + t * 2) (X, Y) from at3.below BB.out hb3)
        have e0 : W5.cell? ⟨b3, off3 + t * 2, none⟩ = some (.int .i64 X) := at3 0 _ rfl
        have e1 : W5.cell? ⟨b3, off3 + t * 2 + 1, none⟩ = some (.int .i64 Y) := at3 1 _ rfl
        clear at3 hk
        have hi3 : (t : Int) < (n3 : Int) := by omega
        have hd3 : decide ((t : Int) < (n3 : Int)) = true := by simpa using hi3
        go_wp2_with fail
        go_big_quiet (fail)
        go_wp2
        go_roundw
        case rel => exact ⟨t + 1, by omega, by go_num, below_drewN BB.out⟩
        case measure => simp [intOf]; omega
      · have hd3 : decide ((t : Int) < (n3 : Int)) = false := by simp; omega
        go_wp2_with fail
        go_big_quiet (fail)
        go_wp2
        go_roundw
        case rel => exact ⟨t + 1, by omega, by go_num, below_drewN BB.out⟩
        case measure => simp [intOf]; omega
    · go_wp2
      go_ret
      exact ⟨rfl, bstep K3.out K3.out.size HBE.out⟩
end Go.Proofs.Ytfdlfjecgefgfaa
