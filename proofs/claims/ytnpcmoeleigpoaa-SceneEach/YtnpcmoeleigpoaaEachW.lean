/-
  The walk of SceneEach.
-/
import Derived.Test.YtnpcmoeleigpoaaSml
import Derived.Test.YtnpcmoeleigpoaaGone
import Derived.Test.YtnpcmoeleigpoaaShown
import Derived.BigRegion
namespace Go.Proofs.Ytnpcmoeleigpoaa
open Go.RowKit
attribute [local go_sem ↓] Go.wp_at_zero Go.wp_at_succ

theorem neq43 (w : World) (a b a' b' : Int) : (binOp .neq 43 (.agg #[.int .i64 a, .int .i64 b]) (.agg #[.int .i64 a', .int .i64 b'])).run Try.prog w = .ok (.bool (!([a, b] == [a', b']))) w := by
  have h := U.run_equalIn_ints (P := Try.prog) w 9998 43 3 2 Try.underlying43 Try.underlying3 Try.sizeOf3 [a, b] [a', b'] rfl rfl
  simp only [List.map_cons, List.map_nil] at h
  simp only [binOp, Op.equal, Op.maxDepth, Sem.run_bind]
  rw [show (10000 : Nat) = 9998 + 2 from rfl, h, Result.andThen_ok]
  rfl
theorem neq43_self (w : World) (a b : Int) : (binOp .neq 43 (.agg #[.int .i64 a, .int .i64 b]) (.agg #[.int .i64 a, .int .i64 b])).run Try.prog w = .ok (.bool false) w := by
  rw [neq43]; simp
theorem guard43 : Try.prog.eqGuardType Try.prog.depth 43 = false := by kernel_rfl
theorem below_drewN {B n : Nat} {a b : World} (h : Below B a b) : Below B a (b.drewN n) := h.trans ⟨rfl, rfl, rfl, Nat.le_refl _, fun _ _ => rfl⟩
theorem sum_le34 : ∀ (l : List Nat), (∀ x ∈ l, x ≤ 34) → l.sum ≤ l.length * 34
  | [], _ => by simp
  | a :: l, h => by
    have h1 := sum_le34 l (fun x hx => h x (List.mem_cons_of_mem _ hx))
    have h2 := h a (by simp)
    rw [List.sum_cons, List.length_cons]
    omega
theorem smP_count (p : PS) : count (smP p) ≤ 306 := by
  unfold count smP
  refine Nat.le_trans (sum_le34 _ (fun x hx => ?_)) ?_
  · obtain ⟨d, hd, rfl⟩ := List.mem_map.1 hx
    obtain ⟨d0, hd0, rfl⟩ := List.mem_map.1 hd
    exact take_le _ _
  · rw [List.length_map, List.length_map]
    have := take_le p.ds 9
    omega
theorem upTo_get {s : Sc} {d t : Nat} {u : Lo Dr} (hu : s.ds[d]? = some u) (ht : t < u.x.tris.length) : (plc s)[(upTo s d t).length]? = some ((d : Int), (t : Int)) ∧ (upTo s d t).length < (plc s).length := by
  obtain ⟨r, hr⟩ := upTo_pre hu (show t + 1 ≤ u.x.tris.length from ht)
  rw [← upTo_step] at hr
  rw [← hr]
  constructor
  · rw [List.append_assoc, List.getElem?_append_right (Nat.le_refl _), Nat.sub_self]
    rfl
  · rw [List.length_append, List.length_append]
    simp
    omega
attribute [local go_sem high] neq43_self
attribute [local go_sem] guard43

set_option maxRecDepth 100000 in
set_option maxHeartbeats 4000000 in
theorem each_walk (s : Sc) (n : Int) (hn : 0 ≤ n ∧ n ≤ 255) (w : World) (ok : s.ok) (at0 : s.at w w.heap.size) :
    Calls Try.prog 4 #[.agg #[.int .i64 s.w, .int .i64 s.h, .int .u8 s.k.r, .int .u8 s.k.g, .int .u8 s.k.b, .int .u8 s.k.a, .slice s.vA s.vs.length s.vc, .slice s.tA s.ts.length s.tc, .slice s.pA s.ps.length s.pc, .slice s.dA s.ds.length s.dc], .int .u8 n] w fun e w' => e = .returned (.bool true) ∧ Below w.heap.size w w' := by
  obtain ⟨q, hq⟩ : ∃ q : Nat, 1 + n % 16 = q := ⟨(1 + n % 16).toNat, by omega⟩
  have hq0 : 1 ≤ q := by omega
  have hq16 : q ≤ 16 := by omega
  have HQ := Lib.hid hq
  have HA := Lib.hid at0
  have HK := Lib.hid ok
  clear hq ok at0
  obtain ⟨n0, n1⟩ := hn
  go_enter Try.func4, Try.ntmps4
  go_wp2_with fail
  with_reducible refine (shown_any _).mono ?_
  rintro e w1 ⟨rfl, hb⟩
  have B1 := Lib.hid (bstep (new_below w (.cells #[.int .i64 s.w, .int .i64 s.h, .int .u8 s.k.r, .int .u8 s.k.g, .int .u8 s.k.b, .int .u8 s.k.a, .slice s.vA s.vs.length s.vc, .slice s.tA s.ts.length s.tc, .slice s.pA s.ps.length s.pc, .slice s.dA s.ds.length s.dc] 29)) (by simp) hb)
  have z : w1.heap[w.heap.size]? = some (scB s) := (hb.block _ (by simp)).trans (heap_alloc_new _ _)
  obtain ⟨z0, z1, z2, z3, z4, z5, z6, z7, z8, z9⟩ := scB_cell z
  have A1 := Lib.hid ((HA.out.below B1.out).more B1.out.size)
  clear hb z
  go_wp2_with fail
  with_reducible refine (small_any s _ A1.out HK.out).mono ?_
  rintro e w2 ⟨x, rfl, hp, hc, hx, hb⟩
  have B2 := Lib.hid (bstep B1.out B1.out.size hb)
  have HX := Lib.hid hx
  have HF := Lib.hid (few_of hp (smP_few _))
  obtain ⟨N, hN⟩ : ∃ N, (plc x).length = N := ⟨_, rfl⟩
  have hN306 : N ≤ 306 := by rw [← hN, plc_len, hp]; exact smP_count _
  have HN := Lib.hid hN
  clear z0 z1 z2 z3 z4 z5 z6 z7 z8 z9 hb hx hc hp hN
  have G1 := Lib.hid (show Calls Try.prog 16 #[.agg #[.int .i64 x.w, .int .i64 x.h, .int .u8 x.k.r, .int .u8 x.k.g, .int .u8 x.k.b, .int .u8 x.k.a, .slice x.vA x.vs.length x.vc, .slice x.tA x.ts.length x.tc, .slice x.pA x.ps.length x.pc, .slice x.dA x.ds.length x.dc], .int .i64 1000] (w2.alloc (.cells #[.int .i64 x.w, .int .i64 x.h, .int .u8 x.k.r, .int .u8 x.k.g, .int .u8 x.k.b, .int .u8 x.k.a, .slice x.vA x.vs.length x.vc, .slice x.tA x.ts.length x.tc, .slice x.pA x.ps.length x.pc, .slice x.dA x.ds.length x.dc] 29)) (Gone (w2.alloc (.cells #[.int .i64 x.w, .int .i64 x.h, .int .u8 x.k.r, .int .u8 x.k.g, .int .u8 x.k.b, .int .u8 x.k.a, .slice x.vA x.vs.length x.vc, .slice x.tA x.ts.length x.tc, .slice x.pA x.ps.length x.pc, .slice x.dA x.ds.length x.dc] 29)) x 1000) from gone_any x HF.out 1000 (by omega) (by omega) _ ((HX.out.d.below (new_below _ _)).more (by simp)))
  go_wp2_with fail
  with_reducible refine G1.out.mono ?_
  rintro e w3 ⟨v1, rfl, ho, hb⟩
  have hx2 : w3.heap[w2.heap.size]? = some (scB x) := (hb.block _ (by simp)).trans (heap_alloc_new _ _)
  have B3 := Lib.hid (bstep (B2.out.alloc B2.out.size _) (by have := B2.out.size; simp; omega) hb)
  have hbb := bstep (new_below w2 (.cells #[.int .i64 x.w, .int .i64 x.h, .int .u8 x.k.r, .int .u8 x.k.g, .int .u8 x.k.b, .int .u8 x.k.a, .slice x.vA x.vs.length x.vc, .slice x.tA x.ts.length x.tc, .slice x.pA x.ps.length x.pc, .slice x.dA x.ds.length x.dc] 29)) (by simp) hb
  have HX3 := Lib.hid ((HX.out.below hbb).more hbb.size)
  obtain ⟨z0, z1, z2, z3, z4, z5, z6, z7, z8, z9⟩ := scB_cell hx2
  have O1 := Lib.hid ho
  have X2 := Lib.hid hx2
  have G2 := Lib.hid (gone_any x HF.out q (by omega) (by omega) w3 HX3.out.d)
  clear hb hbb ho hx2 G1
  go_wp2_with fail
  rw [HQ.out]
  with_reducible refine G2.out.mono ?_
  rintro e w4 ⟨v2, rfl, ho2, hb⟩
  have B4 := Lib.hid (bstep B3.out B3.out.size hb)
  have hx4 : w4.heap[w2.heap.size]? = some (scB x) := (hb.block _ (Array.getElem?_eq_some_iff.1 X2.out).1).trans X2.out
  have X4 := Lib.hid hx4
  have HX4 := Lib.hid ((HX3.out.below hb).more hb.size)
  have ho1 := O1.out.keep hb
  rw [List.take_of_length_le (by rw [HN.out]; omega)] at ho1
  obtain ⟨M, hM⟩ : ∃ M, ((plc x).take q).length = M := ⟨_, rfl⟩
  have hM2 : M = min q N := by rw [← hM, List.length_take, HN.out]
  have hmn : min (N : Int) (1 + n % 16) = M := by rw [HQ.out]; omega
  obtain ⟨A2, c2, e2, -, -, es2⟩ := ho1.es
  obtain ⟨A3, c3, e3, -, -, es3⟩ := ho2.es
  rw [HN.out] at e2
  rw [hM] at e3
  subst e2 e3
  have E2' := Lib.hid es2
  have E3' := Lib.hid es3
  have HCNT := Lib.hid (show ∀ w, Es ED w w.heap.size x.dA x.ds → Calls Try.prog 14 #[.agg #[.int .i64 x.w, .int .i64 x.h, .int .u8 x.k.r, .int .u8 x.k.g, .int .u8 x.k.b, .int .u8 x.k.a, .slice x.vA x.vs.length x.vc, .slice x.tA x.ts.length x.tc, .slice x.pA x.ps.length x.pc, .slice x.dA x.ds.length x.dc]] w (fun e w' => e = .returned (.int .i64 N) ∧ Below w.heap.size w w') from fun w hd => by have h := count_any x HF.out w hd; rwa [← plc_len, HN.out] at h)
  have HMx := Lib.hid hM
  clear z0 z1 z2 z3 z4 z5 z6 z7 z8 z9 es2 es3 ho1 ho2 hb hM hM2 O1 G2
  obtain ⟨z0, z1, z2, z3, z4, z5, z6, z7, z8, z9⟩ := scB_cell hx4
  clear hx4
  go_wp2_with fail
  with_reducible refine (HCNT.out _ HX4.out.d).mono ?_
  rintro e w5 ⟨rfl, hb⟩
  have B5 := Lib.hid hb
  clear hb
  go_wp2_with fail
  clear z0 z1 z2 z3 z4 z5 z6 z7 z8 z9
  obtain ⟨m4, hm4⟩ : ∃ m, x.ds.length = m := ⟨_, rfl⟩
  obtain ⟨dA, hdA⟩ : ∃ a, x.dA = a := ⟨_, rfl⟩
  rw [hm4, hdA]
  have HW := Lib.hid (bstep B4.out B4.out.size B5.out)
  have HS := Lib.hid (show ∀ wr, Below w5.heap.size w5 wr → wr.cell? ⟨w2.heap.size, 9, none⟩ = some (.slice dA m4 x.dc) from fun wr hb => by
    have h1 := (Array.getElem?_eq_some_iff.1 X4.out).1
    have h2 := (scB_cell ((hb.block _ (Nat.lt_of_lt_of_le h1 B5.out.size)).trans ((B5.out.block _ h1).trans X4.out))).2.2.2.2.2.2.2.2.2
    rwa [hdA, hm4] at h2)
  have EDs := Lib.hid (show Es ED w5 w5.heap.size dA x.ds by rw [← hdA]; exact (HX4.out.d.below B5.out).more B5.out.size)
  have LD := Lib.hid (fun (k : Nat) (h : k < m4) => get_lt (l := x.ds) (k := k) (by rw [hm4]; exact h))
  have EL := Lib.hid ((E2'.out.below B5.out).more B5.out.size)
  have EK := Lib.hid ((E3'.out.below B5.out).more B5.out.size)
  have hgw : w2.heap.size < w5.heap.size := Nat.lt_of_lt_of_le (Array.getElem?_eq_some_iff.1 X4.out).1 B5.out.size
  have hm1000 : m4 ≤ 1000 := by rw [← hm4]; exact HF.out.ds
  replace hm4 := Lib.hid hm4
  replace hdA := Lib.hid hdA
  clear hmn
  go_loopw [11, 12] (fun c i wr => ∃ d : Nat, d ≤ m4 ∧ i = .int .i64 d ∧ c = .int .i64 ((upTo x d 0).length : Nat) ∧ Below w5.heap.size w5 wr) (fun c i _ => m4 - (intOf i).toNat)
  case atStart => exact ⟨0, Nat.zero_le _, rfl, by rw [upTo_zero]; rfl, Below.refl _ _⟩
  case round =>
    obtain ⟨d, hd, rfl, rfl, hbel⟩ := hrel
    have HBE := Lib.hid hbel
    have s9 := HS.out _ hbel
    clear hbel
    obtain ⟨c, hc⟩ : ∃ c, (upTo x d 0).length = c := ⟨_, rfl⟩
    rw [hc]
    have HC := Lib.hid hc
    clear hc
    by_cases hlt : d < m4
    · obtain ⟨u, hu⟩ := LD.out d hlt
      obtain ⟨b, off, rfl, hbB, hat⟩ := EDs.out.at hu
      have hat' := Lib.hid hat
      have HUu := Lib.hid hu
      obtain ⟨p, hp⟩ : ∃ p, u.x.tris.length = p := ⟨_, rfl⟩
      have hp34 : p ≤ 1000 := by rw [← hp]; exact HF.out.dx u (List.mem_of_getElem? hu)
      have HPp := Lib.hid hp
      clear hat hu hp
      go_wp2_with fail
      go_loopw [11, 13] (fun c i wr' => ∃ t : Nat, t ≤ p ∧ i = .int .i64 t ∧ c = .int .i64 ((upTo x d t).length : Nat) ∧ Below w5.heap.size w5 wr') (fun c i _ => p - (intOf i).toNat)
      case atStart => exact ⟨0, Nat.zero_le _, rfl, by rw [HC.out], HBE.out⟩
      case round =>
        obtain ⟨t, ht, rfl, rfl, hbel⟩ := hrel
        have HBt := Lib.hid hbel
        rename World => wt
        have s9' := HS.out _ hbel
        obtain ⟨d0, d1, d2, d3, d4⟩ := atD (show AtE ED wt b (off + d * 5) u from hat'.out.below hbel hbB)
        rw [HPp.out] at d4
        clear hbel
        obtain ⟨c', hc'⟩ : ∃ c, (upTo x d t).length = c := ⟨_, rfl⟩
        rw [hc']
        have HC' := Lib.hid hc'
        clear hc'
        by_cases hlt2 : t < p
        · obtain ⟨hg, hcN⟩ := upTo_get HUu.out (show t < u.x.tris.length by rw [HPp.out]; exact hlt2)
          rw [HC'.out] at hg hcN
          rw [HN.out] at hcN
          have HG := Lib.hid hg
          clear hg
          have hdi : (d : Int) < (m4 : Int) := by omega
          have hti : (t : Int) < (p : Int) := by omega
          have hgz : w2.heap.size < wt.heap.size := Nat.lt_of_lt_of_le hgw HBt.out.size
          go_upto_region 15 with fail
          have BB := Lib.hid (HBt.out.trans ((new_below wt (.cells #[.int .i64 d, .int .i64 t] 43)).mono HBt.out.size))
          have NW := Lib.hid (heap_alloc_new wt (.cells #[.int .i64 d, .int .i64 t] 43))
          generalize wt.alloc (.cells #[.int .i64 d, .int .i64 t] 43) = W5 at *
          obtain ⟨b2, off2, rfl, hb2, at2⟩ := EL.out.at HG.out
          have at2 := (show AtE E2 W5 b2 (off2 + c' * 2) ((d : Int), (t : Int)) from at2.below BB.out hb2)
          have a0 : W5.cell? ⟨b2, off2 + c' * 2, none⟩ = some (.int .i64 d) := at2 0 _ rfl
          have a1 : W5.cell? ⟨b2, off2 + c' * 2 + 1, none⟩ = some (.int .i64 t) := at2 1 _ rfl
          have n0 : W5.cell? ⟨wt.heap.size, 0, none⟩ = some (.int .i64 d) := by simp [World.cell?, NW.out]
          have n1 : W5.cell? ⟨wt.heap.size, 1, none⟩ = some (.int .i64 t) := by simp [World.cell?, NW.out]
          have hni : (c' : Int) < (N : Int) := by omega
          have hng : decide (N ≤ c') = false := by simp; omega
          clear at2 d0 d1 d2 d3 d4 s9 s9'
          have HC2 := Lib.hid (show (upTo x d (t + 1)).length = c' + 1 by rw [← upTo_step, List.length_append, HC'.out]; rfl)
          by_cases hc3 : c' < M
          · obtain ⟨b3, off3, rfl, hb3, at3⟩ := EK.out.at ((List.getElem?_take_of_lt (by have := HMx.out; rw [List.length_take] at this; omega)).trans HG.out : ((plc x).take q)[c']? = some ((d : Int), (t : Int)))
            have at3 := (show AtE E2 W5 b3 (off3 + c' * 2) ((d : Int), (t : Int)) from at3.below BB.out hb3)
            have e0 : W5.cell? ⟨b3, off3 + c' * 2, none⟩ = some (.int .i64 d) := at3 0 _ rfl
            have e1 : W5.cell? ⟨b3, off3 + c' * 2 + 1, none⟩ = some (.int .i64 t) := at3 1 _ rfl
            clear at3
            have hi3 : (c' : Int) < (M : Int) := by omega
            have hd3 : decide ((c' : Int) < (M : Int)) = true := by simpa using hi3
            go_wp2_with fail
            go_big_quiet (fail)
            go_wp2
            go_roundw
            case rel => exact ⟨t + 1, by omega, by go_num, by rw [HC2.out]; go_num, below_drewN BB.out⟩
            case measure => simp [intOf]; omega
          · have hd3 : decide ((c' : Int) < (M : Int)) = false := by simp; omega
            go_wp2_with fail
            go_big_quiet (fail)
            go_wp2
            go_roundw
            case rel => exact ⟨t + 1, by omega, by go_num, by rw [HC2.out]; go_num, below_drewN BB.out⟩
            case measure => simp [intOf]; omega
        · have htp : t = p := by omega
          subst htp
          have HC2 := Lib.hid (show (upTo x (d + 1) 0).length = c' by rw [← upTo_next HUu.out, HPp.out]; exact HC'.out)
          have hdi : (d : Int) < (m4 : Int) := by omega
          go_wp2
          go_roundw
          case rel => exact ⟨d + 1, by omega, by go_num, by rw [HC2.out], HBt.out⟩
          case measure => simp [intOf]; omega
    · have hdm : d = m4 := by omega
      subst hdm
      have HCe := Lib.hid (show c = N by rw [← HC.out, ← hm4.out, upTo_end]; exact HN.out)
      have e := HCe.out
      subst e
      go_wp2
      go_ret
      exact ⟨rfl, bstep HW.out HW.out.size HBE.out⟩
end Go.Proofs.Ytnpcmoeleigpoaa
