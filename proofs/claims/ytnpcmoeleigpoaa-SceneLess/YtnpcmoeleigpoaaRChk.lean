/-
  The contract of the reference's Check.
-/
import Derived.Test.YtnpcmoeleigpoaaRDraw2
namespace Go.Proofs.Ytnpcmoeleigpoaa
open Go.RowKit
attribute [local go_sem ↓] Go.wp_at_zero Go.wp_at_succ

theorem chk_two (l : List C.In) : C.chk l = 0 ∨ C.chk l = 23 := by
  unfold C.chk
  split
  · exact .inr rfl
  · split
    · exact .inl rfl
    · exact .inr rfl
set_option maxRecDepth 100000 in
set_option maxHeartbeats 8000000 in
theorem rcheck_scene (s : Sc) (w : World) (ha : s.at w w.heap.size) (hok : s.ok) (hf : s.few) :
    Calls Try.prog 13 #[.agg #[.int .i64 s.w, .int .i64 s.h, .int .u8 s.k.r, .int .u8 s.k.g, .int .u8 s.k.b, .int .u8 s.k.a, .slice s.vA s.vs.length s.vc, .slice s.tA s.ts.length s.tc, .slice s.pA s.ps.length s.pc, .slice s.dA s.ds.length s.dc]] w fun e w' => e = .returned (.int .i64 (check s.p)) ∧ Below w.heap.size w w' := by
  have HK := Lib.hid (new_below w (.cells #[.int .i64 s.w, .int .i64 s.h, .int .u8 s.k.r, .int .u8 s.k.g, .int .u8 s.k.b, .int .u8 s.k.a, .slice s.vA s.vs.length s.vc, .slice s.tA s.ts.length s.tc, .slice s.pA s.ps.length s.pc, .slice s.dA s.ds.length s.dc] 29))
  have HG := Lib.hid (show (w.alloc (.cells #[.int .i64 s.w, .int .i64 s.h, .int .u8 s.k.r, .int .u8 s.k.g, .int .u8 s.k.b, .int .u8 s.k.a, .slice s.vA s.vs.length s.vc, .slice s.tA s.ts.length s.tc, .slice s.pA s.ps.length s.pc, .slice s.dA s.ds.length s.dc] 29)).heap[w.heap.size]? = some (scB s) from heap_alloc_new _ _)
  have H3 := Lib.hid (rright_any s.k)
  have H4 := Lib.hid (fun W (hb : Below w.heap.size w W) => many_any s W ((ha.below hb).sharp) hf)
  have H5 := Lib.hid (fun v W => U.rright_any v W)
  have H6 := Lib.hid (fun (l : Lo Tx) W => rright_tex l.x l.A l.c W)
  have H7 := Lib.hid (fun (l : Lo (List C.In)) (hl : l ∈ s.ps) W (hb : Below w.heap.size w W) => C.rcheck_any l.x l.A l.c (hok.ps l hl).1 W (((ha.px l hl).below hb).sharp))
  have H8 := Lib.hid (fun (j : Nat) (u : Lo Dr) (hu : s.ds[j]? = some u) W (hb : Below w.heap.size w W) => rdraw_any s j u hu W ((ha.below hb).sharp) hf)
  have SV := Lib.hid (fun (j : Nat) (u : U.V) (hu : s.vs[j]? = some u) => ha.v.at hu)
  have ST := Lib.hid (fun (j : Nat) (u : Lo Tx) (hu : s.ts[j]? = some u) => ha.t.at hu)
  have SP := Lib.hid (fun (j : Nat) (u : Lo (List C.In)) (hu : s.ps[j]? = some u) => ha.p.at hu)
  have LV := Lib.hid (fun (k : Nat) (h : k < s.vs.length) => get_lt (l := s.vs) h)
  have LT := Lib.hid (fun (k : Nat) (h : k < s.ts.length) => get_lt (l := s.ts) h)
  have LP := Lib.hid (fun (k : Nat) (h : k < s.ps.length) => get_lt (l := s.ps) h)
  have LD := Lib.hid (fun (k : Nat) (h : k < s.ds.length) => get_lt (l := s.ds) h)
  have AV := Lib.hid (fun (h : ∀ (i : Nat) x, s.vs[i]? = some x → U.rightB x = true) => all_yes h)
  have AT := Lib.hid (fun (h : ∀ (i : Nat) x, s.ts[i]? = some x → (fun l : Lo Tx => l.x.right) x = true) => all_yes h)
  have AP := Lib.hid (fun (h : ∀ (i : Nat) x, s.ps[i]? = some x → (fun l : Lo (List C.In) => decide (C.chk l.x = 0)) x = true) => all_yes h)
  have NV := Lib.hid (fun (j : Nat) (u : U.V) (h : s.vs[j]? = some u) (hr : U.rightB u = false) => all_no (f := U.rightB) h hr)
  have NT := Lib.hid (fun (j : Nat) (u : Lo Tx) (h : s.ts[j]? = some u) (hr : u.x.right = false) => all_no (f := fun l : Lo Tx => l.x.right) h hr)
  have NP := Lib.hid (fun (j : Nat) (u : Lo (List C.In)) (h : s.ps[j]? = some u) (hr : ¬ C.chk u.x = 0) => all_no (f := fun l : Lo (List C.In) => decide (C.chk l.x = 0)) h (by simpa using hr))
  have HGd := Lib.hid (fun h => errs_good (s := s.p) (n := s.ds.length) h)
  have HBd := Lib.hid (fun (j : Nat) (hj : j < s.ds.length) h1 h2 => errs_bad (s := s.p) (n := s.ds.length) (j := j) hj h1 h2)
  have HW := Lib.hid (check_ways s)
  have hvs := hf.vs
  have hts := hf.ts
  have hps := hf.ps
  have hds := hf.ds
  generalize check s.p = R at *
  generalize errAt s.p = er at *
  generalize firstE er 0 s.ds.length = F at *
  have i1 : inB s.w 1 64 = decide (1 ≤ s.w ∧ s.w ≤ 64) := rfl
  have i2 : inB s.h 1 64 = decide (1 ≤ s.h ∧ s.h ≤ 64) := rfl
  rw [i1, i2] at HW
  generalize rightB s.k = r3 at *
  generalize manyB s.p = r4 at *
  generalize s.vs.all U.rightB = r5 at *
  generalize (s.ts.all fun l => l.x.right) = r6 at *
  generalize (s.ps.all fun l => decide (C.chk l.x = 0)) = r7 at *
  clear i1 i2
  obtain ⟨vA, hvA⟩ : ∃ a, s.vA = a := ⟨_, rfl⟩
  obtain ⟨m1, hm1⟩ : ∃ n, s.vs.length = n := ⟨_, rfl⟩
  obtain ⟨tA, htA⟩ : ∃ a, s.tA = a := ⟨_, rfl⟩
  obtain ⟨m2, hm2⟩ : ∃ n, s.ts.length = n := ⟨_, rfl⟩
  obtain ⟨pA, hpA⟩ : ∃ a, s.pA = a := ⟨_, rfl⟩
  obtain ⟨m3, hm3⟩ : ∃ n, s.ps.length = n := ⟨_, rfl⟩
  obtain ⟨dA, hdA⟩ : ∃ a, s.dA = a := ⟨_, rfl⟩
  obtain ⟨m4, hm4⟩ : ∃ n, s.ds.length = n := ⟨_, rfl⟩
  rw [hm1] at LV hvs
  rw [hm2] at LT hts
  rw [hm3] at LP hps
  rw [hm4] at LD hds HGd HBd
  rw [hvA] at SV
  rw [htA] at ST
  rw [hpA] at SP
  replace hvA := Lib.hid hvA
  replace hm1 := Lib.hid hm1
  replace htA := Lib.hid htA
  replace hm2 := Lib.hid hm2
  replace hpA := Lib.hid hpA
  replace hm3 := Lib.hid hm3
  replace hdA := Lib.hid hdA
  replace hm4 := Lib.hid hm4
  clear ha hok hf
  by_cases w1 : s.w < 1
  · obtain rfl : R = 20 := by first | exact HW.out.1 (by simp; omega) | exact HW.out.2.1 (by simp; omega) (by simp; omega)
    go_enter Try.func13, Try.ntmps13
    go_wp2
    go_ret
    exact ⟨rfl, HK.out⟩
  by_cases w2 : 64 < s.w
  · obtain rfl : R = 20 := by first | exact HW.out.1 (by simp; omega) | exact HW.out.2.1 (by simp; omega) (by simp; omega)
    go_enter Try.func13, Try.ntmps13
    go_wp2
    go_ret
    exact ⟨rfl, HK.out⟩
  by_cases h1 : s.h < 1
  · obtain rfl : R = 20 := by first | exact HW.out.1 (by simp; omega) | exact HW.out.2.1 (by simp; omega) (by simp; omega)
    go_enter Try.func13, Try.ntmps13
    go_wp2
    go_ret
    exact ⟨rfl, HK.out⟩
  by_cases h2 : 64 < s.h
  · obtain rfl : R = 20 := by first | exact HW.out.1 (by simp; omega) | exact HW.out.2.1 (by simp; omega) (by simp; omega)
    go_enter Try.func13, Try.ntmps13
    go_wp2
    go_ret
    exact ⟨rfl, HK.out⟩
  have HW2 := Lib.hid (HW.out.2.2 (by simp; omega) (by simp; omega))
  clear HW
  go_enter Try.func13, Try.ntmps13
  go_wp2_with fail
  with_reducible refine (H3.out _).mono ?_
  rintro e w3 ⟨rfl, hb⟩
  have B3 := Lib.hid (bstep HK.out HK.out.size hb)
  have G3 := Lib.hid (scB_keep HG.out hb (scB_lt HG.out))
  clear hb HK HG H3
  cases r3
  · obtain rfl : R = 1 := HW2.out.1 (by simp)
    go_wp2
    go_ret
    exact ⟨rfl, B3.out⟩
  have HW3 := Lib.hid (HW2.out.2 (by simp))
  clear HW2
  obtain ⟨c0, c1, c2, c3, c4, c5, c6, c7, c8, c9⟩ := scB_cell G3.out
  have hg3 := scB_lt G3.out
  go_wp2_with fail
  with_reducible refine (H4.out _ B3.out).mono ?_
  rintro e w4 ⟨rfl, hb⟩
  have B4 := Lib.hid (bstep B3.out B3.out.size hb)
  have G4 := Lib.hid (scB_keep G3.out hb (scB_lt G3.out))
  clear hb B3 G3 H4 c0 c1 c2 c3 c4 c5 c6 c7 c8 c9 hg3
  cases r4
  case true =>
    obtain rfl : R = 26 := HW3.out.1 (by simp)
    go_wp2
    go_ret
    exact ⟨rfl, B4.out⟩
  have HW4 := Lib.hid (HW3.out.2 (by simp))
  clear HW3
  go_wp2_with fail
  go_loopw [5] (fun i wr => ∃ j : Nat, j ≤ m1 ∧ i = .int .i64 j ∧ (∀ (i : Nat) x, i < j → s.vs[i]? = some x → U.rightB x = true) ∧ Below w.heap.size w wr ∧ wr.heap[w.heap.size]? = some (scB s)) (fun i _ => m1 - (intOf i).toNat)
  case atStart => exact ⟨0, Nat.zero_le _, rfl, fun i x h => absurd h (Nat.not_lt_zero _), B4.out, G4.out⟩
  case round =>
    obtain ⟨j, hk, rfl, hin, hb, hg⟩ := hrel
    have HB := Lib.hid hb
    have HI := Lib.hid hin
    have HG := Lib.hid hg
    clear hin hb hg
    obtain ⟨c0, c1, c2, c3, c4, c5, c6, c7, c8, c9⟩ := scB_cell HG.out
    rw [hm1.out, hvA.out] at c6
    rw [hm2.out, htA.out] at c7
    rw [hm3.out, hpA.out] at c8
    rw [hm4.out, hdA.out] at c9
    have hg := scB_lt HG.out
    by_cases hlt : j < m1
    · obtain ⟨u, hu⟩ := LV.out j hlt
      obtain ⟨b, off, rfl, hbB, hat⟩ := SV.out j u hu
      have hc := atV (show AtE EV wr b (off + j * 8) u from hat.below HB.out hbB)
      obtain ⟨d0, d1, d2, d3, d4, d5, d6, d7⟩ := hc
      have hbw := Nat.lt_of_lt_of_le hbB HB.out.size
      have HU := Lib.hid (H5.out u wr)
      replace hu := Lib.hid hu
      clear hat
      obtain ⟨r, hr⟩ : ∃ r, U.rightB u = r := ⟨_, rfl⟩
      rw [hr] at HU
      replace hr := Lib.hid hr
      go_wp2_with fail
      with_reducible refine (HU.out).mono ?_
      rintro e w5 ⟨rfl, hb⟩
      have B5 := Lib.hid (bstep HB.out HB.out.size hb)
      have G5 := Lib.hid (scB_keep HG.out hb (scB_lt HG.out))
      clear hb HU c0 c1 c2 c3 c4 c5 c6 c7 c8 c9 hg d0 d1 d2 d3 d4 d5 d6 d7
      cases r
      · obtain rfl : R = 21 := HW4.out.1 (NV.out j u hu.out hr.out)
        go_wp2_with fail
        go_ret
        exact ⟨rfl, B5.out⟩
      · go_wp2_with fail
        go_roundw
        case rel =>
          refine ⟨j + 1, by omega, by go_num, fun i x hi hx => ?_, B5.out, G5.out⟩
          rcases Nat.lt_or_ge i j with h | h
          · exact HI.out i x h hx
          · obtain rfl : i = j := by omega
            have h5 := hu.out
            rw [hx] at h5
            cases h5
            exact hr.out
        case measure => simp [intOf]; omega
    · obtain rfl : m1 = j := by omega
      have HW5 := Lib.hid (HW4.out.2 (AV.out fun i x hx => HI.out i x (by have := (List.getElem?_eq_some_iff.1 hx).1; have := hm1.out; omega) hx))
      have HB5 := HB
      have HG5 := HG
      clear HW4 HI hlt hk
      go_wp2_with fail
      clear c0 c1 c2 c3 c4 c5 c6 c7 c8 c9 hg HB HG
      go_loopw [7] (fun i wr => ∃ j : Nat, j ≤ m2 ∧ i = .int .i64 j ∧ (∀ (i : Nat) x, i < j → s.ts[i]? = some x → (fun l : Lo Tx => l.x.right) x = true) ∧ Below w.heap.size w wr ∧ wr.heap[w.heap.size]? = some (scB s)) (fun i _ => m2 - (intOf i).toNat)
      case atStart => exact ⟨0, Nat.zero_le _, rfl, fun i x h => absurd h (Nat.not_lt_zero _), HB5.out, HG5.out⟩
      case round =>
        obtain ⟨j, hk, rfl, hin, hb, hg⟩ := hrel
        have HB := Lib.hid hb
        have HI := Lib.hid hin
        have HG := Lib.hid hg
        clear hin hb hg
        obtain ⟨c0, c1, c2, c3, c4, c5, c6, c7, c8, c9⟩ := scB_cell HG.out
        rw [hm1.out, hvA.out] at c6
        rw [hm2.out, htA.out] at c7
        rw [hm3.out, hpA.out] at c8
        rw [hm4.out, hdA.out] at c9
        have hg := scB_lt HG.out
        by_cases hlt : j < m2
        · obtain ⟨u, hu⟩ := LT.out j hlt
          obtain ⟨b, off, rfl, hbB, hat⟩ := ST.out j u hu
          have hc := atT (show AtE ET wr b (off + j * 3) u from hat.below HB.out hbB)
          obtain ⟨d0, d1, d2⟩ := hc
          have hbw := Nat.lt_of_lt_of_le hbB HB.out.size
          have HU := Lib.hid (H6.out u wr)
          replace hu := Lib.hid hu
          clear hat
          obtain ⟨r, hr⟩ : ∃ r, u.x.right = r := ⟨_, rfl⟩
          rw [hr] at HU
          replace hr := Lib.hid hr
          go_wp2_with fail
          with_reducible refine (HU.out).mono ?_
          rintro e w5 ⟨rfl, hb⟩
          have B5 := Lib.hid (bstep HB.out HB.out.size hb)
          have G5 := Lib.hid (scB_keep HG.out hb (scB_lt HG.out))
          clear hb HU c0 c1 c2 c3 c4 c5 c6 c7 c8 c9 hg d0 d1 d2
          cases r
          · obtain rfl : R = 22 := HW5.out.1 (NT.out j u hu.out hr.out)
            go_wp2_with fail
            go_ret
            exact ⟨rfl, B5.out⟩
          · go_wp2_with fail
            go_roundw
            case rel =>
              refine ⟨j + 1, by omega, by go_num, fun i x hi hx => ?_, B5.out, G5.out⟩
              rcases Nat.lt_or_ge i j with h | h
              · exact HI.out i x h hx
              · obtain rfl : i = j := by omega
                have h5 := hu.out
                rw [hx] at h5
                cases h5
                exact hr.out
            case measure => simp [intOf]; omega
        · obtain rfl : m2 = j := by omega
          have HW6 := Lib.hid (HW5.out.2 (AT.out fun i x hx => HI.out i x (by have := (List.getElem?_eq_some_iff.1 hx).1; have := hm2.out; omega) hx))
          have HB6 := HB
          have HG6 := HG
          clear HW5 HI hlt hk
          go_wp2_with fail
          clear c0 c1 c2 c3 c4 c5 c6 c7 c8 c9 hg HB HG
          go_loopw [9] (fun i wr => ∃ j : Nat, j ≤ m3 ∧ i = .int .i64 j ∧ (∀ (i : Nat) x, i < j → s.ps[i]? = some x → (fun l : Lo (List C.In) => decide (C.chk l.x = 0)) x = true) ∧ Below w.heap.size w wr ∧ wr.heap[w.heap.size]? = some (scB s)) (fun i _ => m3 - (intOf i).toNat)
          case atStart => exact ⟨0, Nat.zero_le _, rfl, fun i x h => absurd h (Nat.not_lt_zero _), HB6.out, HG6.out⟩
          case round =>
            obtain ⟨j, hk, rfl, hin, hb, hg⟩ := hrel
            have HB := Lib.hid hb
            have HI := Lib.hid hin
            have HG := Lib.hid hg
            clear hin hb hg
            obtain ⟨c0, c1, c2, c3, c4, c5, c6, c7, c8, c9⟩ := scB_cell HG.out
            rw [hm1.out, hvA.out] at c6
            rw [hm2.out, htA.out] at c7
            rw [hm3.out, hpA.out] at c8
            rw [hm4.out, hdA.out] at c9
            have hg := scB_lt HG.out
            by_cases hlt : j < m3
            · obtain ⟨u, hu⟩ := LP.out j hlt
              obtain ⟨b, off, rfl, hbB, hat⟩ := SP.out j u hu
              have hc := atP (show AtE EP wr b (off + j * 1) u from hat.below HB.out hbB)
              have d0 : wr.cell? ⟨b, off + j, none⟩ = some (.slice u.A u.x.length u.c) := by simpa using hc
              have hbw := Nat.lt_of_lt_of_le hbB HB.out.size
              have HU := Lib.hid (H7.out u (List.mem_of_getElem? hu) wr HB.out)
              have hr2 := chk_two u.x
              replace hu := Lib.hid hu
              clear hat hc
              obtain ⟨r, hr⟩ : ∃ r, C.chk u.x = r := ⟨_, rfl⟩
              rw [hr] at HU hr2
              have HR := Lib.hid hr
              clear hr
              go_wp2_with fail
              with_reducible refine (HU.out).mono ?_
              rintro e w5 ⟨rfl, hb⟩
              have B5 := Lib.hid (bstep HB.out HB.out.size hb)
              have G5 := Lib.hid (scB_keep HG.out hb (scB_lt HG.out))
              clear hb HU c0 c1 c2 c3 c4 c5 c6 c7 c8 c9 hg d0
              rcases hr2 with rfl | rfl
              · go_wp2_with fail
                go_roundw
                case rel =>
                  refine ⟨j + 1, by omega, by go_num, fun i x hi hx => ?_, B5.out, G5.out⟩
                  rcases Nat.lt_or_ge i j with h | h
                  · exact HI.out i x h hx
                  · obtain rfl : i = j := by omega
                    have h5 := hu.out
                    rw [hx] at h5
                    cases h5
                    simpa using HR.out
                case measure => simp [intOf]; omega
              · obtain rfl : R = 23 := HW6.out.1 (NP.out j u hu.out (by rw [HR.out]; decide))
                go_wp2_with fail
                go_ret
                exact ⟨rfl, B5.out⟩
            · obtain rfl : m3 = j := by omega
              obtain rfl : R = F := HW6.out.2 (AP.out fun i x hx => HI.out i x (by have := (List.getElem?_eq_some_iff.1 hx).1; have := hm3.out; omega) hx)
              have HB7 := HB
              have HG7 := HG
              clear HW6 HI hlt hk
              go_wp2_with fail
              clear c0 c1 c2 c3 c4 c5 c6 c7 c8 c9 hg HB HG
              go_loopw [10] (fun i wr => ∃ j : Nat, j ≤ m4 ∧ i = .int .i64 j ∧ (∀ i, i < j → er i = 0) ∧ Below w.heap.size w wr ∧ wr.heap[w.heap.size]? = some (scB s)) (fun i _ => m4 - (intOf i).toNat)
              case atStart => exact ⟨0, Nat.zero_le _, rfl, fun i h => absurd h (Nat.not_lt_zero _), HB7.out, HG7.out⟩
              case round =>
                obtain ⟨j, hk, rfl, hin, hb, hg⟩ := hrel
                have HB := Lib.hid hb
                have HI := Lib.hid hin
                have HG := Lib.hid hg
                clear hin hb hg
                obtain ⟨c0, c1, c2, c3, c4, c5, c6, c7, c8, c9⟩ := scB_cell HG.out
                rw [hm1.out, hvA.out] at c6
                rw [hm2.out, htA.out] at c7
                rw [hm3.out, hpA.out] at c8
                rw [hm4.out, hdA.out] at c9
                have hg := scB_lt HG.out
                by_cases hlt : j < m4
                · obtain ⟨u, hu⟩ := LD.out j hlt
                  have HU := Lib.hid (H8.out j u hu wr HB.out)
                  rw [hm4.out, hdA.out, hm1.out, hvA.out, hm2.out, htA.out, hm3.out, hpA.out] at HU
                  obtain ⟨x, hx⟩ : ∃ x, er j = x := ⟨_, rfl⟩
                  rw [hx] at HU
                  have HX := Lib.hid hx
                  clear hu hx
                  go_wp2_with fail
                  with_reducible refine (HU.out).mono ?_
                  rintro e w5 ⟨rfl, hb⟩
                  have B5 := Lib.hid (bstep HB.out HB.out.size hb)
                  have G5 := Lib.hid (scB_keep HG.out hb (scB_lt HG.out))
                  clear hb HU c0 c1 c2 c3 c4 c5 c6 c7 c8 c9 hg
                  by_cases x0 : x = 0
                  · have d1 : (x == 0) = true := by simp [x0]
                    have d2 : decide (x = 0) = true := by simp [x0]
                    go_wp2_with fail
                    go_roundw
                    case rel =>
                      refine ⟨j + 1, by omega, by go_num, fun i hi => ?_, B5.out, G5.out⟩
                      rcases Nat.lt_or_ge i j with h | h
                      · exact HI.out i h
                      · obtain rfl : i = j := by omega
                        rw [HX.out]
                        exact x0
                    case measure => simp [intOf]; omega
                  · have d1 : (x == 0) = false := by simp [x0]
                    have d2 : decide (x = 0) = false := by simp [x0]
                    obtain rfl : R = x := by rw [HBd.out j hlt HI.out (by rw [HX.out]; exact x0), HX.out]
                    go_wp2_with fail
                    go_ret
                    exact ⟨rfl, B5.out⟩
                · obtain rfl : m4 = j := by omega
                  obtain rfl : R = 0 := HGd.out HI.out
                  go_wp2_with fail
                  go_ret
                  exact ⟨rfl, HB.out⟩
end Go.Proofs.Ytnpcmoeleigpoaa
