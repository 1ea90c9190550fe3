/-
  The contract of the reference's draw.
-/
import Derived.Test.YtnpcmoeleigpoaaRDraw
namespace Go.Proofs.Ytnpcmoeleigpoaa
open Go.RowKit
attribute [local go_sem ↓] Go.wp_at_zero Go.wp_at_succ

set_option maxRecDepth 100000 in
set_option maxHeartbeats 8000000 in
theorem rdraw_any (s : Sc) (k : Nat) (u : Lo Dr) (hu : s.ds[k]? = some u) (w : World) (ha : s.at w w.heap.size) (hf : s.few) :
    Calls Try.prog 38 #[.agg #[.int .i64 s.w, .int .i64 s.h, .int .u8 s.k.r, .int .u8 s.k.g, .int .u8 s.k.b, .int .u8 s.k.a, .slice s.vA s.vs.length s.vc, .slice s.tA s.ts.length s.tc, .slice s.pA s.ps.length s.pc, .slice s.dA s.ds.length s.dc], .int .i64 k] w fun e w' => e = .returned (.int .i64 (errAt s.p k)) ∧ Below w.heap.size w w' := by
  have HK := Lib.hid (fun o o' => bstep (new_below w o) (by simp) (new_below _ o'))
  have hku := (List.getElem?_eq_some_iff.1 hu).1
  have hmu := List.mem_of_getElem? hu
  have hds := hf.ds
  have hm1000 := hf.dx u hmu
  obtain ⟨b, off, hA, hbB, hat⟩ := ha.d.at hu
  obtain ⟨d0, d1, d2, d3, d4⟩ := atD hat
  have WAYS := draw_ways s ((s.ds.take k).map Lo.x) u.x
  rw [errAt_sc hu]
  have hPG : s.p.ps.getD u.x.prog.toNat [] = (s.ps.map Lo.x).getD u.x.prog.toNat [] := rfl
  rw [hPG] at WAYS
  clear hPG
  have HPre := Lib.hid (fun (i : Nat) (e : Lo Dr) (hi : i < k) (h : s.ds[i]? = some e) => show ((s.ds.take k).map Lo.x)[i]? = some e.x by rw [List.getElem?_map, List.getElem?_take, if_pos hi, h]; rfl)
  have HPre2 := Lib.hid (fun (i : Nat) (e : Dr) (h : ((s.ds.take k).map Lo.x)[i]? = some e) => show ∃ l : Lo Dr, i < k ∧ s.ds[i]? = some l ∧ e = l.x by
    rw [List.getElem?_map, List.getElem?_take] at h
    split at h
    · rename_i hi
      cases h2 : s.ds[i]? with
      | none => rw [h2] at h; cases h
      | some l => rw [h2] at h; exact ⟨l, hi, rfl, (by simpa using h.symm)⟩
    · cases h)
  generalize drawE s.p ((s.ds.take k).map Lo.x) u.x = R at *
  generalize (s.ds.take k).map Lo.x = pre at *
  obtain ⟨n, hn⟩ : ∃ n, s.ds.length = n := ⟨_, rfl⟩
  obtain ⟨m, hm⟩ : ∃ m, u.x.tris.length = m := ⟨_, rfl⟩
  obtain ⟨rA, hrA⟩ : ∃ a, u.A = a := ⟨_, rfl⟩
  have hsz : ED.size = 5 := rfl
  rw [hsz] at d0 d1 d2 d3 d4
  rw [hn] at hku hds
  rw [hA, hn]
  rw [hm, hrA] at d4
  rw [hm] at hm1000
  have hDS := Lib.hid (fun (i : Nat) (l : Lo Dr) (h : s.ds[i]? = some l) => show AtE ED w b (off + i * 5) l from by
    obtain ⟨b', off', e, _, h2⟩ := ha.d.at h
    rw [hA] at e
    cases e
    exact h2)
  have hTR := Lib.hid (ha.dx u hmu)
  rw [hrA] at hTR
  have W1 := Lib.hid WAYS.1
  by_cases a0 : u.x.id < 0
  · obtain rfl : R = 24 := W1.out (by omega)
    clear WAYS W1 hDS hTR ha hf hat hu hmu HPre HPre2
    go_enter Try.func38, Try.ntmps38
    go_wp2
    go_ret
    exact ⟨rfl, HK.out _ _⟩
  by_cases a1 : 9999 < u.x.id
  · obtain rfl : R = 24 := W1.out (by omega)
    clear WAYS W1 hDS hTR ha hf hat hu hmu HPre HPre2
    go_enter Try.func38, Try.ntmps38
    go_wp2
    go_ret
    exact ⟨rfl, HK.out _ _⟩
  by_cases a2 : u.x.prog < 0
  · obtain rfl : R = 24 := W1.out (by omega)
    clear WAYS W1 hDS hTR ha hf hat hu hmu HPre HPre2
    go_enter Try.func38, Try.ntmps38
    go_wp2
    go_ret
    exact ⟨rfl, HK.out _ _⟩
  by_cases a3 : (s.ps.length : Int) ≤ u.x.prog
  · obtain rfl : R = 24 := W1.out (by omega)
    clear WAYS W1 hDS hTR ha hf hat hu hmu HPre HPre2
    go_enter Try.func38, Try.ntmps38
    go_wp2
    go_ret
    exact ⟨rfl, HK.out _ _⟩
  by_cases a4 : u.x.tex < -1
  · obtain rfl : R = 24 := W1.out (by omega)
    clear WAYS W1 hDS hTR ha hf hat hu hmu HPre HPre2
    go_enter Try.func38, Try.ntmps38
    go_wp2
    go_ret
    exact ⟨rfl, HK.out _ _⟩
  by_cases a5 : (s.ts.length : Int) ≤ u.x.tex
  · obtain rfl : R = 24 := W1.out (by omega)
    clear WAYS W1 hDS hTR ha hf hat hu hmu HPre HPre2
    go_enter Try.func38, Try.ntmps38
    go_wp2
    go_ret
    exact ⟨rfl, HK.out _ _⟩
  have W2 := WAYS.2 (by omega)
  clear WAYS W1
  have hpk : u.x.prog.toNat < s.ps.length := by omega
  obtain ⟨q, hq⟩ := get_lt hpk
  obtain ⟨b2, off2, hPA, hb2B, hat2⟩ := ha.p.at hq
  have hc := atP hat2
  have hmq := List.mem_of_getElem? hq
  have HS := Lib.hid (fun W (hb : Below w.heap.size w W) => C.rsamples_any q.x q.A q.c (hf.px q hmq) W (((ha.px q hmq).below hb).sharp))
  have e1 : (s.ps.map Lo.x).getD u.x.prog.toNat [] = q.x := by rw [List.getD_eq_getElem?_getD, List.getElem?_map, hq]; rfl
  rw [e1] at W2
  obtain ⟨j, hj⟩ : ∃ j, u.x.prog.toNat = j := ⟨_, rfl⟩
  rw [hj] at hpk hc
  have hp : u.x.prog = j := by omega
  have c0 : w.cell? ⟨b2, off2 + j, none⟩ = some (.slice q.A q.x.length q.c) := by simpa [EP] using hc
  obtain ⟨r, hr⟩ : ∃ r, q.x.any C.tex = r := ⟨_, rfl⟩
  rw [hr] at HS W2
  have hv : s.vs.length ≤ 1000 := hf.vs
  clear ha hf hat hmu hq hat2 hc hmq hr e1
  replace W2 := Lib.hid W2
  replace hu := Lib.hid hu
  replace hA := Lib.hid hA
  replace hn := Lib.hid hn
  replace hm := Lib.hid hm
  replace hrA := Lib.hid hrA
  rw [hPA]
  rw [hp] at d1 a2 a3
  replace hPA := Lib.hid hPA
  replace hp := Lib.hid hp
  have HL := Lib.hid (fun (k : Nat) (h : k < m) => get_lt (l := u.x.tris) (k := k) (by rw [hm.out]; exact h))
  have HLm := Lib.hid (fun (k : Nat) (t : Tr) (h : u.x.tris[k]? = some t) => show k < m by rw [← hm.out]; exact (List.getElem?_eq_some_iff.1 h).1)
  have HLd := Lib.hid (fun (k : Nat) (h : k < n) => get_lt (l := s.ds) (k := k) (by rw [hn.out]; exact h))
  have HPl := Lib.hid (fun v => place_any v s.vs.length)
  have HG0 := Lib.hid (show ((w.alloc (.cells #[.int .i64 s.w, .int .i64 s.h, .int .u8 s.k.r, .int .u8 s.k.g, .int .u8 s.k.b, .int .u8 s.k.a, .slice s.vA s.vs.length s.vc, .slice s.tA s.ts.length s.tc, .slice s.pA s.ps.length s.pc, .slice s.dA s.ds.length s.dc] 29)).alloc (.cells #[.int .i64 u.x.id, .int .i64 u.x.prog, .int .i64 u.x.tex, .bool u.x.op, .slice u.A u.x.tris.length u.c] 42)).heap[w.heap.size]? = some (scB s) from new_at20 _ _ _)
  have HD0 := Lib.hid (show ((w.alloc (.cells #[.int .i64 s.w, .int .i64 s.h, .int .u8 s.k.r, .int .u8 s.k.g, .int .u8 s.k.b, .int .u8 s.k.a, .slice s.vA s.vs.length s.vc, .slice s.tA s.ts.length s.tc, .slice s.pA s.ps.length s.pc, .slice s.dA s.ds.length s.dc] 29)).alloc (.cells #[.int .i64 u.x.id, .int .i64 u.x.prog, .int .i64 u.x.tex, .bool u.x.op, .slice u.A u.x.tris.length u.c] 42)).heap[w.heap.size + 1]? = some (drB u) from new_at2 _ _ _)
  rw [hA.out, hn.out, hPA.out, hp.out, hm.out, hrA.out] at HG0 HD0
  have hjn : (j : Int) < s.ps.length := by omega
  go_enter Try.func38, Try.ntmps38
  go_wp2_with fail
  with_reducible refine (HS.out _ (HK.out _ _)).mono ?_
  rintro e X ⟨rfl, hb⟩
  have BX := Lib.hid (bstep (HK.out _ _) (HK.out _ _).size hb)
  have GX := Lib.hid (show X.heap[w.heap.size]? = some (scB s) from (hb.block _ (by simp <;> omega)).trans HG0.out)
  have DX := Lib.hid (show X.heap[w.heap.size + 1]? = some (drB u) from (hb.block _ (by simp)).trans HD0.out)
  clear hb HG0 HD0 HS c0 d0 d1 d2 d3 d4
  obtain ⟨d0, d1, d2, d3, d4⟩ := drB_cell DX.out
  have hx := drB_lt DX.out
  cases r
  case true =>
    by_cases ht : u.x.tex = -1
    · have t1 : (u.x.tex == -1) = true := by simp [ht]
      have t2 : decide (u.x.tex = -1) = true := by simp [ht]
      obtain rfl : R = 24 := W2.out.1 (by simp) ht
      clear ht
      go_wp2_with fail
      go_ret
      exact ⟨rfl, BX.out⟩
    · have t1 : (u.x.tex == -1) = false := by simp [ht]
      have t2 : decide (u.x.tex = -1) = false := by simp [ht]
      have W3 := Lib.hid (W2.out.2 (by intro h; exact ht h.2))
      clear W2 ht
      go_wp2_with fail
      clear d0 d1 d2 d3 d4 hx
      go_loopw [7] (fun i wr => ∃ j : Nat, j ≤ m ∧ i = .int .i64 j ∧ (∀ (i : Nat) t, i < j → u.x.tris[i]? = some t → triB s.vs.length t = true) ∧ Below w.heap.size w wr ∧ wr.heap[w.heap.size]? = some (scB s) ∧ wr.heap[w.heap.size + 1]? = some (drB u)) (fun i _ => m - (intOf i).toNat)
      case atStart => exact ⟨0, Nat.zero_le _, rfl, fun i t h => absurd h (Nat.not_lt_zero _), BX.out, GX.out, DX.out⟩
      case round =>
        obtain ⟨j, hk, rfl, hin, hb, hg, hd⟩ := hrel
        have HB := Lib.hid hb
        have HI := Lib.hid hin
        have HG := Lib.hid hg
        have HD := Lib.hid hd
        obtain ⟨c0, c1, c2, c3, c4, c5, c6, c7, c8, c9⟩ := scB_cell HG.out
        obtain ⟨d0, d1, d2, d3, d4⟩ := drB_cell HD.out
        rw [hm.out, hrA.out] at d4
        have hx := drB_lt HD.out
        have hx0 := scB_lt HG.out
        clear hin hb hg hd c0 c1 c2 c3 c4 c5 c7 c8 c9 d0 d1 d2 d3
        by_cases hlt : j < m
        · obtain ⟨t, ht⟩ := HL.out j hlt
          obtain ⟨b3, off3, rfl, hb3B, hat3⟩ := hTR.out.at ht
          have hat4 : AtE ER wr b3 (off3 + j * 4) t := hat3.below HB.out hb3B
          obtain ⟨e0, e1, e2, e3⟩ := atR hat4
          have hbw := Nat.lt_of_lt_of_le hb3B HB.out.size
          replace ht := Lib.hid ht
          have P1 := Lib.hid (HPl.out t.a)
          have P2 := Lib.hid (HPl.out t.b)
          have P3 := Lib.hid (HPl.out t.c)
          have htri : triB s.vs.length t = (inB t.i 0 9999 && (inB t.a 0 (s.vs.length - 1) && (inB t.b 0 (s.vs.length - 1) && inB t.c 0 (s.vs.length - 1)))) := by unfold triB; simp
          have hi : inB t.i 0 9999 = decide (0 ≤ t.i ∧ t.i ≤ 9999) := rfl
          rw [hi] at htri
          have F24 := Lib.hid (fun h => W3.out.1 j t ht.out h)
          rw [htri] at F24
          have FT := Lib.hid htri
          obtain ⟨tb, htb⟩ : ∃ tb, triB s.vs.length t = tb := ⟨_, rfl⟩
          rw [htb] at FT
          replace htb := Lib.hid htb
          generalize inB t.a 0 (s.vs.length - 1) = ra at *
          generalize inB t.b 0 (s.vs.length - 1) = rb at *
          generalize inB t.c 0 (s.vs.length - 1) = rc at *
          clear hat3 hat4 htri hi
          have B2 := Lib.hid (bstep HB.out HB.out.size (new_below wr (.cells #[.int .i64 t.i, .int .i64 t.a, .int .i64 t.b, .int .i64 t.c] 47)))
          have G2 := Lib.hid (show (wr.alloc (.cells #[.int .i64 t.i, .int .i64 t.a, .int .i64 t.b, .int .i64 t.c] 47)).heap[w.heap.size]? = some (scB s) from scB_alloc _ HG.out)
          have D2 := Lib.hid (show (wr.alloc (.cells #[.int .i64 t.i, .int .i64 t.a, .int .i64 t.b, .int .i64 t.c] 47)).heap[w.heap.size + 1]? = some (drB u) from (Below.heap_alloc _ _ _ (drB_lt HD.out)).trans HD.out)
          go_wp2_with fail
          with_reducible refine (P1.out _).mono ?_
          rintro e w' ⟨rfl, rfl⟩
          go_wp2_with fail
          with_reducible refine (P2.out _).mono ?_
          rintro e w' ⟨rfl, rfl⟩
          go_wp2_with fail
          with_reducible refine (P3.out _).mono ?_
          rintro e w' ⟨rfl, rfl⟩
          by_cases t0 : t.i < 0
          · obtain rfl : R = 24 := F24.out (by simp; omega)
            go_wp2_with fail
            go_ret
            exact ⟨rfl, B2.out⟩
          by_cases t1 : 9999 < t.i
          · obtain rfl : R = 24 := F24.out (by simp; omega)
            go_wp2_with fail
            go_ret
            exact ⟨rfl, B2.out⟩
          cases ra
          · obtain rfl : R = 24 := F24.out (by simp)
            go_wp2_with fail
            go_ret
            exact ⟨rfl, B2.out⟩
          cases rb
          · obtain rfl : R = 24 := F24.out (by simp)
            go_wp2_with fail
            go_ret
            exact ⟨rfl, B2.out⟩
          cases rc
          · obtain rfl : R = 24 := F24.out (by simp)
            go_wp2_with fail
            go_ret
            exact ⟨rfl, B2.out⟩
          obtain rfl : tb = true := by rw [FT.out]; simp; omega
          go_wp2_with fail
          go_roundw
          case rel =>
            refine ⟨j + 1, by omega, by go_num, fun i x hi hx => ?_, B2.out, G2.out, D2.out⟩
            rcases Nat.lt_or_ge i j with h | h
            · exact HI.out i x h hx
            · obtain rfl : i = j := by omega
              have h5 := ht.out
              rw [hx] at h5
              cases h5
              exact htb.out
          case measure => simp [intOf]; omega
        · obtain rfl : m = j := by omega
          have W4 := Lib.hid (W3.out.2 fun i t hi => HI.out i t (HLm.out i t hi) hi)
          clear W3 HI  HPl hlt hk
          go_wp2_with fail
          clear d4 hx hx0 c6
          go_loopw [12] (fun i wr => ∃ g : Nat, g ≤ k ∧ i = .int .i64 g ∧ (∀ (i : Nat) (l : Lo Dr), i < g → s.ds[i]? = some l → l.x.id ≠ u.x.id) ∧ Below w.heap.size w wr ∧ wr.heap[w.heap.size]? = some (scB s) ∧ wr.heap[w.heap.size + 1]? = some (drB u)) (fun i _ => k - (intOf i).toNat)
          case atStart => exact ⟨0, Nat.zero_le _, rfl, fun i t h => absurd h (Nat.not_lt_zero _), HB.out, HG.out, HD.out⟩
          case round =>
            obtain ⟨g, hk, rfl, hin, hb, hg, hd⟩ := hrel
            have HBz := Lib.hid hb
            have HI := Lib.hid hin
            have HGz := Lib.hid hg
            have HDz := Lib.hid hd
            obtain ⟨c0, c1, c2, c3, c4, c5, c6, c7, c8, c9⟩ := scB_cell HGz.out
            rw [hA.out, hn.out] at c9
            obtain ⟨d0, d1, d2, d3, d4⟩ := drB_cell HDz.out
            have hx := drB_lt HDz.out
            clear hin hb hg hd c0 c1 c2 c3 c4 c5 c6 c7 c8 d1 d2 d3 d4
            by_cases hlt : g < k
            · obtain ⟨l, hl⟩ := HLd.out g (by omega)
              obtain ⟨e0, -, -, -, -⟩ := atD (show AtE ED wr b (off + g * 5) l from (hDS.out g l hl).below HBz.out hbB)
              have hbw := Nat.lt_of_lt_of_le hbB HBz.out.size
              have hgn : g < n := by omega
              replace hl := Lib.hid hl
              by_cases hid : l.x.id = u.x.id
              · have q1 : (l.x.id == u.x.id) = true := by simp [hid]
                have q2 : decide (l.x.id = u.x.id) = true := by simp [hid]
                obtain rfl : R = 25 := W4.out.1 g l.x (HPre.out g l hlt hl.out) hid
                clear hid
                go_wp2_with fail
                go_still_tail 8, (by kernel_rfl)
                go_wp2_with fail
                go_ret
                exact ⟨rfl, HBz.out.drew⟩
              · have q1 : (l.x.id == u.x.id) = false := by simp [hid]
                have q2 : decide (l.x.id = u.x.id) = false := by simp [hid]
                replace hid := Lib.hid hid
                go_wp2_with fail
                go_still_tail 8, (by kernel_rfl)
                go_wp2_with fail
                go_roundw
                case rel =>
                  refine ⟨g + 1, by omega, by go_num, fun i x hi hx => ?_, HBz.out.drew, HGz.out, HDz.out⟩
                  rcases Nat.lt_or_ge i g with h | h
                  · exact HI.out i x h hx
                  · obtain rfl : i = g := by omega
                    have h5 := hl.out
                    rw [hx] at h5
                    cases h5
                    exact hid.out
                case measure => simp [intOf]; omega
            · obtain rfl : k = g := by omega
              have W5 := Lib.hid (W4.out.2 fun i e he => by
                obtain ⟨l, hi, hl, rfl⟩ := HPre2.out i e he
                exact HI.out i l hi hl)
              clear W4 HI hlt hk
              go_wp2_with fail
              clear c9 d0 hx
              go_loopw [13] (fun i wr => ∃ g : Nat, g ≤ m ∧ i = .int .i64 g ∧ (∀ (i j : Nat) t v, j < i → i < g → u.x.tris[i]? = some t → u.x.tris[j]? = some v → t.i ≠ v.i) ∧ Below w.heap.size w wr ∧ wr.heap[w.heap.size]? = some (scB s) ∧ wr.heap[w.heap.size + 1]? = some (drB u)) (fun i _ => m - (intOf i).toNat)
              case atStart => exact ⟨0, Nat.zero_le _, rfl, fun i j t v _ h => absurd h (Nat.not_lt_zero _), HBz.out, HGz.out, HDz.out⟩
              case round =>
                obtain ⟨g, hk, rfl, hin, hb, hg, hd⟩ := hrel
                have HBy := Lib.hid hb
                have HI := Lib.hid hin
                have HGy := Lib.hid hg
                have HDy := Lib.hid hd
                obtain ⟨d0, d1, d2, d3, d4⟩ := drB_cell HDy.out
                rw [hm.out, hrA.out] at d4
                have hx := drB_lt HDy.out
                clear hin hb hg hd d0 d1 d2 d3
                by_cases hlt : g < m
                · obtain ⟨t, ht⟩ := HL.out g hlt
                  obtain ⟨b3, off3, rfl, hb3B, hat3⟩ := hTR.out.at ht
                  have HAT := Lib.hid (fun (i : Nat) (v : Tr) (h : u.x.tris[i]? = some v) => show AtE ER w b3 (off3 + i * 4) v from by
                    obtain ⟨b', off', e, _, h2⟩ := hTR.out.at h
                    cases e
                    exact h2)
                  have dlt : decide ((g : Int) < m) = true := by simp; omega
                  clear hat3
                  go_wp2_with fail
                  clear d4 hx
                  go_loopw [14] (fun i wr => ∃ q : Nat, q ≤ g ∧ i = .int .i64 q ∧ (∀ (j : Nat) v, j < q → u.x.tris[j]? = some v → t.i ≠ v.i) ∧ Below w.heap.size w wr ∧ wr.heap[w.heap.size]? = some (scB s) ∧ wr.heap[w.heap.size + 1]? = some (drB u)) (fun i _ => g - (intOf i).toNat)
                  case atStart => exact ⟨0, Nat.zero_le _, rfl, fun j v h => absurd h (Nat.not_lt_zero _), HBy.out, HGy.out, HDy.out⟩
                  case round =>
                    obtain ⟨q, hkq, rfl, hin, hb, hg, hd⟩ := hrel
                    have HBx := Lib.hid hb
                    have HJ := Lib.hid hin
                    have HGx := Lib.hid hg
                    have HDx := Lib.hid hd
                    obtain ⟨d0, d1, d2, d3, d4⟩ := drB_cell HDx.out
                    rw [hm.out, hrA.out] at d4
                    have hx := drB_lt HDx.out
                    clear hin hb hg hd d0 d1 d2 d3
                    by_cases hlq : q < g
                    · obtain ⟨v, hv'⟩ := HL.out q (by omega)
                      obtain ⟨e0, -, -, -⟩ := atR (show AtE ER wr b3 (off3 + g * 4) t from (HAT.out g t ht).below HBx.out hb3B)
                      obtain ⟨f0, -, -, -⟩ := atR (show AtE ER wr b3 (off3 + q * 4) v from (HAT.out q v hv').below HBx.out hb3B)
                      have hbw := Nat.lt_of_lt_of_le hb3B HBx.out.size
                      have hqm : q < m := by omega
                      replace hv' := Lib.hid hv'
                      by_cases hid : t.i = v.i
                      · have q1 : (t.i == v.i) = true := by simp [hid]
                        have q2 : decide (t.i = v.i) = true := by simp [hid]
                        obtain rfl : R = 25 := W5.out.1 g q t v hlq ht hv'.out hid
                        clear hid
                        replace ht := Lib.hid ht
                        go_wp2_with fail
                        go_still_tail 12, (by kernel_rfl)
                        go_wp2_with fail
                        go_ret
                        exact ⟨rfl, HBx.out.drew⟩
                      · have q1 : (t.i == v.i) = false := by simp [hid]
                        have q2 : decide (t.i = v.i) = false := by simp [hid]
                        replace hid := Lib.hid hid
                        replace ht := Lib.hid ht
                        go_wp2_with fail
                        go_still_tail 12, (by kernel_rfl)
                        go_wp2_with fail
                        go_roundw
                        case rel =>
                          refine ⟨q + 1, by omega, by go_num, fun i x hi hx => ?_, HBx.out.drew, HGx.out, HDx.out⟩
                          rcases Nat.lt_or_ge i q with h | h
                          · exact HJ.out i x h hx
                          · obtain rfl : i = q := by omega
                            have h5 := hv'.out
                            rw [hx] at h5
                            cases h5
                            exact hid.out
                        case measure => simp [intOf]; omega
                    · obtain rfl : g = q := by omega
                      replace ht := Lib.hid ht
                      clear d4 hx
                      go_wp2_with fail
                      go_roundw
                      case rel =>
                        refine ⟨g + 1, by omega, by go_num, fun i j t2 v2 hji hi h1 h2 => ?_, HBx.out, HGx.out, HDx.out⟩
                        rcases Nat.lt_or_ge i g with h | h
                        · exact HI.out i j t2 v2 hji h h1 h2
                        · obtain rfl : i = g := by omega
                          have h5 := ht.out
                          rw [h1] at h5
                          cases h5
                          exact HJ.out j v2 hji h2
                      case measure => simp [intOf]; omega
                · obtain rfl : m = g := by omega
                  obtain rfl : R = 0 := W5.out.2 fun i j t v hji h1 h2 => HI.out i j t v hji (HLm.out i t h1) h1 h2
                  go_wp2_with fail
                  go_ret
                  exact ⟨rfl, HBy.out⟩
  have W3 := Lib.hid (W2.out.2 (by intro h; simp at h))
  clear W2
  go_wp2_with fail
  clear d0 d1 d2 d3 d4 hx
  go_loopw [7] (fun i wr => ∃ j : Nat, j ≤ m ∧ i = .int .i64 j ∧ (∀ (i : Nat) t, i < j → u.x.tris[i]? = some t → triB s.vs.length t = true) ∧ Below w.heap.size w wr ∧ wr.heap[w.heap.size]? = some (scB s) ∧ wr.heap[w.heap.size + 1]? = some (drB u)) (fun i _ => m - (intOf i).toNat)
  case atStart => exact ⟨0, Nat.zero_le _, rfl, fun i t h => absurd h (Nat.not_lt_zero _), BX.out, GX.out, DX.out⟩
  case round =>
    obtain ⟨j, hk, rfl, hin, hb, hg, hd⟩ := hrel
    have HB := Lib.hid hb
    have HI := Lib.hid hin
    have HG := Lib.hid hg
    have HD := Lib.hid hd
    obtain ⟨c0, c1, c2, c3, c4, c5, c6, c7, c8, c9⟩ := scB_cell HG.out
    obtain ⟨d0, d1, d2, d3, d4⟩ := drB_cell HD.out
    rw [hm.out, hrA.out] at d4
    have hx := drB_lt HD.out
    have hx0 := scB_lt HG.out
    clear hin hb hg hd c0 c1 c2 c3 c4 c5 c7 c8 c9 d0 d1 d2 d3
    by_cases hlt : j < m
    · obtain ⟨t, ht⟩ := HL.out j hlt
      obtain ⟨b3, off3, rfl, hb3B, hat3⟩ := hTR.out.at ht
      have hat4 : AtE ER wr b3 (off3 + j * 4) t := hat3.below HB.out hb3B
      obtain ⟨e0, e1, e2, e3⟩ := atR hat4
      have hbw := Nat.lt_of_lt_of_le hb3B HB.out.size
      replace ht := Lib.hid ht
      have P1 := Lib.hid (HPl.out t.a)
      have P2 := Lib.hid (HPl.out t.b)
      have P3 := Lib.hid (HPl.out t.c)
      have htri : triB s.vs.length t = (inB t.i 0 9999 && (inB t.a 0 (s.vs.length - 1) && (inB t.b 0 (s.vs.length - 1) && inB t.c 0 (s.vs.length - 1)))) := by unfold triB; simp
      have hi : inB t.i 0 9999 = decide (0 ≤ t.i ∧ t.i ≤ 9999) := rfl
      rw [hi] at htri
      have F24 := Lib.hid (fun h => W3.out.1 j t ht.out h)
      rw [htri] at F24
      have FT := Lib.hid htri
      obtain ⟨tb, htb⟩ : ∃ tb, triB s.vs.length t = tb := ⟨_, rfl⟩
      rw [htb] at FT
      replace htb := Lib.hid htb
      generalize inB t.a 0 (s.vs.length - 1) = ra at *
      generalize inB t.b 0 (s.vs.length - 1) = rb at *
      generalize inB t.c 0 (s.vs.length - 1) = rc at *
      clear hat3 hat4 htri hi
      have B2 := Lib.hid (bstep HB.out HB.out.size (new_below wr (.cells #[.int .i64 t.i, .int .i64 t.a, .int .i64 t.b, .int .i64 t.c] 47)))
      have G2 := Lib.hid (show (wr.alloc (.cells #[.int .i64 t.i, .int .i64 t.a, .int .i64 t.b, .int .i64 t.c] 47)).heap[w.heap.size]? = some (scB s) from scB_alloc _ HG.out)
      have D2 := Lib.hid (show (wr.alloc (.cells #[.int .i64 t.i, .int .i64 t.a, .int .i64 t.b, .int .i64 t.c] 47)).heap[w.heap.size + 1]? = some (drB u) from (Below.heap_alloc _ _ _ (drB_lt HD.out)).trans HD.out)
      go_wp2_with fail
      with_reducible refine (P1.out _).mono ?_
      rintro e w' ⟨rfl, rfl⟩
      go_wp2_with fail
      with_reducible refine (P2.out _).mono ?_
      rintro e w' ⟨rfl, rfl⟩
      go_wp2_with fail
      with_reducible refine (P3.out _).mono ?_
      rintro e w' ⟨rfl, rfl⟩
      by_cases t0 : t.i < 0
      · obtain rfl : R = 24 := F24.out (by simp; omega)
        go_wp2_with fail
        go_ret
        exact ⟨rfl, B2.out⟩
      by_cases t1 : 9999 < t.i
      · obtain rfl : R = 24 := F24.out (by simp; omega)
        go_wp2_with fail
        go_ret
        exact ⟨rfl, B2.out⟩
      cases ra
      · obtain rfl : R = 24 := F24.out (by simp)
        go_wp2_with fail
        go_ret
        exact ⟨rfl, B2.out⟩
      cases rb
      · obtain rfl : R = 24 := F24.out (by simp)
        go_wp2_with fail
        go_ret
        exact ⟨rfl, B2.out⟩
      cases rc
      · obtain rfl : R = 24 := F24.out (by simp)
        go_wp2_with fail
        go_ret
        exact ⟨rfl, B2.out⟩
      obtain rfl : tb = true := by rw [FT.out]; simp; omega
      go_wp2_with fail
      go_roundw
      case rel =>
        refine ⟨j + 1, by omega, by go_num, fun i x hi hx => ?_, B2.out, G2.out, D2.out⟩
        rcases Nat.lt_or_ge i j with h | h
        · exact HI.out i x h hx
        · obtain rfl : i = j := by omega
          have h5 := ht.out
          rw [hx] at h5
          cases h5
          exact htb.out
      case measure => simp [intOf]; omega
    · obtain rfl : m = j := by omega
      have W4 := Lib.hid (W3.out.2 fun i t hi => HI.out i t (HLm.out i t hi) hi)
      clear W3 HI  HPl hlt hk
      go_wp2_with fail
      clear d4 hx hx0 c6
      go_loopw [12] (fun i wr => ∃ g : Nat, g ≤ k ∧ i = .int .i64 g ∧ (∀ (i : Nat) (l : Lo Dr), i < g → s.ds[i]? = some l → l.x.id ≠ u.x.id) ∧ Below w.heap.size w wr ∧ wr.heap[w.heap.size]? = some (scB s) ∧ wr.heap[w.heap.size + 1]? = some (drB u)) (fun i _ => k - (intOf i).toNat)
      case atStart => exact ⟨0, Nat.zero_le _, rfl, fun i t h => absurd h (Nat.not_lt_zero _), HB.out, HG.out, HD.out⟩
      case round =>
        obtain ⟨g, hk, rfl, hin, hb, hg, hd⟩ := hrel
        have HBz := Lib.hid hb
        have HI := Lib.hid hin
        have HGz := Lib.hid hg
        have HDz := Lib.hid hd
        obtain ⟨c0, c1, c2, c3, c4, c5, c6, c7, c8, c9⟩ := scB_cell HGz.out
        rw [hA.out, hn.out] at c9
        obtain ⟨d0, d1, d2, d3, d4⟩ := drB_cell HDz.out
        have hx := drB_lt HDz.out
        clear hin hb hg hd c0 c1 c2 c3 c4 c5 c6 c7 c8 d1 d2 d3 d4
        by_cases hlt : g < k
        · obtain ⟨l, hl⟩ := HLd.out g (by omega)
          obtain ⟨e0, -, -, -, -⟩ := atD (show AtE ED wr b (off + g * 5) l from (hDS.out g l hl).below HBz.out hbB)
          have hbw := Nat.lt_of_lt_of_le hbB HBz.out.size
          have hgn : g < n := by omega
          replace hl := Lib.hid hl
          by_cases hid : l.x.id = u.x.id
          · have q1 : (l.x.id == u.x.id) = true := by simp [hid]
            have q2 : decide (l.x.id = u.x.id) = true := by simp [hid]
            obtain rfl : R = 25 := W4.out.1 g l.x (HPre.out g l hlt hl.out) hid
            clear hid
            go_wp2_with fail
            go_still_tail 8, (by kernel_rfl)
            go_wp2_with fail
            go_ret
            exact ⟨rfl, HBz.out.drew⟩
          · have q1 : (l.x.id == u.x.id) = false := by simp [hid]
            have q2 : decide (l.x.id = u.x.id) = false := by simp [hid]
            replace hid := Lib.hid hid
            go_wp2_with fail
            go_still_tail 8, (by kernel_rfl)
            go_wp2_with fail
            go_roundw
            case rel =>
              refine ⟨g + 1, by omega, by go_num, fun i x hi hx => ?_, HBz.out.drew, HGz.out, HDz.out⟩
              rcases Nat.lt_or_ge i g with h | h
              · exact HI.out i x h hx
              · obtain rfl : i = g := by omega
                have h5 := hl.out
                rw [hx] at h5
                cases h5
                exact hid.out
            case measure => simp [intOf]; omega
        · obtain rfl : k = g := by omega
          have W5 := Lib.hid (W4.out.2 fun i e he => by
            obtain ⟨l, hi, hl, rfl⟩ := HPre2.out i e he
            exact HI.out i l hi hl)
          clear W4 HI hlt hk
          go_wp2_with fail
          clear c9 d0 hx
          go_loopw [13] (fun i wr => ∃ g : Nat, g ≤ m ∧ i = .int .i64 g ∧ (∀ (i j : Nat) t v, j < i → i < g → u.x.tris[i]? = some t → u.x.tris[j]? = some v → t.i ≠ v.i) ∧ Below w.heap.size w wr ∧ wr.heap[w.heap.size]? = some (scB s) ∧ wr.heap[w.heap.size + 1]? = some (drB u)) (fun i _ => m - (intOf i).toNat)
          case atStart => exact ⟨0, Nat.zero_le _, rfl, fun i j t v _ h => absurd h (Nat.not_lt_zero _), HBz.out, HGz.out, HDz.out⟩
          case round =>
            obtain ⟨g, hk, rfl, hin, hb, hg, hd⟩ := hrel
            have HBy := Lib.hid hb
            have HI := Lib.hid hin
            have HGy := Lib.hid hg
            have HDy := Lib.hid hd
            obtain ⟨d0, d1, d2, d3, d4⟩ := drB_cell HDy.out
            rw [hm.out, hrA.out] at d4
            have hx := drB_lt HDy.out
            clear hin hb hg hd d0 d1 d2 d3
            by_cases hlt : g < m
            · obtain ⟨t, ht⟩ := HL.out g hlt
              obtain ⟨b3, off3, rfl, hb3B, hat3⟩ := hTR.out.at ht
              have HAT := Lib.hid (fun (i : Nat) (v : Tr) (h : u.x.tris[i]? = some v) => show AtE ER w b3 (off3 + i * 4) v from by
                obtain ⟨b', off', e, _, h2⟩ := hTR.out.at h
                cases e
                exact h2)
              have dlt : decide ((g : Int) < m) = true := by simp; omega
              clear hat3
              go_wp2_with fail
              clear d4 hx
              go_loopw [14] (fun i wr => ∃ q : Nat, q ≤ g ∧ i = .int .i64 q ∧ (∀ (j : Nat) v, j < q → u.x.tris[j]? = some v → t.i ≠ v.i) ∧ Below w.heap.size w wr ∧ wr.heap[w.heap.size]? = some (scB s) ∧ wr.heap[w.heap.size + 1]? = some (drB u)) (fun i _ => g - (intOf i).toNat)
              case atStart => exact ⟨0, Nat.zero_le _, rfl, fun j v h => absurd h (Nat.not_lt_zero _), HBy.out, HGy.out, HDy.out⟩
              case round =>
                obtain ⟨q, hkq, rfl, hin, hb, hg, hd⟩ := hrel
                have HBx := Lib.hid hb
                have HJ := Lib.hid hin
                have HGx := Lib.hid hg
                have HDx := Lib.hid hd
                obtain ⟨d0, d1, d2, d3, d4⟩ := drB_cell HDx.out
                rw [hm.out, hrA.out] at d4
                have hx := drB_lt HDx.out
                clear hin hb hg hd d0 d1 d2 d3
                by_cases hlq : q < g
                · obtain ⟨v, hv'⟩ := HL.out q (by omega)
                  obtain ⟨e0, -, -, -⟩ := atR (show AtE ER wr b3 (off3 + g * 4) t from (HAT.out g t ht).below HBx.out hb3B)
                  obtain ⟨f0, -, -, -⟩ := atR (show AtE ER wr b3 (off3 + q * 4) v from (HAT.out q v hv').below HBx.out hb3B)
                  have hbw := Nat.lt_of_lt_of_le hb3B HBx.out.size
                  have hqm : q < m := by omega
                  replace hv' := Lib.hid hv'
                  by_cases hid : t.i = v.i
                  · have q1 : (t.i == v.i) = true := by simp [hid]
                    have q2 : decide (t.i = v.i) = true := by simp [hid]
                    obtain rfl : R = 25 := W5.out.1 g q t v hlq ht hv'.out hid
                    clear hid
                    replace ht := Lib.hid ht
                    go_wp2_with fail
                    go_still_tail 12, (by kernel_rfl)
                    go_wp2_with fail
                    go_ret
                    exact ⟨rfl, HBx.out.drew⟩
                  · have q1 : (t.i == v.i) = false := by simp [hid]
                    have q2 : decide (t.i = v.i) = false := by simp [hid]
                    replace hid := Lib.hid hid
                    replace ht := Lib.hid ht
                    go_wp2_with fail
                    go_still_tail 12, (by kernel_rfl)
                    go_wp2_with fail
                    go_roundw
                    case rel =>
                      refine ⟨q + 1, by omega, by go_num, fun i x hi hx => ?_, HBx.out.drew, HGx.out, HDx.out⟩
                      rcases Nat.lt_or_ge i q with h | h
                      · exact HJ.out i x h hx
                      · obtain rfl : i = q := by omega
                        have h5 := hv'.out
                        rw [hx] at h5
                        cases h5
                        exact hid.out
                    case measure => simp [intOf]; omega
                · obtain rfl : g = q := by omega
                  replace ht := Lib.hid ht
                  clear d4 hx
                  go_wp2_with fail
                  go_roundw
                  case rel =>
                    refine ⟨g + 1, by omega, by go_num, fun i j t2 v2 hji hi h1 h2 => ?_, HBx.out, HGx.out, HDx.out⟩
                    rcases Nat.lt_or_ge i g with h | h
                    · exact HI.out i j t2 v2 hji h h1 h2
                    · obtain rfl : i = g := by omega
                      have h5 := ht.out
                      rw [h1] at h5
                      cases h5
                      exact HJ.out j v2 hji h2
                  case measure => simp [intOf]; omega
            · obtain rfl : m = g := by omega
              obtain rfl : R = 0 := W5.out.2 fun i j t v hji h1 h2 => HI.out i j t v hji (HLm.out i t h1) h1 h2
              go_wp2_with fail
              go_ret
              exact ⟨rfl, HBy.out⟩
end Go.Proofs.Ytnpcmoeleigpoaa
