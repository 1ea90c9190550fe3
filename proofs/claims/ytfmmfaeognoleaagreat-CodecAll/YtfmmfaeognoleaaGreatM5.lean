/-
  The contracts of the reference's mod, place, many and draw.
-/
import Derived.Test.YtfmmfaeognoleaaGreatM4
import Derived.RangeFuncBox
import Derived.Deep.Draws
import Derived.Shelf.Abstract
import Derived.Shelf.RegionOpen
import Derived.Test.YtfmmfaeognoleaaGreatM3
import Derived.Laws.OwnMore
namespace Go.Proofs.YtfmmfaeognoleaaGreat
open Go.RowKit
attribute [local go_sem ↓] Go.wp_at_zero Go.wp_at_succ

theorem place_any (n m : Int) (w : World) :
    Calls Tryz.prog 79 #[.int .i64 n, .int .i64 m] w fun e w' => e = .returned (.bool (inB n 0 (m - 1))) ∧ w = w' := by
  unfold inB
  by_cases h1 : 0 ≤ n
  · by_cases h2 : n < m
    · have e : decide (0 ≤ n ∧ n ≤ m - 1) = true := by simp; omega
      rw [e]
      go_enter Tryz.func79, Tryz.ntmps79
      go_wp2
      go_ret
      exact ⟨rfl, rfl⟩
    · have e : decide (0 ≤ n ∧ n ≤ m - 1) = false := by simp; omega
      rw [e]
      go_enter Tryz.func79, Tryz.ntmps79
      go_wp2
      go_ret
      exact ⟨rfl, rfl⟩
  · have e : decide (0 ≤ n ∧ n ≤ m - 1) = false := by simp [h1]
    rw [e]
    go_enter Tryz.func79, Tryz.ntmps79
    go_wp2
    go_ret
    exact ⟨rfl, rfl⟩
theorem draw_ways (s : Sc) (pre : List Dr) (d : Dr) :
    (¬ (0 ≤ d.id ∧ d.id ≤ 9999 ∧ 0 ≤ d.prog ∧ d.prog < s.ps.length ∧ -1 ≤ d.tex ∧ d.tex < s.ts.length) → drawE s.p pre d = 24)
    ∧ ((0 ≤ d.id ∧ d.id ≤ 9999 ∧ 0 ≤ d.prog ∧ d.prog < s.ps.length ∧ -1 ≤ d.tex ∧ d.tex < s.ts.length) →
      (((s.p.ps.getD d.prog.toNat []).any C.tex = true → d.tex = -1 → drawE s.p pre d = 24)
      ∧ (¬ ((s.p.ps.getD d.prog.toNat []).any C.tex = true ∧ d.tex = -1) →
        ((∀ (j : Nat) t, d.tris[j]? = some t → triB s.vs.length t = false → drawE s.p pre d = 24)
        ∧ ((∀ (j : Nat) t, d.tris[j]? = some t → triB s.vs.length t = true) →
          ((∀ (i : Nat) e, pre[i]? = some e → e.id = d.id → drawE s.p pre d = 25)
          ∧ ((∀ (i : Nat) e, pre[i]? = some e → e.id ≠ d.id) →
            ((∀ (i j : Nat) t u, j < i → d.tris[i]? = some t → d.tris[j]? = some u → t.i = u.i → drawE s.p pre d = 25)
            ∧ ((∀ (i j : Nat) t u, j < i → d.tris[i]? = some t → d.tris[j]? = some u → t.i ≠ u.i) → drawE s.p pre d = 0))))))))) := by
  have hb : drawE s.p pre d = if ptsB s.p d = false then 24 else if (pre.map Dr.id).contains d.id || twiceB (d.tris.map Tr.i) then 25 else 0 := rfl
  have hp := ptsB_eq s d
  have ht : texB s.p d = if d.tex = -1 then !((s.p.ps.getD d.prog.toNat []).any C.tex) else inB d.tex 0 (s.ts.length - 1) := by
    unfold texB
    rw [show s.p.ts.length = s.ts.length from by show (s.ts.map Lo.x).length = _; rw [List.length_map]]
  refine ⟨fun h => ?_, fun h => ⟨fun h1 h2 => ?_, fun h1 => ⟨fun j t hj h2 => ?_, fun h2 => ?_⟩⟩⟩
  · have : ptsB s.p d = false := by
      rw [hp, ht]
      unfold inB
      by_cases a : 0 ≤ d.id ∧ d.id ≤ 9999
      · by_cases b : 0 ≤ d.prog ∧ d.prog ≤ s.ps.length - 1
        · have c : ¬ d.tex = -1 := by omega
          have e : ¬ (0 ≤ d.tex ∧ d.tex ≤ s.ts.length - 1) := by omega
          rw [if_neg c, decide_eq_false e]
          simp
        · rw [decide_eq_false b]
          simp
      · rw [decide_eq_false a]
        simp
    rw [hb, if_pos this]
  · have : ptsB s.p d = false := by
      rw [hp, ht, if_pos h2, h1]
      simp
    rw [hb, if_pos this]
  · have : ptsB s.p d = false := by
      rw [hp, all_no hj h2]
      simp
    rw [hb, if_pos this]
  · have hpt : ptsB s.p d = true := by
      rw [hp, ht, all_yes h2]
      have a : inB d.id 0 9999 = true := by unfold inB; simp; omega
      have b : inB d.prog 0 (s.ps.length - 1) = true := by unfold inB; simp; omega
      rw [a, b]
      by_cases c : d.tex = -1
      · rw [if_pos c]
        have : (s.p.ps.getD d.prog.toNat []).any C.tex = false := by
          cases e : (s.p.ps.getD d.prog.toNat []).any C.tex
          · rfl
          · exact absurd ⟨e, c⟩ h1
        rw [this]
        simp
      · rw [if_neg c]
        have : inB d.tex 0 (s.ts.length - 1) = true := by unfold inB; simp; omega
        rw [this]
        simp
    have hb2 : drawE s.p pre d = if (pre.map Dr.id).contains d.id || twiceB (d.tris.map Tr.i) then 25 else 0 := by rw [hb, if_neg (by rw [hpt]; simp)]
    rw [hb2, List.contains_eq_mem]
    refine ⟨fun i e hi he => ?_, fun h3 => ⟨fun i j t u hij hi hj he => ?_, fun h4 => ?_⟩⟩
    · have : d.id ∈ pre.map Dr.id := List.mem_map.2 ⟨e, List.mem_of_getElem? hi, he⟩
      simp [this]
    · have : twiceB (d.tris.map Tr.i) = true := by
        cases h : twiceB (d.tris.map Tr.i)
        · exact (nodup_apart (twiceB_no.1 h) (x := t.i) hij (by rw [List.getElem?_map, hj, he]; rfl) (by rw [List.getElem?_map, hi]; rfl)).elim
        · rfl
      simp [this]
    · have h5 : d.id ∉ pre.map Dr.id := fun hm => by
        obtain ⟨e, he, hid⟩ := List.mem_map.1 hm
        obtain ⟨i, hi⟩ := List.mem_iff_getElem?.1 he
        exact h3 i e hi hid
      have h6 : twiceB (d.tris.map Tr.i) = false := twiceB_no.2 (List.pairwise_iff_getElem.2 fun i j hi hj hij e => by
        simp only [List.length_map] at hi hj
        rw [List.getElem_map, List.getElem_map] at e
        exact h4 j i _ _ hij (List.getElem?_eq_getElem hj) (List.getElem?_eq_getElem hi) e.symm)
      simp [h5, h6]
set_option maxRecDepth 100000 in
set_option maxHeartbeats 4000000 in
theorem many_any (s : Sc) (w : World) (ha : s.at w w.heap.size) (hf : s.few) :
    Calls Tryz.prog 37 #[.agg #[.int .i64 s.w, .int .i64 s.h, .int .u8 s.k.r, .int .u8 s.k.g, .int .u8 s.k.b, .int .u8 s.k.a, .slice s.vA s.vs.length s.vc, .slice s.tA s.ts.length s.tc, .slice s.pA s.ps.length s.pc, .slice s.dA s.ds.length s.dc]] w fun e w' => e = .returned (.bool (manyB s.p)) ∧ Below w.heap.size w w' := by
  have HK := Lib.hid (new_below w (.cells #[.int .i64 s.w, .int .i64 s.h, .int .u8 s.k.r, .int .u8 s.k.g, .int .u8 s.k.b, .int .u8 s.k.a, .slice s.vA s.vs.length s.vc, .slice s.tA s.ts.length s.tc, .slice s.pA s.ps.length s.pc, .slice s.dA s.ds.length s.dc] 29))
  have HG0 := Lib.hid (show (w.alloc (.cells #[.int .i64 s.w, .int .i64 s.h, .int .u8 s.k.r, .int .u8 s.k.g, .int .u8 s.k.b, .int .u8 s.k.a, .slice s.vA s.vs.length s.vc, .slice s.tA s.ts.length s.tc, .slice s.pA s.ps.length s.pc, .slice s.dA s.ds.length s.dc] 29)).heap[w.heap.size]? = some (scB s) from heap_alloc_new _ _)
  have e : manyB s.p = (decide (64 < s.vs.length) || (decide (4 < s.ts.length) || (decide (4 < s.ps.length) || (decide (8 < s.ds.length) || !(s.ds.all fun l => decide (l.x.tris.length ≤ 32)))))) := by
    unfold manyB Sc.p
    simp [Function.comp_def]
  have HNo := Lib.hid (fun (j : Nat) (u : Lo Dr) (h : s.ds[j]? = some u) (hr : 32 < u.x.tris.length) => show manyB s.p = true by
    rw [e, all_no (f := fun l : Lo Dr => decide (l.x.tris.length ≤ 32)) h (by simp; omega)]; simp)
  have HYes := Lib.hid (fun (h : ∀ (i : Nat) (x : Lo Dr), s.ds[i]? = some x → x.x.tris.length ≤ 32) => show manyB s.p = (decide (64 < s.vs.length) || (decide (4 < s.ts.length) || (decide (4 < s.ps.length) || decide (8 < s.ds.length)))) by
    rw [e, all_yes (f := fun l : Lo Dr => decide (l.x.tris.length ≤ 32)) (fun i x hx => by simpa using h i x hx)]; simp)
  have HS := Lib.hid (fun (j : Nat) (u : Lo Dr) (hu : s.ds[j]? = some u) => ha.d.at hu)
  have HL := Lib.hid (fun (k : Nat) (h : k < s.ds.length) => get_lt (l := s.ds) h)
  have hds := hf.ds
  generalize manyB s.p = R at *
  obtain ⟨dA, hdA⟩ : ∃ a, s.dA = a := ⟨_, rfl⟩
  obtain ⟨n, hn⟩ : ∃ n, s.ds.length = n := ⟨_, rfl⟩
  rw [hdA] at HK HG0 HS ⊢
  rw [hn] at HK HG0 HL HYes hds ⊢
  have hn2 : ∀ (i : Nat) (x : Lo Dr), s.ds[i]? = some x → i < n := fun i x hx => by rw [← hn]; exact (List.getElem?_eq_some_iff.1 hx).1
  replace hn2 := Lib.hid hn2
  replace hn := Lib.hid hn
  replace hdA := Lib.hid hdA
  clear ha hf e
  go_enter Tryz.func37, Tryz.ntmps37
  go_wp2_with fail
  go_loopw [3] (fun i wr => ∃ j : Nat, j ≤ n ∧ i = .int .i64 j ∧ (∀ (i : Nat) (x : Lo Dr), i < j → s.ds[i]? = some x → x.x.tris.length ≤ 32) ∧ Below w.heap.size w wr ∧ wr.heap[w.heap.size]? = some (scB s)) (fun i _ => n - (intOf i).toNat)
  case atStart => exact ⟨0, Nat.zero_le _, rfl, fun i x h => absurd h (Nat.not_lt_zero _), HK.out, HG0.out⟩
  case round =>
    obtain ⟨j, hk, rfl, hin, hb, hg⟩ := hrel
    have HB := Lib.hid hb
    have HI := Lib.hid hin
    have HG := Lib.hid hg
    clear hin hb hg
    obtain ⟨c0, c1, c2, c3, c4, c5, c6, c7, c8, c9⟩ := scB_cell HG.out
    rw [hn.out, hdA.out] at c9
    have hg := scB_lt HG.out
    by_cases hlt : j < n
    · obtain ⟨u, hu⟩ := HL.out j hlt
      obtain ⟨b, off, rfl, hbB, hat⟩ := HS.out j u hu
      obtain ⟨-, -, -, -, d4⟩ := atD (show AtE ED wr b (off + j * 5) u from hat.below HB.out hbB)
      have hbw := Nat.lt_of_lt_of_le hbB HB.out.size
      replace hu := Lib.hid hu
      clear hat
      obtain ⟨m, hm⟩ : ∃ m, u.x.tris.length = m := ⟨_, rfl⟩
      rw [hm] at d4
      replace hm := Lib.hid hm
      by_cases h32 : 32 < m
      · have k1 : (32 : Int) < m := by omega
        obtain rfl : R = true := HNo.out j u hu.out (by rw [hm.out]; exact h32)
        clear h32
        go_wp2_with fail
        go_ret
        exact ⟨rfl, HB.out⟩
      · have k1 : ¬ (32 : Int) < m := by omega
        clear h32
        go_wp2_with fail
        go_roundw
        case rel =>
          refine ⟨j + 1, by omega, by go_num, fun i x hi hx => ?_, HB.out, HG.out⟩
          rcases Nat.lt_or_ge i j with h | h
          · exact HI.out i x h hx
          · obtain rfl : i = j := by omega
            have h5 := hu.out
            rw [hx] at h5
            cases h5
            rw [hm.out]
            omega
        case measure => simp [intOf]; omega
    · obtain rfl : j = n := by omega
      have hR := HYes.out fun i x hx => HI.out i x (hn2.out i x hx) hx
      generalize s.vs.length = a at *
      generalize s.ts.length = b at *
      generalize s.ps.length = c at *
      replace hR := Lib.hid hR
      clear HNo HYes hlt
      by_cases h0 : 64 < a
      · have k0 : (64 : Int) < a := by omega
        obtain rfl : R = true := by rw [hR.out]; simp [h0]
        clear h0
        go_wp2
        go_ret
        exact ⟨rfl, HB.out⟩
      have k0 : ¬ (64 : Int) < a := by omega
      by_cases h1 : 4 < b
      · have k1 : (4 : Int) < b := by omega
        obtain rfl : R = true := by rw [hR.out]; simp [h1]
        clear h1
        go_wp2
        go_ret
        exact ⟨rfl, HB.out⟩
      have k1 : ¬ (4 : Int) < b := by omega
      by_cases h2 : 4 < c
      · have k2 : (4 : Int) < c := by omega
        obtain rfl : R = true := by rw [hR.out]; simp [h2]
        clear h2
        go_wp2
        go_ret
        exact ⟨rfl, HB.out⟩
      have k2 : ¬ (4 : Int) < c := by omega
      by_cases h3 : 8 < j
      · have k3 : (8 : Int) < j := by omega
        obtain rfl : R = true := by rw [hR.out]; simp [h3]
        clear h3
        go_wp2
        go_ret
        exact ⟨rfl, HB.out⟩
      have k3 : ¬ (8 : Int) < j := by omega
      obtain rfl : R = false := by rw [hR.out]; simp; omega
      clear h0 h1 h2 h3
      go_wp2
      go_ret
      exact ⟨rfl, HB.out⟩
end Go.Proofs.YtfmmfaeognoleaaGreat
/-
  The contract of the reference's draw.
-/
namespace Go.Proofs.YtfmmfaeognoleaaGreat
open Go.RowKit
attribute [local go_sem ↓] Go.wp_at_zero Go.wp_at_succ

set_option maxRecDepth 100000 in
set_option maxHeartbeats 8000000 in
theorem rdraw_any (s : Sc) (k : Nat) (u : Lo Dr) (hu : s.ds[k]? = some u) (w : World) (ha : s.at w w.heap.size) (hf : s.few) :
    Calls Tryz.prog 41 #[.agg #[.int .i64 s.w, .int .i64 s.h, .int .u8 s.k.r, .int .u8 s.k.g, .int .u8 s.k.b, .int .u8 s.k.a, .slice s.vA s.vs.length s.vc, .slice s.tA s.ts.length s.tc, .slice s.pA s.ps.length s.pc, .slice s.dA s.ds.length s.dc], .int .i64 k] w fun e w' => e = .returned (.int .i64 (errAt s.p k)) ∧ Below w.heap.size w w' := by
  have HK := Lib.hid (fun o o' => bstep (new_below w o) (by simp) (new_below _ o'))
  have hku := (List.getElem?_eq_some_iff.1 hu).1
  have hmu := List.mem_of_getElem? hu
  have hds := hf.ds
  have hm1000 := hf.dx u hmu
  obtain ⟨b, off, hA, hbB, hat⟩ := ha.d.at hu
  obtain ⟨d0, d1, d2, d3, d4⟩ := atD hat
  have WAYS := draw_ways s ((s.ds.take k).map Lo.x) u.x
  rw [errAt_sc hu]
  have hPG : s.p.ps.getD u.x.prog.toNat [] = (s.ps.map Lo.x).getD u.x.prog.toNat [] := rfl
  rw [hPG] at WAYS
  clear hPG
  have HPre := Lib.hid (fun (i : Nat) (e : Lo Dr) (hi : i < k) (h : s.ds[i]? = some e) => show ((s.ds.take k).map Lo.x)[i]? = some e.x by rw [List.getElem?_map, List.getElem?_take, if_pos hi, h]; rfl)
  have HPre2 := Lib.hid (fun (i : Nat) (e : Dr) (h : ((s.ds.take k).map Lo.x)[i]? = some e) => show ∃ l : Lo Dr, i < k ∧ s.ds[i]? = some l ∧ e = l.x by
    rw [List.getElem?_map, List.getElem?_take] at h
    split at h
    · rename_i hi
      cases h2 : s.ds[i]? with
      | none => rw [h2] at h; cases h
      | some l => rw [h2] at h; exact ⟨l, hi, rfl, (by simpa using h.symm)⟩
    · cases h)
  generalize drawE s.p ((s.ds.take k).map Lo.x) u.x = R at *
  generalize (s.ds.take k).map Lo.x = pre at *
  obtain ⟨n, hn⟩ : ∃ n, s.ds.length = n := ⟨_, rfl⟩
  obtain ⟨m, hm⟩ : ∃ m, u.x.tris.length = m := ⟨_, rfl⟩
  obtain ⟨rA, hrA⟩ : ∃ a, u.A = a := ⟨_, rfl⟩
  have hsz : ED.size = 5 := rfl
  rw [hsz] at d0 d1 d2 d3 d4
  rw [hn] at hku hds
  rw [hA, hn]
  rw [hm, hrA] at d4
  rw [hm] at hm1000
  have hDS := Lib.hid (fun (i : Nat) (l : Lo Dr) (h : s.ds[i]? = some l) => show AtE ED w b (off + i * 5) l from by
    obtain ⟨b', off', e, _, h2⟩ := ha.d.at h
    rw [hA] at e
    cases e
    exact h2)
  have hTR := Lib.hid (ha.dx u hmu)
  rw [hrA] at hTR
  have W1 := Lib.hid WAYS.1
  by_cases a0 : u.x.id < 0
  · obtain rfl : R = 24 := W1.out (by omega)
    clear WAYS W1 hDS hTR ha hf hat hu hmu HPre HPre2
    go_enter Tryz.func41, Tryz.ntmps41
    go_wp2
    go_ret
    exact ⟨rfl, HK.out _ _⟩
  by_cases a1 : 9999 < u.x.id
  · obtain rfl : R = 24 := W1.out (by omega)
    clear WAYS W1 hDS hTR ha hf hat hu hmu HPre HPre2
    go_enter Tryz.func41, Tryz.ntmps41
    go_wp2
    go_ret
    exact ⟨rfl, HK.out _ _⟩
  by_cases a2 : u.x.prog < 0
  · obtain rfl : R = 24 := W1.out (by omega)
    clear WAYS W1 hDS hTR ha hf hat hu hmu HPre HPre2
    go_enter Tryz.func41, Tryz.ntmps41
    go_wp2
    go_ret
    exact ⟨rfl, HK.out _ _⟩
  by_cases a3 : (s.ps.length : Int) ≤ u.x.prog
  · obtain rfl : R = 24 := W1.out (by omega)
    clear WAYS W1 hDS hTR ha hf hat hu hmu HPre HPre2
    go_enter Tryz.func41, Tryz.ntmps41
    go_wp2
    go_ret
    exact ⟨rfl, HK.out _ _⟩
  by_cases a4 : u.x.tex < -1
  · obtain rfl : R = 24 := W1.out (by omega)
    clear WAYS W1 hDS hTR ha hf hat hu hmu HPre HPre2
    go_enter Tryz.func41, Tryz.ntmps41
    go_wp2
    go_ret
    exact ⟨rfl, HK.out _ _⟩
  by_cases a5 : (s.ts.length : Int) ≤ u.x.tex
  · obtain rfl : R = 24 := W1.out (by omega)
    clear WAYS W1 hDS hTR ha hf hat hu hmu HPre HPre2
    go_enter Tryz.func41, Tryz.ntmps41
    go_wp2
    go_ret
    exact ⟨rfl, HK.out _ _⟩
  have W2 := WAYS.2 (by omega)
  clear WAYS W1
  have hpk : u.x.prog.toNat < s.ps.length := by omega
  obtain ⟨q, hq⟩ := get_lt hpk
  obtain ⟨b2, off2, hPA, hb2B, hat2⟩ := ha.p.at hq
  have hc := atP hat2
  have hmq := List.mem_of_getElem? hq
  have HS := Lib.hid (fun W (hb : Below w.heap.size w W) => C.rsamples_any q.x q.A q.c (hf.px q hmq) W (((ha.px q hmq).below hb).sharp))
  have e1 : (s.ps.map Lo.x).getD u.x.prog.toNat [] = q.x := by rw [List.getD_eq_getElem?_getD, List.getElem?_map, hq]; rfl
  rw [e1] at W2
  obtain ⟨j, hj⟩ : ∃ j, u.x.prog.toNat = j := ⟨_, rfl⟩
  rw [hj] at hpk hc
  have hp : u.x.prog = j := by omega
  have c0 : w.cell? ⟨b2, off2 + j, none⟩ = some (.slice q.A q.x.length q.c) := by simpa [EP] using hc
  obtain ⟨r, hr⟩ : ∃ r, q.x.any C.tex = r := ⟨_, rfl⟩
  rw [hr] at HS W2
  have hv : s.vs.length ≤ 100000 := hf.vs
  clear ha hf hat hmu hq hat2 hc hmq hr e1
  replace W2 := Lib.hid W2
  replace hu := Lib.hid hu
  replace hA := Lib.hid hA
  replace hn := Lib.hid hn
  replace hm := Lib.hid hm
  replace hrA := Lib.hid hrA
  rw [hPA]
  rw [hp] at d1 a2 a3
  replace hPA := Lib.hid hPA
  replace hp := Lib.hid hp
  have HL := Lib.hid (fun (k : Nat) (h : k < m) => get_lt (l := u.x.tris) (k := k) (by rw [hm.out]; exact h))
  have HLm := Lib.hid (fun (k : Nat) (t : Tr) (h : u.x.tris[k]? = some t) => show k < m by rw [← hm.out]; exact (List.getElem?_eq_some_iff.1 h).1)
  have HLd := Lib.hid (fun (k : Nat) (h : k < n) => get_lt (l := s.ds) (k := k) (by rw [hn.out]; exact h))
  have HPl := Lib.hid (fun v => place_any v s.vs.length)
  have HG0 := Lib.hid (show ((w.alloc (.cells #[.int .i64 s.w, .int .i64 s.h, .int .u8 s.k.r, .int .u8 s.k.g, .int .u8 s.k.b, .int .u8 s.k.a, .slice s.vA s.vs.length s.vc, .slice s.tA s.ts.length s.tc, .slice s.pA s.ps.length s.pc, .slice s.dA s.ds.length s.dc] 29)).alloc (.cells #[.int .i64 u.x.id, .int .i64 u.x.prog, .int .i64 u.x.tex, .bool u.x.op, .slice u.A u.x.tris.length u.c] 51)).heap[w.heap.size]? = some (scB s) from new_at20 _ _ _)
  have HD0 := Lib.hid (show ((w.alloc (.cells #[.int .i64 s.w, .int .i64 s.h, .int .u8 s.k.r, .int .u8 s.k.g, .int .u8 s.k.b, .int .u8 s.k.a, .slice s.vA s.vs.length s.vc, .slice s.tA s.ts.length s.tc, .slice s.pA s.ps.length s.pc, .slice s.dA s.ds.length s.dc] 29)).alloc (.cells #[.int .i64 u.x.id, .int .i64 u.x.prog, .int .i64 u.x.tex, .bool u.x.op, .slice u.A u.x.tris.length u.c] 51)).heap[w.heap.size + 1]? = some (drB u) from new_at2 _ _ _)
  rw [hA.out, hn.out, hPA.out, hp.out, hm.out, hrA.out] at HG0 HD0
  have hjn : (j : Int) < s.ps.length := by omega
  go_enter Tryz.func41, Tryz.ntmps41
  go_wp2_with fail
  with_reducible refine (HS.out _ (HK.out _ _)).mono ?_
  rintro e X ⟨rfl, hb⟩
  have BX := Lib.hid (bstep (HK.out _ _) (HK.out _ _).size hb)
  have GX := Lib.hid (show X.heap[w.heap.size]? = some (scB s) from (hb.block _ (by simp <;> omega)).trans HG0.out)
  have DX := Lib.hid (show X.heap[w.heap.size + 1]? = some (drB u) from (hb.block _ (by simp)).trans HD0.out)
  clear hb HG0 HD0 HS c0 d0 d1 d2 d3 d4
  obtain ⟨d0, d1, d2, d3, d4⟩ := drB_cell DX.out
  have hx := drB_lt DX.out
  cases r
  case true =>
    by_cases ht : u.x.tex = -1
    · have t1 : (u.x.tex == -1) = true := by simp [ht]
      have t2 : decide (u.x.tex = -1) = true := by simp [ht]
      obtain rfl : R = 24 := W2.out.1 (by simp) ht
      clear ht
      go_wp2_with fail
      go_ret
      exact ⟨rfl, BX.out⟩
    · have t1 : (u.x.tex == -1) = false := by simp [ht]
      have t2 : decide (u.x.tex = -1) = false := by simp [ht]
      have W3 := Lib.hid (W2.out.2 (by intro h; exact ht h.2))
      clear W2 ht
      go_wp2_with fail
      clear d0 d1 d2 d3 d4 hx
      go_loopw [7] (fun i wr => ∃ j : Nat, j ≤ m ∧ i = .int .i64 j ∧ (∀ (i : Nat) t, i < j → u.x.tris[i]? = some t → triB s.vs.length t = true) ∧ Below w.heap.size w wr ∧ wr.heap[w.heap.size]? = some (scB s) ∧ wr.heap[w.heap.size + 1]? = some (drB u)) (fun i _ => m - (intOf i).toNat)
      case atStart => exact ⟨0, Nat.zero_le _, rfl, fun i t h => absurd h (Nat.not_lt_zero _), BX.out, GX.out, DX.out⟩
      case round =>
        obtain ⟨j, hk, rfl, hin, hb, hg, hd⟩ := hrel
        have HB := Lib.hid hb
        have HI := Lib.hid hin
        have HG := Lib.hid hg
        have HD := Lib.hid hd
        obtain ⟨c0, c1, c2, c3, c4, c5, c6, c7, c8, c9⟩ := scB_cell HG.out
        obtain ⟨d0, d1, d2, d3, d4⟩ := drB_cell HD.out
        rw [hm.out, hrA.out] at d4
        have hx := drB_lt HD.out
        have hx0 := scB_lt HG.out
        clear hin hb hg hd c0 c1 c2 c3 c4 c5 c7 c8 c9 d0 d1 d2 d3
        by_cases hlt : j < m
        · obtain ⟨t, ht⟩ := HL.out j hlt
          obtain ⟨b3, off3, rfl, hb3B, hat3⟩ := hTR.out.at ht
          have hat4 : AtE ER wr b3 (off3 + j * 4) t := hat3.below HB.out hb3B
          obtain ⟨e0, e1, e2, e3⟩ := atR hat4
          have hbw := Nat.lt_of_lt_of_le hb3B HB.out.size
          replace ht := Lib.hid ht
          have P1 := Lib.hid (HPl.out t.a)
          have P2 := Lib.hid (HPl.out t.b)
          have P3 := Lib.hid (HPl.out t.c)
          have htri : triB s.vs.length t = (inB t.i 0 9999 && (inB t.a 0 (s.vs.length - 1) && (inB t.b 0 (s.vs.length - 1) && inB t.c 0 (s.vs.length - 1)))) := by unfold triB; simp
          have hi : inB t.i 0 9999 = decide (0 ≤ t.i ∧ t.i ≤ 9999) := rfl
          rw [hi] at htri
          have F24 := Lib.hid (fun h => W3.out.1 j t ht.out h)
          rw [htri] at F24
          have FT := Lib.hid htri
          obtain ⟨tb, htb⟩ : ∃ tb, triB s.vs.length t = tb := ⟨_, rfl⟩
          rw [htb] at FT
          replace htb := Lib.hid htb
          generalize inB t.a 0 (s.vs.length - 1) = ra at *
          generalize inB t.b 0 (s.vs.length - 1) = rb at *
          generalize inB t.c 0 (s.vs.length - 1) = rc at *
          clear hat3 hat4 htri hi
          have B2 := Lib.hid (bstep HB.out HB.out.size (new_below wr (.cells #[.int .i64 t.i, .int .i64 t.a, .int .i64 t.b, .int .i64 t.c] 86)))
          have G2 := Lib.hid (show (wr.alloc (.cells #[.int .i64 t.i, .int .i64 t.a, .int .i64 t.b, .int .i64 t.c] 86)).heap[w.heap.size]? = some (scB s) from scB_alloc _ HG.out)
          have D2 := Lib.hid (show (wr.alloc (.cells #[.int .i64 t.i, .int .i64 t.a, .int .i64 t.b, .int .i64 t.c] 86)).heap[w.heap.size + 1]? = some (drB u) from (Below.heap_alloc _ _ _ (drB_lt HD.out)).trans HD.out)
          go_wp2_with fail
          with_reducible refine (P1.out _).mono ?_
          rintro e w' ⟨rfl, rfl⟩
          go_wp2_with fail
          with_reducible refine (P2.out _).mono ?_
          rintro e w' ⟨rfl, rfl⟩
          go_wp2_with fail
          with_reducible refine (P3.out _).mono ?_
          rintro e w' ⟨rfl, rfl⟩
          by_cases t0 : t.i < 0
          · obtain rfl : R = 24 := F24.out (by simp; omega)
            go_wp2_with fail
            go_ret
            exact ⟨rfl, B2.out⟩
          by_cases t1 : 9999 < t.i
          · obtain rfl : R = 24 := F24.out (by simp; omega)
            go_wp2_with fail
            go_ret
            exact ⟨rfl, B2.out⟩
          cases ra
          · obtain rfl : R = 24 := F24.out (by simp)
            go_wp2_with fail
            go_ret
            exact ⟨rfl, B2.out⟩
          cases rb
          · obtain rfl : R = 24 := F24.out (by simp)
            go_wp2_with fail
            go_ret
            exact ⟨rfl, B2.out⟩
          cases rc
          · obtain rfl : R = 24 := F24.out (by simp)
            go_wp2_with fail
            go_ret
            exact ⟨rfl, B2.out⟩
          obtain rfl : tb = true := by rw [FT.out]; simp; omega
          go_wp2_with fail
          go_roundw
          case rel =>
            refine ⟨j + 1, by omega, by go_num, fun i x hi hx => ?_, B2.out, G2.out, D2.out⟩
            rcases Nat.lt_or_ge i j with h | h
            · exact HI.out i x h hx
            · obtain rfl : i = j := by omega
              have h5 := ht.out
              rw [hx] at h5
              cases h5
              exact htb.out
          case measure => simp [intOf]; omega
        · obtain rfl : m = j := by omega
          have W4 := Lib.hid (W3.out.2 fun i t hi => HI.out i t (HLm.out i t hi) hi)
          clear W3 HI  HPl hlt hk
          go_wp2_with fail
          clear d4 hx hx0 c6
          go_loopw [12] (fun i wr => ∃ g : Nat, g ≤ k ∧ i = .int .i64 g ∧ (∀ (i : Nat) (l : Lo Dr), i < g → s.ds[i]? = some l → l.x.id ≠ u.x.id) ∧ Below w.heap.size w wr ∧ wr.heap[w.heap.size]? = some (scB s) ∧ wr.heap[w.heap.size + 1]? = some (drB u)) (fun i _ => k - (intOf i).toNat)
          case atStart => exact ⟨0, Nat.zero_le _, rfl, fun i t h => absurd h (Nat.not_lt_zero _), HB.out, HG.out, HD.out⟩
          case round =>
            obtain ⟨g, hk, rfl, hin, hb, hg, hd⟩ := hrel
            have HBz := Lib.hid hb
            have HI := Lib.hid hin
            have HGz := Lib.hid hg
            have HDz := Lib.hid hd
            obtain ⟨c0, c1, c2, c3, c4, c5, c6, c7, c8, c9⟩ := scB_cell HGz.out
            rw [hA.out, hn.out] at c9
            obtain ⟨d0, d1, d2, d3, d4⟩ := drB_cell HDz.out
            have hx := drB_lt HDz.out
            clear hin hb hg hd c0 c1 c2 c3 c4 c5 c6 c7 c8 d1 d2 d3 d4
            by_cases hlt : g < k
            · obtain ⟨l, hl⟩ := HLd.out g (by omega)
              obtain ⟨e0, -, -, -, -⟩ := atD (show AtE ED wr b (off + g * 5) l from (hDS.out g l hl).below HBz.out hbB)
              have hbw := Nat.lt_of_lt_of_le hbB HBz.out.size
              have hgn : g < n := by omega
              replace hl := Lib.hid hl
              by_cases hid : l.x.id = u.x.id
              · have q1 : (l.x.id == u.x.id) = true := by simp [hid]
                have q2 : decide (l.x.id = u.x.id) = true := by simp [hid]
                obtain rfl : R = 25 := W4.out.1 g l.x (HPre.out g l hlt hl.out) hid
                clear hid
                go_wp2_with fail
                go_still_tail 8, (by kernel_rfl)
                go_wp2_with fail
                go_ret
                exact ⟨rfl, HBz.out.drew⟩
              · have q1 : (l.x.id == u.x.id) = false := by simp [hid]
                have q2 : decide (l.x.id = u.x.id) = false := by simp [hid]
                replace hid := Lib.hid hid
                go_wp2_with fail
                go_still_tail 8, (by kernel_rfl)
                go_wp2_with fail
                go_roundw
                case rel =>
                  refine ⟨g + 1, by omega, by go_num, fun i x hi hx => ?_, HBz.out.drew, HGz.out, HDz.out⟩
                  rcases Nat.lt_or_ge i g with h | h
                  · exact HI.out i x h hx
                  · obtain rfl : i = g := by omega
                    have h5 := hl.out
                    rw [hx] at h5
                    cases h5
                    exact hid.out
                case measure => simp [intOf]; omega
            · obtain rfl : k = g := by omega
              have W5 := Lib.hid (W4.out.2 fun i e he => by
                obtain ⟨l, hi, hl, rfl⟩ := HPre2.out i e he
                exact HI.out i l hi hl)
              clear W4 HI hlt hk
              go_wp2_with fail
              clear c9 d0 hx
              go_loopw [13] (fun i wr => ∃ g : Nat, g ≤ m ∧ i = .int .i64 g ∧ (∀ (i j : Nat) t v, j < i → i < g → u.x.tris[i]? = some t → u.x.tris[j]? = some v → t.i ≠ v.i) ∧ Below w.heap.size w wr ∧ wr.heap[w.heap.size]? = some (scB s) ∧ wr.heap[w.heap.size + 1]? = some (drB u)) (fun i _ => m - (intOf i).toNat)
              case atStart => exact ⟨0, Nat.zero_le _, rfl, fun i j t v _ h => absurd h (Nat.not_lt_zero _), HBz.out, HGz.out, HDz.out⟩
              case round =>
                obtain ⟨g, hk, rfl, hin, hb, hg, hd⟩ := hrel
                have HBy := Lib.hid hb
                have HI := Lib.hid hin
                have HGy := Lib.hid hg
                have HDy := Lib.hid hd
                obtain ⟨d0, d1, d2, d3, d4⟩ := drB_cell HDy.out
                rw [hm.out, hrA.out] at d4
                have hx := drB_lt HDy.out
                clear hin hb hg hd d0 d1 d2 d3
                by_cases hlt : g < m
                · obtain ⟨t, ht⟩ := HL.out g hlt
                  obtain ⟨b3, off3, rfl, hb3B, hat3⟩ := hTR.out.at ht
                  have HAT := Lib.hid (fun (i : Nat) (v : Tr) (h : u.x.tris[i]? = some v) => show AtE ER w b3 (off3 + i * 4) v from by
                    obtain ⟨b', off', e, _, h2⟩ := hTR.out.at h
                    cases e
                    exact h2)
                  have dlt : decide ((g : Int) < m) = true := by simp; omega
                  clear hat3
                  go_wp2_with fail
                  clear d4 hx
                  go_loopw [14] (fun i wr => ∃ q : Nat, q ≤ g ∧ i = .int .i64 q ∧ (∀ (j : Nat) v, j < q → u.x.tris[j]? = some v → t.i ≠ v.i) ∧ Below w.heap.size w wr ∧ wr.heap[w.heap.size]? = some (scB s) ∧ wr.heap[w.heap.size + 1]? = some (drB u)) (fun i _ => g - (intOf i).toNat)
                  case atStart => exact ⟨0, Nat.zero_le _, rfl, fun j v h => absurd h (Nat.not_lt_zero _), HBy.out, HGy.out, HDy.out⟩
                  case round =>
                    obtain ⟨q, hkq, rfl, hin, hb, hg, hd⟩ := hrel
                    have HBx := Lib.hid hb
                    have HJ := Lib.hid hin
                    have HGx := Lib.hid hg
                    have HDx := Lib.hid hd
                    obtain ⟨d0, d1, d2, d3, d4⟩ := drB_cell HDx.out
                    rw [hm.out, hrA.out] at d4
                    have hx := drB_lt HDx.out
                    clear hin hb hg hd d0 d1 d2 d3
                    by_cases hlq : q < g
                    · obtain ⟨v, hv'⟩ := HL.out q (by omega)
                      obtain ⟨e0, -, -, -⟩ := atR (show AtE ER wr b3 (off3 + g * 4) t from (HAT.out g t ht).below HBx.out hb3B)
                      obtain ⟨f0, -, -, -⟩ := atR (show AtE ER wr b3 (off3 + q * 4) v from (HAT.out q v hv').below HBx.out hb3B)
                      have hbw := Nat.lt_of_lt_of_le hb3B HBx.out.size
                      have hqm : q < m := by omega
                      replace hv' := Lib.hid hv'
                      by_cases hid : t.i = v.i
                      · have q1 : (t.i == v.i) = true := by simp [hid]
                        have q2 : decide (t.i = v.i) = true := by simp [hid]
                        obtain rfl : R = 25 := W5.out.1 g q t v hlq ht hv'.out hid
                        clear hid
                        replace ht := Lib.hid ht
                        go_wp2_with fail
                        go_still_tail 12, (by kernel_rfl)
                        go_wp2_with fail
                        go_ret
                        exact ⟨rfl, HBx.out.drew⟩
                      · have q1 : (t.i == v.i) = false := by simp [hid]
                        have q2 : decide (t.i = v.i) = false := by simp [hid]
                        replace hid := Lib.hid hid
                        replace ht := Lib.hid ht
                        go_wp2_with fail
                        go_still_tail 12, (by kernel_rfl)
                        go_wp2_with fail
                        go_roundw
                        case rel =>
                          refine ⟨q + 1, by omega, by go_num, fun i x hi hx => ?_, HBx.out.drew, HGx.out, HDx.out⟩
                          rcases Nat.lt_or_ge i q with h | h
                          · exact HJ.out i x h hx
                          · obtain rfl : i = q := by omega
                            have h5 := hv'.out
                            rw [hx] at h5
                            cases h5
                            exact hid.out
                        case measure => simp [intOf]; omega
                    · obtain rfl : g = q := by omega
                      replace ht := Lib.hid ht
                      clear d4 hx
                      go_wp2_with fail
                      go_roundw
                      case rel =>
                        refine ⟨g + 1, by omega, by go_num, fun i j t2 v2 hji hi h1 h2 => ?_, HBx.out, HGx.out, HDx.out⟩
                        rcases Nat.lt_or_ge i g with h | h
                        · exact HI.out i j t2 v2 hji h h1 h2
                        · obtain rfl : i = g := by omega
                          have h5 := ht.out
                          rw [h1] at h5
                          cases h5
                          exact HJ.out j v2 hji h2
                      case measure => simp [intOf]; omega
                · obtain rfl : m = g := by omega
                  obtain rfl : R = 0 := W5.out.2 fun i j t v hji h1 h2 => HI.out i j t v hji (HLm.out i t h1) h1 h2
                  go_wp2_with fail
                  go_ret
                  exact ⟨rfl, HBy.out⟩
  have W3 := Lib.hid (W2.out.2 (by intro h; simp at h))
  clear W2
  go_wp2_with fail
  clear d0 d1 d2 d3 d4 hx
  go_loopw [7] (fun i wr => ∃ j : Nat, j ≤ m ∧ i = .int .i64 j ∧ (∀ (i : Nat) t, i < j → u.x.tris[i]? = some t → triB s.vs.length t = true) ∧ Below w.heap.size w wr ∧ wr.heap[w.heap.size]? = some (scB s) ∧ wr.heap[w.heap.size + 1]? = some (drB u)) (fun i _ => m - (intOf i).toNat)
  case atStart => exact ⟨0, Nat.zero_le _, rfl, fun i t h => absurd h (Nat.not_lt_zero _), BX.out, GX.out, DX.out⟩
  case round =>
    obtain ⟨j, hk, rfl, hin, hb, hg, hd⟩ := hrel
    have HB := Lib.hid hb
    have HI := Lib.hid hin
    have HG := Lib.hid hg
    have HD := Lib.hid hd
    obtain ⟨c0, c1, c2, c3, c4, c5, c6, c7, c8, c9⟩ := scB_cell HG.out
    obtain ⟨d0, d1, d2, d3, d4⟩ := drB_cell HD.out
    rw [hm.out, hrA.out] at d4
    have hx := drB_lt HD.out
    have hx0 := scB_lt HG.out
    clear hin hb hg hd c0 c1 c2 c3 c4 c5 c7 c8 c9 d0 d1 d2 d3
    by_cases hlt : j < m
    · obtain ⟨t, ht⟩ := HL.out j hlt
      obtain ⟨b3, off3, rfl, hb3B, hat3⟩ := hTR.out.at ht
      have hat4 : AtE ER wr b3 (off3 + j * 4) t := hat3.below HB.out hb3B
      obtain ⟨e0, e1, e2, e3⟩ := atR hat4
      have hbw := Nat.lt_of_lt_of_le hb3B HB.out.size
      replace ht := Lib.hid ht
      have P1 := Lib.hid (HPl.out t.a)
      have P2 := Lib.hid (HPl.out t.b)
      have P3 := Lib.hid (HPl.out t.c)
      have htri : triB s.vs.length t = (inB t.i 0 9999 && (inB t.a 0 (s.vs.length - 1) && (inB t.b 0 (s.vs.length - 1) && inB t.c 0 (s.vs.length - 1)))) := by unfold triB; simp
      have hi : inB t.i 0 9999 = decide (0 ≤ t.i ∧ t.i ≤ 9999) := rfl
      rw [hi] at htri
      have F24 := Lib.hid (fun h => W3.out.1 j t ht.out h)
      rw [htri] at F24
      have FT := Lib.hid htri
      obtain ⟨tb, htb⟩ : ∃ tb, triB s.vs.length t = tb := ⟨_, rfl⟩
      rw [htb] at FT
      replace htb := Lib.hid htb
      generalize inB t.a 0 (s.vs.length - 1) = ra at *
      generalize inB t.b 0 (s.vs.length - 1) = rb at *
      generalize inB t.c 0 (s.vs.length - 1) = rc at *
      clear hat3 hat4 htri hi
      have B2 := Lib.hid (bstep HB.out HB.out.size (new_below wr (.cells #[.int .i64 t.i, .int .i64 t.a, .int .i64 t.b, .int .i64 t.c] 86)))
      have G2 := Lib.hid (show (wr.alloc (.cells #[.int .i64 t.i, .int .i64 t.a, .int .i64 t.b, .int .i64 t.c] 86)).heap[w.heap.size]? = some (scB s) from scB_alloc _ HG.out)
      have D2 := Lib.hid (show (wr.alloc (.cells #[.int .i64 t.i, .int .i64 t.a, .int .i64 t.b, .int .i64 t.c] 86)).heap[w.heap.size + 1]? = some (drB u) from (Below.heap_alloc _ _ _ (drB_lt HD.out)).trans HD.out)
      go_wp2_with fail
      with_reducible refine (P1.out _).mono ?_
      rintro e w' ⟨rfl, rfl⟩
      go_wp2_with fail
      with_reducible refine (P2.out _).mono ?_
      rintro e w' ⟨rfl, rfl⟩
      go_wp2_with fail
      with_reducible refine (P3.out _).mono ?_
      rintro e w' ⟨rfl, rfl⟩
      by_cases t0 : t.i < 0
      · obtain rfl : R = 24 := F24.out (by simp; omega)
        go_wp2_with fail
        go_ret
        exact ⟨rfl, B2.out⟩
      by_cases t1 : 9999 < t.i
      · obtain rfl : R = 24 := F24.out (by simp; omega)
        go_wp2_with fail
        go_ret
        exact ⟨rfl, B2.out⟩
      cases ra
      · obtain rfl : R = 24 := F24.out (by simp)
        go_wp2_with fail
        go_ret
        exact ⟨rfl, B2.out⟩
      cases rb
      · obtain rfl : R = 24 := F24.out (by simp)
        go_wp2_with fail
        go_ret
        exact ⟨rfl, B2.out⟩
      cases rc
      · obtain rfl : R = 24 := F24.out (by simp)
        go_wp2_with fail
        go_ret
        exact ⟨rfl, B2.out⟩
      obtain rfl : tb = true := by rw [FT.out]; simp; omega
      go_wp2_with fail
      go_roundw
      case rel =>
        refine ⟨j + 1, by omega, by go_num, fun i x hi hx => ?_, B2.out, G2.out, D2.out⟩
        rcases Nat.lt_or_ge i j with h | h
        · exact HI.out i x h hx
        · obtain rfl : i = j := by omega
          have h5 := ht.out
          rw [hx] at h5
          cases h5
          exact htb.out
      case measure => simp [intOf]; omega
    · obtain rfl : m = j := by omega
      have W4 := Lib.hid (W3.out.2 fun i t hi => HI.out i t (HLm.out i t hi) hi)
      clear W3 HI  HPl hlt hk
      go_wp2_with fail
      clear d4 hx hx0 c6
      go_loopw [12] (fun i wr => ∃ g : Nat, g ≤ k ∧ i = .int .i64 g ∧ (∀ (i : Nat) (l : Lo Dr), i < g → s.ds[i]? = some l → l.x.id ≠ u.x.id) ∧ Below w.heap.size w wr ∧ wr.heap[w.heap.size]? = some (scB s) ∧ wr.heap[w.heap.size + 1]? = some (drB u)) (fun i _ => k - (intOf i).toNat)
      case atStart => exact ⟨0, Nat.zero_le _, rfl, fun i t h => absurd h (Nat.not_lt_zero _), HB.out, HG.out, HD.out⟩
      case round =>
        obtain ⟨g, hk, rfl, hin, hb, hg, hd⟩ := hrel
        have HBz := Lib.hid hb
        have HI := Lib.hid hin
        have HGz := Lib.hid hg
        have HDz := Lib.hid hd
        obtain ⟨c0, c1, c2, c3, c4, c5, c6, c7, c8, c9⟩ := scB_cell HGz.out
        rw [hA.out, hn.out] at c9
        obtain ⟨d0, d1, d2, d3, d4⟩ := drB_cell HDz.out
        have hx := drB_lt HDz.out
        clear hin hb hg hd c0 c1 c2 c3 c4 c5 c6 c7 c8 d1 d2 d3 d4
        by_cases hlt : g < k
        · obtain ⟨l, hl⟩ := HLd.out g (by omega)
          obtain ⟨e0, -, -, -, -⟩ := atD (show AtE ED wr b (off + g * 5) l from (hDS.out g l hl).below HBz.out hbB)
          have hbw := Nat.lt_of_lt_of_le hbB HBz.out.size
          have hgn : g < n := by omega
          replace hl := Lib.hid hl
          by_cases hid : l.x.id = u.x.id
          · have q1 : (l.x.id == u.x.id) = true := by simp [hid]
            have q2 : decide (l.x.id = u.x.id) = true := by simp [hid]
            obtain rfl : R = 25 := W4.out.1 g l.x (HPre.out g l hlt hl.out) hid
            clear hid
            go_wp2_with fail
            go_still_tail 8, (by kernel_rfl)
            go_wp2_with fail
            go_ret
            exact ⟨rfl, HBz.out.drew⟩
          · have q1 : (l.x.id == u.x.id) = false := by simp [hid]
            have q2 : decide (l.x.id = u.x.id) = false := by simp [hid]
            replace hid := Lib.hid hid
            go_wp2_with fail
            go_still_tail 8, (by kernel_rfl)
            go_wp2_with fail
            go_roundw
            case rel =>
              refine ⟨g + 1, by omega, by go_num, fun i x hi hx => ?_, HBz.out.drew, HGz.out, HDz.out⟩
              rcases Nat.lt_or_ge i g with h | h
              · exact HI.out i x h hx
              · obtain rfl : i = g := by omega
                have h5 := hl.out
                rw [hx] at h5
                cases h5
                exact hid.out
            case measure => simp [intOf]; omega
        · obtain rfl : k = g := by omega
          have W5 := Lib.hid (W4.out.2 fun i e he => by
            obtain ⟨l, hi, hl, rfl⟩ := HPre2.out i e he
            exact HI.out i l hi hl)
          clear W4 HI hlt hk
          go_wp2_with fail
          clear c9 d0 hx
          go_loopw [13] (fun i wr => ∃ g : Nat, g ≤ m ∧ i = .int .i64 g ∧ (∀ (i j : Nat) t v, j < i → i < g → u.x.tris[i]? = some t → u.x.tris[j]? = some v → t.i ≠ v.i) ∧ Below w.heap.size w wr ∧ wr.heap[w.heap.size]? = some (scB s) ∧ wr.heap[w.heap.size + 1]? = some (drB u)) (fun i _ => m - (intOf i).toNat)
          case atStart => exact ⟨0, Nat.zero_le _, rfl, fun i j t v _ h => absurd h (Nat.not_lt_zero _), HBz.out, HGz.out, HDz.out⟩
          case round =>
            obtain ⟨g, hk, rfl, hin, hb, hg, hd⟩ := hrel
            have HBy := Lib.hid hb
            have HI := Lib.hid hin
            have HGy := Lib.hid hg
            have HDy := Lib.hid hd
            obtain ⟨d0, d1, d2, d3, d4⟩ := drB_cell HDy.out
            rw [hm.out, hrA.out] at d4
            have hx := drB_lt HDy.out
            clear hin hb hg hd d0 d1 d2 d3
            by_cases hlt : g < m
            · obtain ⟨t, ht⟩ := HL.out g hlt
              obtain ⟨b3, off3, rfl, hb3B, hat3⟩ := hTR.out.at ht
              have HAT := Lib.hid (fun (i : Nat) (v : Tr) (h : u.x.tris[i]? = some v) => show AtE ER w b3 (off3 + i * 4) v from by
                obtain ⟨b', off', e, _, h2⟩ := hTR.out.at h
                cases e
                exact h2)
              have dlt : decide ((g : Int) < m) = true := by simp; omega
              clear hat3
              go_wp2_with fail
              clear d4 hx
              go_loopw [14] (fun i wr => ∃ q : Nat, q ≤ g ∧ i = .int .i64 q ∧ (∀ (j : Nat) v, j < q → u.x.tris[j]? = some v → t.i ≠ v.i) ∧ Below w.heap.size w wr ∧ wr.heap[w.heap.size]? = some (scB s) ∧ wr.heap[w.heap.size + 1]? = some (drB u)) (fun i _ => g - (intOf i).toNat)
              case atStart => exact ⟨0, Nat.zero_le _, rfl, fun j v h => absurd h (Nat.not_lt_zero _), HBy.out, HGy.out, HDy.out⟩
              case round =>
                obtain ⟨q, hkq, rfl, hin, hb, hg, hd⟩ := hrel
                have HBx := Lib.hid hb
                have HJ := Lib.hid hin
                have HGx := Lib.hid hg
                have HDx := Lib.hid hd
                obtain ⟨d0, d1, d2, d3, d4⟩ := drB_cell HDx.out
                rw [hm.out, hrA.out] at d4
                have hx := drB_lt HDx.out
                clear hin hb hg hd d0 d1 d2 d3
                by_cases hlq : q < g
                · obtain ⟨v, hv'⟩ := HL.out q (by omega)
                  obtain ⟨e0, -, -, -⟩ := atR (show AtE ER wr b3 (off3 + g * 4) t from (HAT.out g t ht).below HBx.out hb3B)
                  obtain ⟨f0, -, -, -⟩ := atR (show AtE ER wr b3 (off3 + q * 4) v from (HAT.out q v hv').below HBx.out hb3B)
                  have hbw := Nat.lt_of_lt_of_le hb3B HBx.out.size
                  have hqm : q < m := by omega
                  replace hv' := Lib.hid hv'
                  by_cases hid : t.i = v.i
                  · have q1 : (t.i == v.i) = true := by simp [hid]
                    have q2 : decide (t.i = v.i) = true := by simp [hid]
                    obtain rfl : R = 25 := W5.out.1 g q t v hlq ht hv'.out hid
                    clear hid
                    replace ht := Lib.hid ht
                    go_wp2_with fail
                    go_still_tail 12, (by kernel_rfl)
                    go_wp2_with fail
                    go_ret
                    exact ⟨rfl, HBx.out.drew⟩
                  · have q1 : (t.i == v.i) = false := by simp [hid]
                    have q2 : decide (t.i = v.i) = false := by simp [hid]
                    replace hid := Lib.hid hid
                    replace ht := Lib.hid ht
                    go_wp2_with fail
                    go_still_tail 12, (by kernel_rfl)
                    go_wp2_with fail
                    go_roundw
                    case rel =>
                      refine ⟨q + 1, by omega, by go_num, fun i x hi hx => ?_, HBx.out.drew, HGx.out, HDx.out⟩
                      rcases Nat.lt_or_ge i q with h | h
                      · exact HJ.out i x h hx
                      · obtain rfl : i = q := by omega
                        have h5 := hv'.out
                        rw [hx] at h5
                        cases h5
                        exact hid.out
                    case measure => simp [intOf]; omega
                · obtain rfl : g = q := by omega
                  replace ht := Lib.hid ht
                  clear d4 hx
                  go_wp2_with fail
                  go_roundw
                  case rel =>
                    refine ⟨g + 1, by omega, by go_num, fun i j t2 v2 hji hi h1 h2 => ?_, HBx.out, HGx.out, HDx.out⟩
                    rcases Nat.lt_or_ge i g with h | h
                    · exact HI.out i j t2 v2 hji h h1 h2
                    · obtain rfl : i = g := by omega
                      have h5 := ht.out
                      rw [h1] at h5
                      cases h5
                      exact HJ.out j v2 hji h2
                  case measure => simp [intOf]; omega
            · obtain rfl : m = g := by omega
              obtain rfl : R = 0 := W5.out.2 fun i j t v hji h1 h2 => HI.out i j t v hji (HLm.out i t h1) h1 h2
              go_wp2_with fail
              go_ret
              exact ⟨rfl, HBy.out⟩
end Go.Proofs.YtfmmfaeognoleaaGreat
/-
  The contract of the reference's Check.
-/
namespace Go.Proofs.YtfmmfaeognoleaaGreat
open Go.RowKit
attribute [local go_sem ↓] Go.wp_at_zero Go.wp_at_succ

theorem chk_two (l : List C.In) : C.chk l = 0 ∨ C.chk l = 23 := by
  unfold C.chk
  split
  · exact .inr rfl
  · split
    · exact .inl rfl
    · exact .inr rfl
set_option maxRecDepth 100000 in
set_option maxHeartbeats 8000000 in
theorem rcheck_scene (s : Sc) (w : World) (ha : s.at w w.heap.size) (hok : s.ok) (hf : s.few) :
    Calls Tryz.prog 16 #[.agg #[.int .i64 s.w, .int .i64 s.h, .int .u8 s.k.r, .int .u8 s.k.g, .int .u8 s.k.b, .int .u8 s.k.a, .slice s.vA s.vs.length s.vc, .slice s.tA s.ts.length s.tc, .slice s.pA s.ps.length s.pc, .slice s.dA s.ds.length s.dc]] w fun e w' => e = .returned (.int .i64 (check s.p)) ∧ Below w.heap.size w w' := by
  have HK := Lib.hid (new_below w (.cells #[.int .i64 s.w, .int .i64 s.h, .int .u8 s.k.r, .int .u8 s.k.g, .int .u8 s.k.b, .int .u8 s.k.a, .slice s.vA s.vs.length s.vc, .slice s.tA s.ts.length s.tc, .slice s.pA s.ps.length s.pc, .slice s.dA s.ds.length s.dc] 29))
  have HG := Lib.hid (show (w.alloc (.cells #[.int .i64 s.w, .int .i64 s.h, .int .u8 s.k.r, .int .u8 s.k.g, .int .u8 s.k.b, .int .u8 s.k.a, .slice s.vA s.vs.length s.vc, .slice s.tA s.ts.length s.tc, .slice s.pA s.ps.length s.pc, .slice s.dA s.ds.length s.dc] 29)).heap[w.heap.size]? = some (scB s) from heap_alloc_new _ _)
  have H3 := Lib.hid (rright_any s.k)
  have H4 := Lib.hid (fun W (hb : Below w.heap.size w W) => many_any s W ((ha.below hb).sharp) hf)
  have H5 := Lib.hid (fun v W => U.rright_any v W)
  have H6 := Lib.hid (fun (l : Lo Tx) W => rright_tex l.x l.A l.c W)
  have H7 := Lib.hid (fun (l : Lo (List C.In)) (hl : l ∈ s.ps) W (hb : Below w.heap.size w W) => C.rcheck_any l.x l.A l.c (hok.ps l hl).1 W (((ha.px l hl).below hb).sharp))
  have H8 := Lib.hid (fun (j : Nat) (u : Lo Dr) (hu : s.ds[j]? = some u) W (hb : Below w.heap.size w W) => rdraw_any s j u hu W ((ha.below hb).sharp) hf)
  have SV := Lib.hid (fun (j : Nat) (u : U.V) (hu : s.vs[j]? = some u) => ha.v.at hu)
  have ST := Lib.hid (fun (j : Nat) (u : Lo Tx) (hu : s.ts[j]? = some u) => ha.t.at hu)
  have SP := Lib.hid (fun (j : Nat) (u : Lo (List C.In)) (hu : s.ps[j]? = some u) => ha.p.at hu)
  have LV := Lib.hid (fun (k : Nat) (h : k < s.vs.length) => get_lt (l := s.vs) h)
  have LT := Lib.hid (fun (k : Nat) (h : k < s.ts.length) => get_lt (l := s.ts) h)
  have LP := Lib.hid (fun (k : Nat) (h : k < s.ps.length) => get_lt (l := s.ps) h)
  have LD := Lib.hid (fun (k : Nat) (h : k < s.ds.length) => get_lt (l := s.ds) h)
  have AV := Lib.hid (fun (h : ∀ (i : Nat) x, s.vs[i]? = some x → U.rightB x = true) => all_yes h)
  have AT := Lib.hid (fun (h : ∀ (i : Nat) x, s.ts[i]? = some x → (fun l : Lo Tx => l.x.right) x = true) => all_yes h)
  have AP := Lib.hid (fun (h : ∀ (i : Nat) x, s.ps[i]? = some x → (fun l : Lo (List C.In) => decide (C.chk l.x = 0)) x = true) => all_yes h)
  have NV := Lib.hid (fun (j : Nat) (u : U.V) (h : s.vs[j]? = some u) (hr : U.rightB u = false) => all_no (f := U.rightB) h hr)
  have NT := Lib.hid (fun (j : Nat) (u : Lo Tx) (h : s.ts[j]? = some u) (hr : u.x.right = false) => all_no (f := fun l : Lo Tx => l.x.right) h hr)
  have NP := Lib.hid (fun (j : Nat) (u : Lo (List C.In)) (h : s.ps[j]? = some u) (hr : ¬ C.chk u.x = 0) => all_no (f := fun l : Lo (List C.In) => decide (C.chk l.x = 0)) h (by simpa using hr))
  have HGd := Lib.hid (fun h => errs_good (s := s.p) (n := s.ds.length) h)
  have HBd := Lib.hid (fun (j : Nat) (hj : j < s.ds.length) h1 h2 => errs_bad (s := s.p) (n := s.ds.length) (j := j) hj h1 h2)
  have HW := Lib.hid (check_ways s)
  have hvs := hf.vs
  have hts := hf.ts
  have hps := hf.ps
  have hds := hf.ds
  generalize check s.p = R at *
  generalize errAt s.p = er at *
  generalize firstE er 0 s.ds.length = F at *
  have i1 : inB s.w 1 64 = decide (1 ≤ s.w ∧ s.w ≤ 64) := rfl
  have i2 : inB s.h 1 64 = decide (1 ≤ s.h ∧ s.h ≤ 64) := rfl
  rw [i1, i2] at HW
  generalize rightB s.k = r3 at *
  generalize manyB s.p = r4 at *
  generalize s.vs.all U.rightB = r5 at *
  generalize (s.ts.all fun l => l.x.right) = r6 at *
  generalize (s.ps.all fun l => decide (C.chk l.x = 0)) = r7 at *
  clear i1 i2
  obtain ⟨vA, hvA⟩ : ∃ a, s.vA = a := ⟨_, rfl⟩
  obtain ⟨m1, hm1⟩ : ∃ n, s.vs.length = n := ⟨_, rfl⟩
  obtain ⟨tA, htA⟩ : ∃ a, s.tA = a := ⟨_, rfl⟩
  obtain ⟨m2, hm2⟩ : ∃ n, s.ts.length = n := ⟨_, rfl⟩
  obtain ⟨pA, hpA⟩ : ∃ a, s.pA = a := ⟨_, rfl⟩
  obtain ⟨m3, hm3⟩ : ∃ n, s.ps.length = n := ⟨_, rfl⟩
  obtain ⟨dA, hdA⟩ : ∃ a, s.dA = a := ⟨_, rfl⟩
  obtain ⟨m4, hm4⟩ : ∃ n, s.ds.length = n := ⟨_, rfl⟩
  rw [hm1] at LV hvs
  rw [hm2] at LT hts
  rw [hm3] at LP hps
  rw [hm4] at LD hds HGd HBd
  rw [hvA] at SV
  rw [htA] at ST
  rw [hpA] at SP
  replace hvA := Lib.hid hvA
  replace hm1 := Lib.hid hm1
  replace htA := Lib.hid htA
  replace hm2 := Lib.hid hm2
  replace hpA := Lib.hid hpA
  replace hm3 := Lib.hid hm3
  replace hdA := Lib.hid hdA
  replace hm4 := Lib.hid hm4
  clear ha hok hf
  by_cases w1 : s.w < 1
  · obtain rfl : R = 20 := by first | exact HW.out.1 (by simp; omega) | exact HW.out.2.1 (by simp; omega) (by simp; omega)
    go_enter Tryz.func16, Tryz.ntmps16
    go_wp2
    go_ret
    exact ⟨rfl, HK.out⟩
  by_cases w2 : 64 < s.w
  · obtain rfl : R = 20 := by first | exact HW.out.1 (by simp; omega) | exact HW.out.2.1 (by simp; omega) (by simp; omega)
    go_enter Tryz.func16, Tryz.ntmps16
    go_wp2
    go_ret
    exact ⟨rfl, HK.out⟩
  by_cases h1 : s.h < 1
  · obtain rfl : R = 20 := by first | exact HW.out.1 (by simp; omega) | exact HW.out.2.1 (by simp; omega) (by simp; omega)
    go_enter Tryz.func16, Tryz.ntmps16
    go_wp2
    go_ret
    exact ⟨rfl, HK.out⟩
  by_cases h2 : 64 < s.h
  · obtain rfl : R = 20 := by first | exact HW.out.1 (by simp; omega) | exact HW.out.2.1 (by simp; omega) (by simp; omega)
    go_enter Tryz.func16, Tryz.ntmps16
    go_wp2
    go_ret
    exact ⟨rfl, HK.out⟩
  have HW2 := Lib.hid (HW.out.2.2 (by simp; omega) (by simp; omega))
  clear HW
  go_enter Tryz.func16, Tryz.ntmps16
  go_wp2_with fail
  with_reducible refine (H3.out _).mono ?_
  rintro e w3 ⟨rfl, hb⟩
  have B3 := Lib.hid (bstep HK.out HK.out.size hb)
  have G3 := Lib.hid (scB_keep HG.out hb (scB_lt HG.out))
  clear hb HK HG H3
  cases r3
  · obtain rfl : R = 1 := HW2.out.1 (by simp)
    go_wp2
    go_ret
    exact ⟨rfl, B3.out⟩
  have HW3 := Lib.hid (HW2.out.2 (by simp))
  clear HW2
  obtain ⟨c0, c1, c2, c3, c4, c5, c6, c7, c8, c9⟩ := scB_cell G3.out
  have hg3 := scB_lt G3.out
  go_wp2_with fail
  with_reducible refine (H4.out _ B3.out).mono ?_
  rintro e w4 ⟨rfl, hb⟩
  have B4 := Lib.hid (bstep B3.out B3.out.size hb)
  have G4 := Lib.hid (scB_keep G3.out hb (scB_lt G3.out))
  clear hb B3 G3 H4 c0 c1 c2 c3 c4 c5 c6 c7 c8 c9 hg3
  cases r4
  case true =>
    obtain rfl : R = 26 := HW3.out.1 (by simp)
    go_wp2
    go_ret
    exact ⟨rfl, B4.out⟩
  have HW4 := Lib.hid (HW3.out.2 (by simp))
  clear HW3
  go_wp2_with fail
  go_loopw [5] (fun i wr => ∃ j : Nat, j ≤ m1 ∧ i = .int .i64 j ∧ (∀ (i : Nat) x, i < j → s.vs[i]? = some x → U.rightB x = true) ∧ Below w.heap.size w wr ∧ wr.heap[w.heap.size]? = some (scB s)) (fun i _ => m1 - (intOf i).toNat)
  case atStart => exact ⟨0, Nat.zero_le _, rfl, fun i x h => absurd h (Nat.not_lt_zero _), B4.out, G4.out⟩
  case round =>
    obtain ⟨j, hk, rfl, hin, hb, hg⟩ := hrel
    have HB := Lib.hid hb
    have HI := Lib.hid hin
    have HG := Lib.hid hg
    clear hin hb hg
    obtain ⟨c0, c1, c2, c3, c4, c5, c6, c7, c8, c9⟩ := scB_cell HG.out
    rw [hm1.out, hvA.out] at c6
    rw [hm2.out, htA.out] at c7
    rw [hm3.out, hpA.out] at c8
    rw [hm4.out, hdA.out] at c9
    have hg := scB_lt HG.out
    by_cases hlt : j < m1
    · obtain ⟨u, hu⟩ := LV.out j hlt
      obtain ⟨b, off, rfl, hbB, hat⟩ := SV.out j u hu
      have hc := atV (show AtE EV wr b (off + j * 8) u from hat.below HB.out hbB)
      obtain ⟨d0, d1, d2, d3, d4, d5, d6, d7⟩ := hc
      have hbw := Nat.lt_of_lt_of_le hbB HB.out.size
      have HU := Lib.hid (H5.out u wr)
      replace hu := Lib.hid hu
      clear hat
      obtain ⟨r, hr⟩ : ∃ r, U.rightB u = r := ⟨_, rfl⟩
      rw [hr] at HU
      replace hr := Lib.hid hr
      go_wp2_with fail
      with_reducible refine (HU.out).mono ?_
      rintro e w5 ⟨rfl, hb⟩
      have B5 := Lib.hid (bstep HB.out HB.out.size hb)
      have G5 := Lib.hid (scB_keep HG.out hb (scB_lt HG.out))
      clear hb HU c0 c1 c2 c3 c4 c5 c6 c7 c8 c9 hg d0 d1 d2 d3 d4 d5 d6 d7
      cases r
      · obtain rfl : R = 21 := HW4.out.1 (NV.out j u hu.out hr.out)
        go_wp2_with fail
        go_ret
        exact ⟨rfl, B5.out⟩
      · go_wp2_with fail
        go_roundw
        case rel =>
          refine ⟨j + 1, by omega, by go_num, fun i x hi hx => ?_, B5.out, G5.out⟩
          rcases Nat.lt_or_ge i j with h | h
          · exact HI.out i x h hx
          · obtain rfl : i = j := by omega
            have h5 := hu.out
            rw [hx] at h5
            cases h5
            exact hr.out
        case measure => simp [intOf]; omega
    · obtain rfl : m1 = j := by omega
      have HW5 := Lib.hid (HW4.out.2 (AV.out fun i x hx => HI.out i x (by have := (List.getElem?_eq_some_iff.1 hx).1; have := hm1.out; omega) hx))
      have HB5 := HB
      have HG5 := HG
      clear HW4 HI hlt hk
      go_wp2_with fail
      clear c0 c1 c2 c3 c4 c5 c6 c7 c8 c9 hg HB HG
      go_loopw [7] (fun i wr => ∃ j : Nat, j ≤ m2 ∧ i = .int .i64 j ∧ (∀ (i : Nat) x, i < j → s.ts[i]? = some x → (fun l : Lo Tx => l.x.right) x = true) ∧ Below w.heap.size w wr ∧ wr.heap[w.heap.size]? = some (scB s)) (fun i _ => m2 - (intOf i).toNat)
      case atStart => exact ⟨0, Nat.zero_le _, rfl, fun i x h => absurd h (Nat.not_lt_zero _), HB5.out, HG5.out⟩
      case round =>
        obtain ⟨j, hk, rfl, hin, hb, hg⟩ := hrel
        have HB := Lib.hid hb
        have HI := Lib.hid hin
        have HG := Lib.hid hg
        clear hin hb hg
        obtain ⟨c0, c1, c2, c3, c4, c5, c6, c7, c8, c9⟩ := scB_cell HG.out
        rw [hm1.out, hvA.out] at c6
        rw [hm2.out, htA.out] at c7
        rw [hm3.out, hpA.out] at c8
        rw [hm4.out, hdA.out] at c9
        have hg := scB_lt HG.out
        by_cases hlt : j < m2
        · obtain ⟨u, hu⟩ := LT.out j hlt
          obtain ⟨b, off, rfl, hbB, hat⟩ := ST.out j u hu
          have hc := atT (show AtE ET wr b (off + j * 3) u from hat.below HB.out hbB)
          obtain ⟨d0, d1, d2⟩ := hc
          have hbw := Nat.lt_of_lt_of_le hbB HB.out.size
          have HU := Lib.hid (H6.out u wr)
          replace hu := Lib.hid hu
          clear hat
          obtain ⟨r, hr⟩ : ∃ r, u.x.right = r := ⟨_, rfl⟩
          rw [hr] at HU
          replace hr := Lib.hid hr
          go_wp2_with fail
          with_reducible refine (HU.out).mono ?_
          rintro e w5 ⟨rfl, hb⟩
          have B5 := Lib.hid (bstep HB.out HB.out.size hb)
          have G5 := Lib.hid (scB_keep HG.out hb (scB_lt HG.out))
          clear hb HU c0 c1 c2 c3 c4 c5 c6 c7 c8 c9 hg d0 d1 d2
          cases r
          · obtain rfl : R = 22 := HW5.out.1 (NT.out j u hu.out hr.out)
            go_wp2_with fail
            go_ret
            exact ⟨rfl, B5.out⟩
          · go_wp2_with fail
            go_roundw
            case rel =>
              refine ⟨j + 1, by omega, by go_num, fun i x hi hx => ?_, B5.out, G5.out⟩
              rcases Nat.lt_or_ge i j with h | h
              · exact HI.out i x h hx
              · obtain rfl : i = j := by omega
                have h5 := hu.out
                rw [hx] at h5
                cases h5
                exact hr.out
            case measure => simp [intOf]; omega
        · obtain rfl : m2 = j := by omega
          have HW6 := Lib.hid (HW5.out.2 (AT.out fun i x hx => HI.out i x (by have := (List.getElem?_eq_some_iff.1 hx).1; have := hm2.out; omega) hx))
          have HB6 := HB
          have HG6 := HG
          clear HW5 HI hlt hk
          go_wp2_with fail
          clear c0 c1 c2 c3 c4 c5 c6 c7 c8 c9 hg HB HG
          go_loopw [9] (fun i wr => ∃ j : Nat, j ≤ m3 ∧ i = .int .i64 j ∧ (∀ (i : Nat) x, i < j → s.ps[i]? = some x → (fun l : Lo (List C.In) => decide (C.chk l.x = 0)) x = true) ∧ Below w.heap.size w wr ∧ wr.heap[w.heap.size]? = some (scB s)) (fun i _ => m3 - (intOf i).toNat)
          case atStart => exact ⟨0, Nat.zero_le _, rfl, fun i x h => absurd h (Nat.not_lt_zero _), HB6.out, HG6.out⟩
          case round =>
            obtain ⟨j, hk, rfl, hin, hb, hg⟩ := hrel
            have HB := Lib.hid hb
            have HI := Lib.hid hin
            have HG := Lib.hid hg
            clear hin hb hg
            obtain ⟨c0, c1, c2, c3, c4, c5, c6, c7, c8, c9⟩ := scB_cell HG.out
            rw [hm1.out, hvA.out] at c6
            rw [hm2.out, htA.out] at c7
            rw [hm3.out, hpA.out] at c8
            rw [hm4.out, hdA.out] at c9
            have hg := scB_lt HG.out
            by_cases hlt : j < m3
            · obtain ⟨u, hu⟩ := LP.out j hlt
              obtain ⟨b, off, rfl, hbB, hat⟩ := SP.out j u hu
              have hc := atP (show AtE EP wr b (off + j * 1) u from hat.below HB.out hbB)
              have d0 : wr.cell? ⟨b, off + j, none⟩ = some (.slice u.A u.x.length u.c) := by simpa using hc
              have hbw := Nat.lt_of_lt_of_le hbB HB.out.size
              have HU := Lib.hid (H7.out u (List.mem_of_getElem? hu) wr HB.out)
              have hr2 := chk_two u.x
              replace hu := Lib.hid hu
              clear hat hc
              obtain ⟨r, hr⟩ : ∃ r, C.chk u.x = r := ⟨_, rfl⟩
              rw [hr] at HU hr2
              have HR := Lib.hid hr
              clear hr
              go_wp2_with fail
              with_reducible refine (HU.out).mono ?_
              rintro e w5 ⟨rfl, hb⟩
              have B5 := Lib.hid (bstep HB.out HB.out.size hb)
              have G5 := Lib.hid (scB_keep HG.out hb (scB_lt HG.out))
              clear hb HU c0 c1 c2 c3 c4 c5 c6 c7 c8 c9 hg d0
              rcases hr2 with rfl | rfl
              · go_wp2_with fail
                go_roundw
                case rel =>
                  refine ⟨j + 1, by omega, by go_num, fun i x hi hx => ?_, B5.out, G5.out⟩
                  rcases Nat.lt_or_ge i j with h | h
                  · exact HI.out i x h hx
                  · obtain rfl : i = j := by omega
                    have h5 := hu.out
                    rw [hx] at h5
                    cases h5
                    simpa using HR.out
                case measure => simp [intOf]; omega
              · obtain rfl : R = 23 := HW6.out.1 (NP.out j u hu.out (by rw [HR.out]; decide))
                go_wp2_with fail
                go_ret
                exact ⟨rfl, B5.out⟩
            · obtain rfl : m3 = j := by omega
              obtain rfl : R = F := HW6.out.2 (AP.out fun i x hx => HI.out i x (by have := (List.getElem?_eq_some_iff.1 hx).1; have := hm3.out; omega) hx)
              have HB7 := HB
              have HG7 := HG
              clear HW6 HI hlt hk
              go_wp2_with fail
              clear c0 c1 c2 c3 c4 c5 c6 c7 c8 c9 hg HB HG
              go_loopw [10] (fun i wr => ∃ j : Nat, j ≤ m4 ∧ i = .int .i64 j ∧ (∀ i, i < j → er i = 0) ∧ Below w.heap.size w wr ∧ wr.heap[w.heap.size]? = some (scB s)) (fun i _ => m4 - (intOf i).toNat)
              case atStart => exact ⟨0, Nat.zero_le _, rfl, fun i h => absurd h (Nat.not_lt_zero _), HB7.out, HG7.out⟩
              case round =>
                obtain ⟨j, hk, rfl, hin, hb, hg⟩ := hrel
                have HB := Lib.hid hb
                have HI := Lib.hid hin
                have HG := Lib.hid hg
                clear hin hb hg
                obtain ⟨c0, c1, c2, c3, c4, c5, c6, c7, c8, c9⟩ := scB_cell HG.out
                rw [hm1.out, hvA.out] at c6
                rw [hm2.out, htA.out] at c7
                rw [hm3.out, hpA.out] at c8
                rw [hm4.out, hdA.out] at c9
                have hg := scB_lt HG.out
                by_cases hlt : j < m4
                · obtain ⟨u, hu⟩ := LD.out j hlt
                  have HU := Lib.hid (H8.out j u hu wr HB.out)
                  rw [hm4.out, hdA.out, hm1.out, hvA.out, hm2.out, htA.out, hm3.out, hpA.out] at HU
                  obtain ⟨x, hx⟩ : ∃ x, er j = x := ⟨_, rfl⟩
                  rw [hx] at HU
                  have HX := Lib.hid hx
                  clear hu hx
                  go_wp2_with fail
                  with_reducible refine (HU.out).mono ?_
                  rintro e w5 ⟨rfl, hb⟩
                  have B5 := Lib.hid (bstep HB.out HB.out.size hb)
                  have G5 := Lib.hid (scB_keep HG.out hb (scB_lt HG.out))
                  clear hb HU c0 c1 c2 c3 c4 c5 c6 c7 c8 c9 hg
                  by_cases x0 : x = 0
                  · have d1 : (x == 0) = true := by simp [x0]
                    have d2 : decide (x = 0) = true := by simp [x0]
                    go_wp2_with fail
                    go_roundw
                    case rel =>
                      refine ⟨j + 1, by omega, by go_num, fun i hi => ?_, B5.out, G5.out⟩
                      rcases Nat.lt_or_ge i j with h | h
                      · exact HI.out i h
                      · obtain rfl : i = j := by omega
                        rw [HX.out]
                        exact x0
                    case measure => simp [intOf]; omega
                  · have d1 : (x == 0) = false := by simp [x0]
                    have d2 : decide (x = 0) = false := by simp [x0]
                    obtain rfl : R = x := by rw [HBd.out j hlt HI.out (by rw [HX.out]; exact x0), HX.out]
                    go_wp2_with fail
                    go_ret
                    exact ⟨rfl, B5.out⟩
                · obtain rfl : m4 = j := by omega
                  obtain rfl : R = 0 := HGd.out HI.out
                  go_wp2_with fail
                  go_ret
                  exact ⟨rfl, HB.out⟩
end Go.Proofs.YtfmmfaeognoleaaGreat
/-
  The document's examples; the reference's Count and mod; an empty scene.
-/
namespace Go.Proofs.YtfmmfaeognoleaaGreat
open Go.RowKit
attribute [local go_sem ↓] Go.wp_at_zero Go.wp_at_succ

/-- A scene of two sides, and nothing else. -/
def bare (W H : Int) : Sc := ⟨W, H, zC, [], none, 0, [], none, 0, [], none, 0, [], none, 0⟩
theorem bare_at (W H : Int) (w : World) (B : Nat) : (bare W H).at w B :=
  ⟨Es.none_, Es.none_, fun l h => (by cases h), Es.none_, fun l h => (by cases h), Es.none_, fun l h => (by cases h)⟩
theorem bare_ok {W H : Int} (hW : I64 W) (hH : I64 H) : (bare W H).ok :=
  ⟨hW, hH, zC_ok, fun v h => (by cases h), fun l h => (by cases h), fun l h => (by cases h), fun l h => (by cases h), Nat.le_refl _, Nat.le_refl _, Nat.le_refl _, Nat.le_refl _⟩
theorem bare_few (W H : Int) : (bare W H).few := by
  constructor <;> first | exact Nat.zero_le _ | (intro l h; cases h)
theorem bare_one : check (bare 1 1).p = 0 := by decide
theorem bare_two : check (bare 65 1).p = 20 := by decide
set_option maxHeartbeats 1000000 in
theorem rmod_any (n b : Int) (hn : I64 n) (hb : 0 < b) (hb2 : b ≤ 4611686018427387904) (w : World) :
    Calls Tryz.prog 31 #[.int .i64 n, .int .i64 b] w fun e w' => e = .returned (.int .i64 (n % b)) ∧ w = w' := by
  have hw := C.emod_ways n b hb
  have hp := Int.lt_tmod_of_pos n hb
  have hq := Int.tmod_lt_of_pos n hb
  obtain ⟨k, hk⟩ : ∃ k, n.tmod b = k := ⟨_, rfl⟩
  rw [hk] at hw hp hq
  have g0 : IntKind.i64.wrap k = k := by rw [IntKind.wrap_i64]; omega
  have g1 : IntKind.i64.wrap (k + b) = k + b := by rw [IntKind.wrap_i64]; omega
  have hb0 : ¬ b = 0 := by omega
  have HN := Lib.hid hn
  clear hn
  rcases hw with ⟨h, e⟩ | ⟨h, e⟩
  · rw [e]
    clear e hp hq hb hb2
    go_enter Tryz.func31, Tryz.ntmps31
    go_wp2_with fail
    go_ret
    exact ⟨rfl, rfl⟩
  · rw [e]
    clear e hp hq hb hb2
    go_enter Tryz.func31, Tryz.ntmps31
    go_wp2_with fail
    go_ret
    exact ⟨rfl, rfl⟩
theorem sum_le : ∀ (l : List Nat), (∀ x ∈ l, x ≤ 100000) → l.sum ≤ l.length * 100000
  | [], _ => by simp
  | a :: l, h => by
    have h1 := sum_le l fun x hx => h x (by simp [hx])
    have h2 := h a (by simp)
    rw [List.sum_cons, List.length_cons]
    omega
end Go.Proofs.YtfmmfaeognoleaaGreat
/-
  Rows whose elements lead to rows of the call's own; what stays of them; a cell of a row written over.
-/
namespace Go.Proofs.YtfmmfaeognoleaaGreat
open Go.RowKit

section
variable {α β : Type} {E : Elem α} {w w' X Y : World} {p q : Nat → Prop} {A : Option Addr} {xs : List α} {B base : Nat} {v : Value}
theorem flat_setE : ∀ {l : List α} {k r : Nat} {u u' : α} {x : Value}, l[k]? = some u → r < E.size → E.cells u' = (E.cells u).set r x → E.flat (l.set k u') = (E.flat l).set (k * E.size + r) x
  | [], k, r, u, u', x, h, _, _ => by simp at h
  | v :: l, 0, r, u, u', x, h, hr, e => by
    obtain rfl : v = u := by simpa using h
    rw [Nat.zero_mul, Nat.zero_add]
    show E.cells u' ++ E.flat l = (E.cells v ++ E.flat l).set r x
    rw [e, List.set_append_left _ _ (by rw [E.len]; exact hr)]
  | v :: l, k + 1, r, u, u', x, h, hr, e => by
    have ih := flat_setE (l := l) (k := k) (r := r) (u := u) (u' := u') (x := x) (by simpa using h) hr e
    have e5 : (E.cells v).length = E.size := E.len v
    show E.cells v ++ E.flat (l.set k u') = (E.cells v ++ E.flat l).set ((k + 1) * E.size + r) x
    rw [ih, List.set_append_right _ _ (by rw [e5, Nat.add_mul]; omega)]
    congr 2
    rw [e5, Nat.add_mul]
    omega
theorem ownE_set {g n c k r : Nat} {u u' : α} {x : Value} (h : OwnE E w base (.slice (some ⟨g, 0, none⟩) n c) xs) (hk : xs[k]? = some u) (hr : r < E.size) (e : E.cells u' = (E.cells u).set r x) :
    OwnE E (w.setCell ⟨g, k * E.size + r, none⟩ x) base (.slice (some ⟨g, 0, none⟩) n c) (xs.set k u') := by
  obtain ⟨hl, ⟨h0, _⟩ | ⟨g', cap, cur, e', hg, hh, hc, hm, hs, ht⟩⟩ := h
  · cases h0
  · cases e'
    refine ⟨by rw [E.flat_length], .inr ⟨g, c, cur.setIfInBounds (k * E.size + r) x, by simp, hg, ?_, by simpa using hc, hm, by simpa using hs, ?_⟩⟩
    · rw [heap_setCell_same _ _ _ _ _ _ hh]
    · rw [flat_setE hk hr e, ← ht, List.length_set]
      simp [List.take_set]
theorem ownE_free {g n c : Nat} (h : OwnE E w base (.slice (some ⟨g, 0, none⟩) n c) xs) : ∀ o, w.frozen? ⟨g, o, none⟩ = false := by
  obtain ⟨hl, ⟨h0, _⟩ | ⟨g', cap, cur, e', hg, hh, hc, hm, hs, ht⟩⟩ := h
  · cases h0
  · cases e'
    intro o
    simp [World.frozen?, hh]
theorem ownE_at0 (h : OwnE E w base v xs) (hne : xs ≠ []) : ∃ g c, v = .slice (some ⟨g, 0, none⟩) xs.length c ∧ base ≤ g ∧ g < w.heap.size := by
  obtain ⟨hl, ⟨rfl, h0⟩ | ⟨g, cap, cur, rfl, hg, hh, hc, hm, _, ht⟩⟩ := h
  · exact absurd (List.eq_nil_of_length_eq_zero h0) hne
  · exact ⟨g, cap, rfl, hg, (Array.getElem?_eq_some_iff.1 hh).1⟩
theorem ownE_lt (h : OwnE E w base v xs) {j : Nat} (e : v.ownBlock = some j) : j < w.heap.size := by
  obtain ⟨hl, ⟨rfl, h0⟩ | ⟨g, cap, cur, rfl, hg, hh, hc, hm, _, ht⟩⟩ := h
  · simp [Value.ownBlock] at e
  · obtain rfl : g = j := by simpa [Value.ownBlock] using e
    exact (Array.getElem?_eq_some_iff.1 hh).1
theorem ownE_es {n c : Nat} (h : OwnE E w base (.slice A n c) xs) : n = xs.length ∧ xs.length ≤ c ∧ Es E w w.heap.size A xs := by
  obtain ⟨A', c', e, h1, -, h'⟩ := h.es
  cases e
  exact ⟨rfl, h1, h'⟩

/-- A slice at A reads these elements, in a block of which p holds. -/
def EsP (E : Elem α) (w : World) (p : Nat → Prop) (A : Option Addr) (xs : List α) : Prop :=
  xs ≠ [] → ∃ b off, A = some ⟨b, off, none⟩ ∧ p b ∧ ∀ j u, xs[j]? = some u → AtE E w b (off + j * E.size) u
theorem EsP.nil : EsP E w p A [] := fun h => absurd rfl h
theorem EsP.es (h : EsP E w p A xs) (hp : ∀ b, p b → b < w.heap.size → b < B) : Es E w B A xs := fun hne => by
  obtain ⟨b, off, e, hb, hc⟩ := h hne
  obtain ⟨u, hu⟩ : ∃ u, xs[0]? = some u := by
    cases xs with
    | nil => exact absurd rfl hne
    | cons x xs => exact ⟨x, rfl⟩
  exact ⟨b, off, e, hp b hb (hc 0 u hu).lt, hc⟩
theorem EsP.imp (h : EsP E w p A xs) (hp : ∀ b, p b → b < w.heap.size → q b) : EsP E w q A xs := fun hne => by
  obtain ⟨b, off, e, hb, hc⟩ := h hne
  obtain ⟨u, hu⟩ : ∃ u, xs[0]? = some u := by
    cases xs with
    | nil => exact absurd rfl hne
    | cons x xs => exact ⟨x, rfl⟩
  exact ⟨b, off, e, hp b hb (hc 0 u hu).lt, hc⟩
theorem AtE.same {b o : Nat} {x : α} (h : AtE E w b o x) (hb : w'.heap[b]? = w.heap[b]?) : AtE E w' b o x := fun j u hj => (World.cell?_of_block (a := ⟨b, o + j, none⟩) hb).trans (h j u hj)
theorem EsP.keep (h : EsP E w p A xs) (hk : ∀ b, p b → b < w.heap.size → w'.heap[b]? = w.heap[b]?) : EsP E w' p A xs := fun hne => by
  obtain ⟨b, off, e, hb, hc⟩ := h hne
  exact ⟨b, off, e, hb, fun j u hj => (hc j u hj).same (hk b hb (hc j u hj).lt)⟩
theorem Es.toP (h : Es E w B A xs) : EsP E w (fun b => b < B) A xs := h
/-- What an own row reads: in blocks from its base on. -/
theorem OwnE.toP {n c : Nat} (h : OwnE E w base (.slice A n c) xs) : EsP E w (fun b => base ≤ b) A xs := fun hne => by
  obtain ⟨-, -, h2⟩ := ownE_es h
  obtain ⟨g, c', e, hg, -⟩ := ownE_at0 h hne
  cases e
  obtain ⟨b, off, e, hb, hc⟩ := h2 hne
  cases e
  exact ⟨_, _, rfl, hg, hc⟩

/-- The blocks from B on, up to h, lie as they lay. -/
def Fx (B h : Nat) (w w' : World) : Prop := ∀ b, B ≤ b → b < h → w'.heap[b]? = w.heap[b]?
theorem Fx.refl (B h : Nat) (w : World) : Fx B h w w := fun _ _ _ => rfl
theorem Fx.below {h b : Nat} (hf : Fx B h w X) (hb : Below b X Y) (hh : h ≤ b) : Fx B h w Y := fun k h1 h2 => (hb.block k (by omega)).trans (hf k h1 h2)
theorem Fx.set {h g o : Nat} {u : Value} (hf : Fx B h w X) (hg : g < B) : Fx B h w (X.setCell ⟨g, o, none⟩ u) := fun k h1 h2 => by
  rw [heap_setCell_other _ _ _ _ (by simp; omega)]
  exact hf k h1 h2
theorem Fx.trans {h : Nat} (hf : Fx B h w X) (hg : Fx B h X Y) : Fx B h w Y := fun k h1 h2 => (hg k h1 h2).trans (hf k h1 h2)
theorem Fx.less {h B' h' : Nat} (hf : Fx B h w X) (h1 : B ≤ B') (h2 : h' ≤ h) : Fx B' h' w X := fun k a b => hf k (by omega) (by omega)
theorem Below.fx {h : Nat} (hb : Below h w X) : Fx B h w X := fun k _ h2 => hb.block k h2
theorem OwnE.fx {B' h : Nat} (ho : OwnE E w base v xs) (hf : Fx B' h w w') (hB : B' ≤ base) (hs : w.heap.size ≤ h) : OwnE E w' base v xs := by
  obtain ⟨hl, h2⟩ := ho
  refine ⟨hl, ?_⟩
  rcases h2 with h2 | ⟨j, cap, cur, rfl, hj, hh, hr⟩
  · exact .inl h2
  · exact .inr ⟨j, cap, cur, rfl, hj, (hf j (by omega) (Nat.lt_of_lt_of_le (Array.getElem?_eq_some_iff.1 hh).1 hs)).trans hh, hr⟩
end
/-- A row of the call's own, whose elements lead to rows of the call's own, apart from it. -/
structure OwnN {α β : Type} (E : Elem (Lo α)) (F : Elem β) (inn : α → List β) (w : World) (base : Nat) (v : Value) (ls : List (Lo α)) : Prop where
  own : OwnE E w base v ls
  els : ∀ l ∈ ls, EsP F w (fun b => base ≤ b ∧ v.ownBlock ≠ some b) l.A (inn l.x)
  cap : ∀ l ∈ ls, (inn l.x).length ≤ l.c
section
variable {α β : Type} {E : Elem (Lo α)} {F : Elem β} {inn : α → List β} {w w' t w1 : World} {base : Nat} {v v' : Value} {ls : List (Lo α)} {l : Lo α}
theorem OwnN.nil (w : World) (base : Nat) : OwnN E F inn w base (.slice none 0 0) [] := ⟨OwnE.nil _ _, fun l h => (by cases h), fun l h => (by cases h)⟩
theorem OwnN.keep (h : OwnN E F inn w base v ls) (hb : Below w.heap.size w w') : OwnN E F inn w' base v ls :=
  ⟨h.own.keep hb, fun l hl => (h.els l hl).keep fun b _ hlt => hb.block b hlt, h.cap⟩
theorem OwnN.fx {B' k : Nat} (h : OwnN E F inn w base v ls) (hf : Fx B' k w w') (hB : B' ≤ base) (hs : w.heap.size ≤ k) : OwnN E F inn w' base v ls :=
  ⟨h.own.fx hf hB hs, fun l hl => (h.els l hl).keep fun b hb hlt => hf b (by omega) (by omega), h.cap⟩
theorem OwnN.set (h : OwnN E F inn w base v ls) {g o : Nat} {u : Value} (hg : g < base) : OwnN E F inn (w.setCell ⟨g, o, none⟩ u) base v ls :=
  ⟨h.own.setCell hg, fun l hl => (h.els l hl).keep fun b hb _ => heap_setCell_other _ _ _ _ (by simp; omega), h.cap⟩
theorem OwnN.app (h : OwnN E F inn w base v ls) (hb : Below w.heap.size w t) (hbase : base ≤ w.heap.size)
    (hown : w1.ownsRow base E.t E.size v' (ls.length + 1) (E.flat ls ++ E.cells l)) (hg : t.grownBy w1 v.ownBlock) (hat : v'.ownBlock = v.ownBlock ∨ v'.ownBlock = some t.heap.size)
    (hl : EsP F t (fun b => base ≤ b ∧ v.ownBlock ≠ some b) l.A (inn l.x)) (hc : (inn l.x).length ≤ l.c) : OwnN E F inn w1 base v' (ls ++ [l]) ∧ Below base w w1 := by
  have ho : OwnE E w1 base v' (ls ++ [l]) := by
    unfold OwnE
    rw [List.length_append, E.flat_append, show E.flat [l] = E.cells l by simp [Elem.flat]]
    exact hown
  refine ⟨⟨ho, fun x hx => ?_, fun x hx => ?_⟩, (hb.mono hbase).grown hg (Nat.le_trans hbase hb.size) fun j ej => ownE_ge h.own j ej⟩
  rotate_left
  · rcases List.mem_append.1 hx with hx | hx
    · exact h.cap x hx
    · obtain rfl : x = l := by simpa using hx
      exact hc
  have hx2 : EsP F t (fun b => base ≤ b ∧ v.ownBlock ≠ some b) x.A (inn x.x) := by
    rcases List.mem_append.1 hx with hx | hx
    · exact (h.els x hx).keep fun b _ hlt => hb.block b hlt
    · obtain rfl : x = l := by simpa using hx
      exact hl
  have hx3 : EsP F w1 (fun b => base ≤ b ∧ v.ownBlock ≠ some b ∧ b < t.heap.size) x.A (inn x.x) :=
    (hx2.imp (q := fun b => base ≤ b ∧ v.ownBlock ≠ some b ∧ b < t.heap.size) fun b hb hlt => ⟨hb.1, hb.2, hlt⟩).keep fun b hb hlt => hg.block b hlt (fun e => hb.2.1 e.symm)
  refine hx3.imp fun b hb _ => ⟨hb.1, ?_⟩
  rcases hat with e | e
  · rw [e]; exact hb.2.1
  · rw [e]
    intro e2
    have e3 : t.heap.size = b := by simpa using e2
    omega
theorem OwnN.es (h : OwnN E F inn w base v ls) : ∀ l ∈ ls, Es F w w.heap.size l.A (inn l.x) := fun l hl => (h.els l hl).es fun _ _ hlt => hlt
end
end Go.Proofs.YtfmmfaeognoleaaGreat
/-
  Appending elements to a row of the call's own, for any type of elements; the block that holds a scene whose rows are still made.
-/
namespace Go.Proofs.YtfmmfaeognoleaaGreat
open Go.RowKit

/-- What the program's table says of a type of elements, and of slices of them. -/
structure Row {α : Type} (E : Elem α) (T : TypeId) where
  und : Tryz.prog.underlying T = some (.slice E.t)
  i : TypeInfo
  hi : Tryz.prog.info? E.t = some i
  z : Value
  hz : i.zero = some z
  hs : i.size = E.size
  hb : i.bytes ≤ 64
  hzs : z.cells.size = E.size
set_option maxRecDepth 100000 in
theorem row_of {α : Type} {E : Elem α} {T : TypeId} {z : Value} {b : Nat} (hu : Tryz.prog.underlying T = some (.slice E.t)) (h : (Tryz.prog.info? E.t).map (fun i => (i.zero, i.size, i.bytes)) = some (some z, E.size, b)) (hb : b ≤ 64) (hzs : z.cells.size = E.size) : Nonempty (Row E T) := by
  obtain ⟨i, h1, h2, h3, h4⟩ := info_parts h
  exact ⟨⟨hu, i, h1, z, h2, h3, by omega, hzs⟩⟩
set_option maxRecDepth 100000 in
theorem rowV : Nonempty (Row EV 24) := row_of Tryz.underlying24 (z := .agg (Array.replicate 8 (.int .i64 0))) (b := 64) (by kernel_rfl) (by decide) (by kernel_rfl)
set_option maxRecDepth 100000 in
theorem rowT : Nonempty (Row ET 25) := row_of Tryz.underlying25 (z := .agg #[.int .i64 0, .int .i64 0, .slice none 0 0]) (b := 40) (by kernel_rfl) (by decide) (by kernel_rfl)
set_option maxRecDepth 100000 in
theorem rowP : Nonempty (Row EP 26) := row_of Tryz.underlying26 (z := .slice none 0 0) (b := 24) (by kernel_rfl) (by decide) (by kernel_rfl)
set_option maxRecDepth 100000 in
theorem rowD : Nonempty (Row ED 27) := row_of Tryz.underlying27 (z := .agg #[.int .i64 0, .int .i64 0, .int .i64 0, .bool false, .slice none 0 0]) (b := 56) (by kernel_rfl) (by decide) (by kernel_rfl)
set_option maxRecDepth 100000 in
theorem rowR : Nonempty (Row ER 49) := row_of Tryz.underlying49 (z := .agg (Array.replicate 4 (.int .i64 0))) (b := 32) (by kernel_rfl) (by decide) (by kernel_rfl)
set_option maxRecDepth 100000 in
theorem rowC : Nonempty (Row EC 45) := row_of Tryz.underlying45 (z := .agg (Array.replicate 4 (.int .u8 0))) (b := 4) (by kernel_rfl) (by decide) (by kernel_rfl)
set_option maxRecDepth 100000 in
theorem rowI : Nonempty (Row C.EI 48) := row_of Tryz.underlying48 (z := .agg #[.int .u8 0, .int .u8 0, .int .u8 0, .int .u8 0, .int .i64 0]) (b := 16) (by kernel_rfl) (by decide) (by kernel_rfl)

section
variable {α : Type} {E : Elem α} {T : TypeId} {w w' : World} {base B : Nat} {v : Value} {xs ys : List α} {A : Option Addr}
theorem flat_cells {b off : Nat} (h : ∀ k u, ys[k]? = some u → AtE E w b (off + k * E.size) u) : ∀ j x, (E.flat ys)[j]? = some x → w.cell? ((⟨b, off, none⟩ : Addr).add j) = some x := by
  intro j x hj
  have hp := E.pos
  have hl : j < ys.length * E.size := by
    rw [← E.flat_length]
    exact (List.getElem?_eq_some_iff.1 hj).1
  have hk : j / E.size < ys.length := Nat.div_lt_of_lt_mul (by rw [Nat.mul_comm]; exact hl)
  have hr : j % E.size < E.size := Nat.mod_lt _ hp
  have hd : j / E.size * E.size + j % E.size = j := Nat.div_add_mod' _ _
  obtain ⟨u, hu⟩ := get_lt hk
  have hf := E.flat_get hu _ hr
  rw [hd, hj] at hf
  have hc := h _ u hu _ _ hf.symm
  have ha : (⟨b, off, none⟩ : Addr).add j = ⟨b, off + j, none⟩ := by unfold Addr.add; split <;> simp_all
  rw [ha, ← hd]
  rw [Nat.add_assoc] at hc
  exact hc
theorem run_append_es (R : Row E T) (ty : TypeId) (c : Nat) (hown : OwnE E w base v xs) (he : Es E w B A ys) (hn : xs.length ≤ 100000000) (hn2 : ys.length ≤ 100000000) (hbase : base ≤ w.heap.size) :
    ∃ v' w', (Builtin.append_ #[T, T] ty #[v, .slice A ys.length c]).run Tryz.prog w = .ok v' w' ∧ w'.ownsRow base E.t E.size v' (xs.length + ys.length) (E.flat xs ++ E.flat ys) ∧ w.grownBy w' v.ownBlock ∧ (v'.ownBlock = v.ownBlock ∨ v'.ownBlock = some w.heap.size) := by
  have go : ∀ a : Addr, A = some a → (∀ j x, (E.flat ys)[j]? = some x → w.cell? (a.add j) = some x) → ∃ v' w', (Builtin.append_ #[T, T] ty #[v, .slice A ys.length c]).run Tryz.prog w = .ok v' w' ∧ w'.ownsRow base E.t E.size v' (xs.length + ys.length) (E.flat xs ++ E.flat ys) ∧ w.grownBy w' v.ownBlock ∧ (v'.ownBlock = v.ownBlock ∨ v'.ownBlock = some w.heap.size) := by
    rintro a rfl hc
    obtain ⟨v', w', hr, h2, h3, -, h5⟩ := run_append_own_at (P := Tryz.prog) w base T ty E.t R.i R.z E.size R.i.bytes R.und R.hi R.hz R.hs rfl R.hzs E.pos v xs.length (E.flat xs) hown.row a ys.length c (E.flat ys) (E.flat_length ys) hc (E.flat_one ys) (by unfold maxLen; omega)
      (by have := Nat.mul_le_mul (show xs.length + ys.length ≤ 200000000 by omega) R.hb; omega) hbase
    exact ⟨v', w', hr, h2, h3, h5⟩
  by_cases hy : ys = []
  · subst hy
    cases A with
    | some a => exact go a rfl fun j x hj => by simp [Elem.flat] at hj
    | none =>
      refine ⟨v, w, ?_, by simpa [Elem.flat] using hown.row, World.grownBy.refl w _, .inl rfl⟩
      rcases hown.2 with ⟨rfl, h0⟩ | ⟨g, cap, cur, rfl, _, _, hnc, _⟩
      · simp [Builtin.append_, run_underlying R.und, sizeOf, typeInfo, R.hi, Builtin.lenOf, Builtin.firstCells]
      · simp [Builtin.append_, run_underlying R.und, sizeOf, typeInfo, R.hi, Builtin.lenOf, Builtin.firstCells, hnc, storeCells]
  · obtain ⟨b, off, rfl, -, hc⟩ := he hy
    exact go _ rfl (flat_cells hc)
theorem opw_append_es {o : Oper} {k : Act} {K : Act → World → Prop} {Q : Exit → Act → World → Prop} (R : Row E T) (s x : Operand) (c : Nat)
    (ho : o.op = .call { callee := .builtin .append, args := #[s, x], argTypes := #[T, T] }) (hs : k.eval s = v) (hx : k.eval x = .slice A ys.length c)
    (hown : OwnE E w base v xs) (he : Es E w B A ys) (hn : xs.length ≤ 100000000) (hn2 : ys.length ≤ 100000000) (hbase : base ≤ w.heap.size)
    (h : ∀ v' w', w'.ownsRow base E.t E.size v' (xs.length + ys.length) (E.flat xs ++ E.flat ys) → w.grownBy w' v.ownBlock → (v'.ownBlock = v.ownBlock ∨ v'.ownBlock = some w.heap.size) → K (k.put o.dst v') w') : o.wp Tryz.prog k w K Q := by
  obtain ⟨v', w', hr, h2, h3, h5⟩ := run_append_es R o.type c hown he hn hn2 hbase
  unfold Oper.wp execOp
  simp only [ho, resolve, invoke, builtin, Sem.run_bind, Sem.run_pure, Result.andThen_ok, List.map_toArray, List.map_cons, List.map_nil, hs, hx, hr]
  exact h v' w' h2 h3 h5
theorem wpList_append_es {ops : Array Oper} {rest : List Oper} {o : Oper} {k : Act} {Q : Exit → Act → World → Prop} (hgd : o.guard = none) (R : Row E T) (s x : Operand) (c : Nat)
    (ho : o.op = .call { callee := .builtin .append, args := #[s, x], argTypes := #[T, T] }) (hs : k.eval s = v) (hx : k.eval x = .slice A ys.length c)
    (hown : OwnE E w base v xs) (he : Es E w B A ys) (hn : xs.length ≤ 100000000) (hn2 : ys.length ≤ 100000000) (hbase : base ≤ w.heap.size)
    (h : ∀ v' w', w'.ownsRow base E.t E.size v' (xs.length + ys.length) (E.flat xs ++ E.flat ys) → w.grownBy w' v.ownBlock → (v'.ownBlock = v.ownBlock ∨ v'.ownBlock = some w.heap.size) → wpList Tryz.prog ops Q rest (k.put o.dst v') w') : wpList Tryz.prog ops Q (o :: rest) k w :=
  wpList_plain hgd fun _ hK => opw_append_es R s x c ho hs hx hown he hn hn2 hbase fun v' w' h1 h2 h3 => hK _ _ (h v' w' h1 h2 h3)
theorem ownE_app {w1 : World} {v' : Value} (hown : OwnE E w base v xs) (h1 : w1.ownsRow base E.t E.size v' (xs.length + ys.length) (E.flat xs ++ E.flat ys)) (hg : w.grownBy w1 v.ownBlock) (hbase : base ≤ w.heap.size) : OwnE E w1 base v' (xs ++ ys) ∧ Below base w w1 := by
  refine ⟨?_, (Below.refl base w).grown hg hbase fun j ej => ownE_ge hown j ej⟩
  unfold OwnE
  rw [List.length_append, E.flat_append]
  exact h1
/-- One element in a block of its own. -/
theorem es_one {w : World} {x : α} {cs : Array Value} (h : cs.toList = E.cells x) {g : Nat} (hg : w.heap[g]? = some (.cells cs E.t (0, 0))) : Es E w w.heap.size (some ⟨g, 0, none⟩) [x] := fun _ => by
  refine ⟨g, 0, rfl, (Array.getElem?_eq_some_iff.1 hg).1, fun k u hk => ?_⟩
  rcases Nat.eq_zero_or_pos k with rfl | hp
  · obtain rfl : x = u := by simpa using hk
    intro j y hj
    rw [cell_of_row w g _ cs E.t (0, 0) hg, ← hj, ← h, Array.getElem?_toList]
    simp
  · rw [List.getElem?_eq_none (by simp; omega)] at hk; cases hk
/-- Some elements in a block of their own: what a list of them in the text makes. -/
theorem own_new (w : World) (xs : List α) (cs : Array Value) (h : cs.toList = E.flat xs) (hl : xs.length ≤ 100000000) : OwnE E (w.alloc (.cells cs E.t)) w.heap.size (.slice (some ⟨w.heap.size, 0, none⟩) xs.length xs.length) xs := by
  refine ⟨E.flat_length xs, .inr ⟨w.heap.size, xs.length, cs, rfl, Nat.le_refl _, heap_alloc_new _ _, Nat.le_refl _, by unfold maxLen; omega, ?_, ?_⟩⟩
  · rw [← E.flat_length, ← h]
    simp
  · rw [h, ← E.flat_length, List.take_length]
end
/-- A block that holds a scene whose rows are v1 to v4. -/
def ouB (W H : Int) (k : Col) (v1 v2 v3 v4 : Value) : Obj := .cells #[.int .i64 W, .int .i64 H, .int .u8 k.r, .int .u8 k.g, .int .u8 k.b, .int .u8 k.a, v1, v2, v3, v4] 29 (0, 0)
section
variable {w w' : World} {g B : Nat} {W H : Int} {k : Col} {v1 v2 v3 v4 : Value}
theorem ouB_cell (h : w.heap[g]? = some (ouB W H k v1 v2 v3 v4)) : w.cell? ⟨g, 0, none⟩ = some (.int .i64 W) ∧ w.cell? ⟨g, 1, none⟩ = some (.int .i64 H) ∧ w.cell? ⟨g, 2, none⟩ = some (.int .u8 k.r) ∧ w.cell? ⟨g, 3, none⟩ = some (.int .u8 k.g) ∧ w.cell? ⟨g, 4, none⟩ = some (.int .u8 k.b) ∧ w.cell? ⟨g, 5, none⟩ = some (.int .u8 k.a) ∧ w.cell? ⟨g, 6, none⟩ = some v1 ∧ w.cell? ⟨g, 7, none⟩ = some v2 ∧ w.cell? ⟨g, 8, none⟩ = some v3 ∧ w.cell? ⟨g, 9, none⟩ = some v4 := by
  unfold ouB at h
  exact ⟨Joins.cell_of_block h 0, Joins.cell_of_block h 1, Joins.cell_of_block h 2, Joins.cell_of_block h 3, Joins.cell_of_block h 4, Joins.cell_of_block h 5, Joins.cell_of_block h 6, Joins.cell_of_block h 7, Joins.cell_of_block h 8, Joins.cell_of_block h 9⟩
theorem ouB_free (h : w.heap[g]? = some (ouB W H k v1 v2 v3 v4)) : ∀ o, w.frozen? ⟨g, o, none⟩ = false := by
  unfold ouB at h
  intro o
  simp [World.frozen?, h]
theorem ouB_lt (h : w.heap[g]? = some (ouB W H k v1 v2 v3 v4)) : g < w.heap.size := (Array.getElem?_eq_some_iff.1 h).1
theorem ouB_keep (h : w.heap[g]? = some (ouB W H k v1 v2 v3 v4)) (hb : Below B w w') (hg : g < B) : w'.heap[g]? = some (ouB W H k v1 v2 v3 v4) := (hb.block _ hg).trans h
theorem ouB_set0 (u : Int) (h : w.heap[g]? = some (ouB W H k v1 v2 v3 v4)) : (w.setCell ⟨g, 0, none⟩ (.int .i64 u)).heap[g]? = some (ouB u H k v1 v2 v3 v4) := by
  unfold ouB at h
  rw [heap_setCell_same _ _ _ _ _ _ h]
  simp [ouB]
theorem ouB_set1 (u : Int) (h : w.heap[g]? = some (ouB W H k v1 v2 v3 v4)) : (w.setCell ⟨g, 1, none⟩ (.int .i64 u)).heap[g]? = some (ouB W u k v1 v2 v3 v4) := by
  unfold ouB at h
  rw [heap_setCell_same _ _ _ _ _ _ h]
  simp [ouB]
theorem ouB_set6 (u : Value) (h : w.heap[g]? = some (ouB W H k v1 v2 v3 v4)) : (w.setCell ⟨g, 6, none⟩ u).heap[g]? = some (ouB W H k u v2 v3 v4) := by
  unfold ouB at h
  rw [heap_setCell_same _ _ _ _ _ _ h]
  simp [ouB]
theorem ouB_set7 (u : Value) (h : w.heap[g]? = some (ouB W H k v1 v2 v3 v4)) : (w.setCell ⟨g, 7, none⟩ u).heap[g]? = some (ouB W H k v1 u v3 v4) := by
  unfold ouB at h
  rw [heap_setCell_same _ _ _ _ _ _ h]
  simp [ouB]
theorem ouB_set8 (u : Value) (h : w.heap[g]? = some (ouB W H k v1 v2 v3 v4)) : (w.setCell ⟨g, 8, none⟩ u).heap[g]? = some (ouB W H k v1 v2 u v4) := by
  unfold ouB at h
  rw [heap_setCell_same _ _ _ _ _ _ h]
  simp [ouB]
theorem ouB_set9 (u : Value) (h : w.heap[g]? = some (ouB W H k v1 v2 v3 v4)) : (w.setCell ⟨g, 9, none⟩ u).heap[g]? = some (ouB W H k v1 v2 v3 u) := by
  unfold ouB at h
  rw [heap_setCell_same _ _ _ _ _ _ h]
  simp [ouB]
theorem ouB_other {g2 o : Nat} (u : Value) (h : w.heap[g]? = some (ouB W H k v1 v2 v3 v4)) (hne : g ≠ g2) : (w.setCell ⟨g2, o, none⟩ u).heap[g]? = some (ouB W H k v1 v2 v3 v4) := by
  rw [heap_setCell_other _ _ _ _ (by simpa using hne)]
  exact h
end
end Go.Proofs.YtfmmfaeognoleaaGreat
