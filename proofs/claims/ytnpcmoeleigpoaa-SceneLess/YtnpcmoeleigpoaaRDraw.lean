/-
  The contracts of the reference's mod, place, many and draw.
-/
import Derived.Test.YtnpcmoeleigpoaaScn
namespace Go.Proofs.Ytnpcmoeleigpoaa
open Go.RowKit
attribute [local go_sem ↓] Go.wp_at_zero Go.wp_at_succ

theorem place_any (n m : Int) (w : World) :
    Calls Try.prog 57 #[.int .i64 n, .int .i64 m] w fun e w' => e = .returned (.bool (inB n 0 (m - 1))) ∧ w = w' := by
  unfold inB
  by_cases h1 : 0 ≤ n
  · by_cases h2 : n < m
    · have e : decide (0 ≤ n ∧ n ≤ m - 1) = true := by simp; omega
      rw [e]
      go_enter Try.func57, Try.ntmps57
      go_wp2
      go_ret
      exact ⟨rfl, rfl⟩
    · have e : decide (0 ≤ n ∧ n ≤ m - 1) = false := by simp; omega
      rw [e]
      go_enter Try.func57, Try.ntmps57
      go_wp2
      go_ret
      exact ⟨rfl, rfl⟩
  · have e : decide (0 ≤ n ∧ n ≤ m - 1) = false := by simp [h1]
    rw [e]
    go_enter Try.func57, Try.ntmps57
    go_wp2
    go_ret
    exact ⟨rfl, rfl⟩
theorem draw_ways (s : Sc) (pre : List Dr) (d : Dr) :
    (¬ (0 ≤ d.id ∧ d.id ≤ 9999 ∧ 0 ≤ d.prog ∧ d.prog < s.ps.length ∧ -1 ≤ d.tex ∧ d.tex < s.ts.length) → drawE s.p pre d = 24)
    ∧ ((0 ≤ d.id ∧ d.id ≤ 9999 ∧ 0 ≤ d.prog ∧ d.prog < s.ps.length ∧ -1 ≤ d.tex ∧ d.tex < s.ts.length) →
      (((s.p.ps.getD d.prog.toNat []).any C.tex = true → d.tex = -1 → drawE s.p pre d = 24)
      ∧ (¬ ((s.p.ps.getD d.prog.toNat []).any C.tex = true ∧ d.tex = -1) →
        ((∀ (j : Nat) t, d.tris[j]? = some t → triB s.vs.length t = false → drawE s.p pre d = 24)
        ∧ ((∀ (j : Nat) t, d.tris[j]? = some t → triB s.vs.length t = true) →
          ((∀ (i : Nat) e, pre[i]? = some e → e.id = d.id → drawE s.p pre d = 25)
          ∧ ((∀ (i : Nat) e, pre[i]? = some e → e.id ≠ d.id) →
            ((∀ (i j : Nat) t u, j < i → d.tris[i]? = some t → d.tris[j]? = some u → t.i = u.i → drawE s.p pre d = 25)
            ∧ ((∀ (i j : Nat) t u, j < i → d.tris[i]? = some t → d.tris[j]? = some u → t.i ≠ u.i) → drawE s.p pre d = 0))))))))) := by
  have hb : drawE s.p pre d = if ptsB s.p d = false then 24 else if (pre.map Dr.id).contains d.id || twiceB (d.tris.map Tr.i) then 25 else 0 := rfl
  have hp := ptsB_eq s d
  have ht : texB s.p d = if d.tex = -1 then !((s.p.ps.getD d.prog.toNat []).any C.tex) else inB d.tex 0 (s.ts.length - 1) := by
    unfold texB
    rw [show s.p.ts.length = s.ts.length from by show (s.ts.map Lo.x).length = _; rw [List.length_map]]
  refine ⟨fun h => ?_, fun h => ⟨fun h1 h2 => ?_, fun h1 => ⟨fun j t hj h2 => ?_, fun h2 => ?_⟩⟩⟩
  · have : ptsB s.p d = false := by
      rw [hp, ht]
      unfold inB
      by_cases a : 0 ≤ d.id ∧ d.id ≤ 9999
      · by_cases b : 0 ≤ d.prog ∧ d.prog ≤ s.ps.length - 1
        · have c : ¬ d.tex = -1 := by omega
          have e : ¬ (0 ≤ d.tex ∧ d.tex ≤ s.ts.length - 1) := by omega
          rw [if_neg c, decide_eq_false e]
          simp
        · rw [decide_eq_false b]
          simp
      · rw [decide_eq_false a]
        simp
    rw [hb, if_pos this]
  · have : ptsB s.p d = false := by
      rw [hp, ht, if_pos h2, h1]
      simp
    rw [hb, if_pos this]
  · have : ptsB s.p d = false := by
      rw [hp, all_no hj h2]
      simp
    rw [hb, if_pos this]
  · have hpt : ptsB s.p d = true := by
      rw [hp, ht, all_yes h2]
      have a : inB d.id 0 9999 = true := by unfold inB; simp; omega
      have b : inB d.prog 0 (s.ps.length - 1) = true := by unfold inB; simp; omega
      rw [a, b]
      by_cases c : d.tex = -1
      · rw [if_pos c]
        have : (s.p.ps.getD d.prog.toNat []).any C.tex = false := by
          cases e : (s.p.ps.getD d.prog.toNat []).any C.tex
          · rfl
          · exact absurd ⟨e, c⟩ h1
        rw [this]
        simp
      · rw [if_neg c]
        have : inB d.tex 0 (s.ts.length - 1) = true := by unfold inB; simp; omega
        rw [this]
        simp
    have hb2 : drawE s.p pre d = if (pre.map Dr.id).contains d.id || twiceB (d.tris.map Tr.i) then 25 else 0 := by rw [hb, if_neg (by rw [hpt]; simp)]
    rw [hb2, List.contains_eq_mem]
    refine ⟨fun i e hi he => ?_, fun h3 => ⟨fun i j t u hij hi hj he => ?_, fun h4 => ?_⟩⟩
    · have : d.id ∈ pre.map Dr.id := List.mem_map.2 ⟨e, List.mem_of_getElem? hi, he⟩
      simp [this]
    · have : twiceB (d.tris.map Tr.i) = true := by
        cases h : twiceB (d.tris.map Tr.i)
        · exact (nodup_apart (twiceB_no.1 h) (x := t.i) hij (by rw [List.getElem?_map, hj, he]; rfl) (by rw [List.getElem?_map, hi]; rfl)).elim
        · rfl
      simp [this]
    · have h5 : d.id ∉ pre.map Dr.id := fun hm => by
        obtain ⟨e, he, hid⟩ := List.mem_map.1 hm
        obtain ⟨i, hi⟩ := List.mem_iff_getElem?.1 he
        exact h3 i e hi hid
      have h6 : twiceB (d.tris.map Tr.i) = false := twiceB_no.2 (List.pairwise_iff_getElem.2 fun i j hi hj hij e => by
        simp only [List.length_map] at hi hj
        rw [List.getElem_map, List.getElem_map] at e
        exact h4 j i _ _ hij (List.getElem?_eq_getElem hj) (List.getElem?_eq_getElem hi) e.symm)
      simp [h5, h6]
set_option maxRecDepth 100000 in
set_option maxHeartbeats 4000000 in
theorem many_any (s : Sc) (w : World) (ha : s.at w w.heap.size) (hf : s.few) :
    Calls Try.prog 34 #[.agg #[.int .i64 s.w, .int .i64 s.h, .int .u8 s.k.r, .int .u8 s.k.g, .int .u8 s.k.b, .int .u8 s.k.a, .slice s.vA s.vs.length s.vc, .slice s.tA s.ts.length s.tc, .slice s.pA s.ps.length s.pc, .slice s.dA s.ds.length s.dc]] w fun e w' => e = .returned (.bool (manyB s.p)) ∧ Below w.heap.size w w' := by
  have HK := Lib.hid (new_below w (.cells #[.int .i64 s.w, .int .i64 s.h, .int .u8 s.k.r, .int .u8 s.k.g, .int .u8 s.k.b, .int .u8 s.k.a, .slice s.vA s.vs.length s.vc, .slice s.tA s.ts.length s.tc, .slice s.pA s.ps.length s.pc, .slice s.dA s.ds.length s.dc] 29))
  have HG0 := Lib.hid (show (w.alloc (.cells #[.int .i64 s.w, .int .i64 s.h, .int .u8 s.k.r, .int .u8 s.k.g, .int .u8 s.k.b, .int .u8 s.k.a, .slice s.vA s.vs.length s.vc, .slice s.tA s.ts.length s.tc, .slice s.pA s.ps.length s.pc, .slice s.dA s.ds.length s.dc] 29)).heap[w.heap.size]? = some (scB s) from heap_alloc_new _ _)
  have e : manyB s.p = (decide (64 < s.vs.length) || (decide (4 < s.ts.length) || (decide (4 < s.ps.length) || (decide (8 < s.ds.length) || !(s.ds.all fun l => decide (l.x.tris.length ≤ 32)))))) := by
    unfold manyB Sc.p
    simp [Function.comp_def]
  have HNo := Lib.hid (fun (j : Nat) (u : Lo Dr) (h : s.ds[j]? = some u) (hr : 32 < u.x.tris.length) => show manyB s.p = true by
    rw [e, all_no (f := fun l : Lo Dr => decide (l.x.tris.length ≤ 32)) h (by simp; omega)]; simp)
  have HYes := Lib.hid (fun (h : ∀ (i : Nat) (x : Lo Dr), s.ds[i]? = some x → x.x.tris.length ≤ 32) => show manyB s.p = (decide (64 < s.vs.length) || (decide (4 < s.ts.length) || (decide (4 < s.ps.length) || decide (8 < s.ds.length)))) by
    rw [e, all_yes (f := fun l : Lo Dr => decide (l.x.tris.length ≤ 32)) (fun i x hx => by simpa using h i x hx)]; simp)
  have HS := Lib.hid (fun (j : Nat) (u : Lo Dr) (hu : s.ds[j]? = some u) => ha.d.at hu)
  have HL := Lib.hid (fun (k : Nat) (h : k < s.ds.length) => get_lt (l := s.ds) h)
  have hds := hf.ds
  generalize manyB s.p = R at *
  obtain ⟨dA, hdA⟩ : ∃ a, s.dA = a := ⟨_, rfl⟩
  obtain ⟨n, hn⟩ : ∃ n, s.ds.length = n := ⟨_, rfl⟩
  rw [hdA] at HK HG0 HS ⊢
  rw [hn] at HK HG0 HL HYes hds ⊢
  have hn2 : ∀ (i : Nat) (x : Lo Dr), s.ds[i]? = some x → i < n := fun i x hx => by rw [← hn]; exact (List.getElem?_eq_some_iff.1 hx).1
  replace hn2 := Lib.hid hn2
  replace hn := Lib.hid hn
  replace hdA := Lib.hid hdA
  clear ha hf e
  go_enter Try.func34, Try.ntmps34
  go_wp2_with fail
  go_loopw [3] (fun i wr => ∃ j : Nat, j ≤ n ∧ i = .int .i64 j ∧ (∀ (i : Nat) (x : Lo Dr), i < j → s.ds[i]? = some x → x.x.tris.length ≤ 32) ∧ Below w.heap.size w wr ∧ wr.heap[w.heap.size]? = some (scB s)) (fun i _ => n - (intOf i).toNat)
  case atStart => exact ⟨0, Nat.zero_le _, rfl, fun i x h => absurd h (Nat.not_lt_zero _), HK.out, HG0.out⟩
  case round =>
    obtain ⟨j, hk, rfl, hin, hb, hg⟩ := hrel
    have HB := Lib.hid hb
    have HI := Lib.hid hin
    have HG := Lib.hid hg
    clear hin hb hg
    obtain ⟨c0, c1, c2, c3, c4, c5, c6, c7, c8, c9⟩ := scB_cell HG.out
    rw [hn.out, hdA.out] at c9
    have hg := scB_lt HG.out
    by_cases hlt : j < n
    · obtain ⟨u, hu⟩ := HL.out j hlt
      obtain ⟨b, off, rfl, hbB, hat⟩ := HS.out j u hu
      obtain ⟨-, -, -, -, d4⟩ := atD (show AtE ED wr b (off + j * 5) u from hat.below HB.out hbB)
      have hbw := Nat.lt_of_lt_of_le hbB HB.out.size
      replace hu := Lib.hid hu
      clear hat
      obtain ⟨m, hm⟩ : ∃ m, u.x.tris.length = m := ⟨_, rfl⟩
      rw [hm] at d4
      replace hm := Lib.hid hm
      by_cases h32 : 32 < m
      · have k1 : (32 : Int) < m := by omega
        obtain rfl : R = true := HNo.out j u hu.out (by rw [hm.out]; exact h32)
        clear h32
        go_wp2_with fail
        go_ret
        exact ⟨rfl, HB.out⟩
      · have k1 : ¬ (32 : Int) < m := by omega
        clear h32
        go_wp2_with fail
        go_roundw
        case rel =>
          refine ⟨j + 1, by omega, by go_num, fun i x hi hx => ?_, HB.out, HG.out⟩
          rcases Nat.lt_or_ge i j with h | h
          · exact HI.out i x h hx
          · obtain rfl : i = j := by omega
            have h5 := hu.out
            rw [hx] at h5
            cases h5
            rw [hm.out]
            omega
        case measure => simp [intOf]; omega
    · obtain rfl : j = n := by omega
      have hR := HYes.out fun i x hx => HI.out i x (hn2.out i x hx) hx
      generalize s.vs.length = a at *
      generalize s.ts.length = b at *
      generalize s.ps.length = c at *
      replace hR := Lib.hid hR
      clear HNo HYes hlt
      by_cases h0 : 64 < a
      · have k0 : (64 : Int) < a := by omega
        obtain rfl : R = true := by rw [hR.out]; simp [h0]
        clear h0
        go_wp2
        go_ret
        exact ⟨rfl, HB.out⟩
      have k0 : ¬ (64 : Int) < a := by omega
      by_cases h1 : 4 < b
      · have k1 : (4 : Int) < b := by omega
        obtain rfl : R = true := by rw [hR.out]; simp [h1]
        clear h1
        go_wp2
        go_ret
        exact ⟨rfl, HB.out⟩
      have k1 : ¬ (4 : Int) < b := by omega
      by_cases h2 : 4 < c
      · have k2 : (4 : Int) < c := by omega
        obtain rfl : R = true := by rw [hR.out]; simp [h2]
        clear h2
        go_wp2
        go_ret
        exact ⟨rfl, HB.out⟩
      have k2 : ¬ (4 : Int) < c := by omega
      by_cases h3 : 8 < j
      · have k3 : (8 : Int) < j := by omega
        obtain rfl : R = true := by rw [hR.out]; simp [h3]
        clear h3
        go_wp2
        go_ret
        exact ⟨rfl, HB.out⟩
      have k3 : ¬ (8 : Int) < j := by omega
      obtain rfl : R = false := by rw [hR.out]; simp; omega
      clear h0 h1 h2 h3
      go_wp2
      go_ret
      exact ⟨rfl, HB.out⟩
end Go.Proofs.Ytnpcmoeleigpoaa
