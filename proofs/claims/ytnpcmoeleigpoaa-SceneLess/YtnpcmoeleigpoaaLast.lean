/-
  The contracts of pointsRight, tooMany and checkLast.
-/
import Derived.Test.YtnpcmoeleigpoaaPts
namespace Go.Proofs.Ytnpcmoeleigpoaa
open Go.RowKit
attribute [local go_sem ↓] Go.wp_at_zero Go.wp_at_succ

theorem ptsB_eq (s : Sc) (d : Dr) : ptsB s.p d = (inB d.id 0 9999 && (inB d.prog 0 (s.ps.length - 1) && (texB s.p d && d.tris.all (triB s.vs.length)))) := by
  unfold ptsB Sc.p
  simp
set_option maxRecDepth 100000 in
set_option maxHeartbeats 4000000 in
theorem pts_any (s : Sc) (l : Lo Dr) (w : World) (ha : s.at w w.heap.size) (hok : s.ok) (hf : s.few) (hl : l.x.tris.length ≤ 1000) (he : Es ER w w.heap.size l.A l.x.tris) :
    Calls Try.prog 49 #[.agg #[.int .i64 s.w, .int .i64 s.h, .int .u8 s.k.r, .int .u8 s.k.g, .int .u8 s.k.b, .int .u8 s.k.a, .slice s.vA s.vs.length s.vc, .slice s.tA s.ts.length s.tc, .slice s.pA s.ps.length s.pc, .slice s.dA s.ds.length s.dc], .agg #[.int .i64 l.x.id, .int .i64 l.x.prog, .int .i64 l.x.tex, .bool l.x.op, .slice l.A l.x.tris.length l.c]] w fun e w' => e = .returned (.bool (ptsB s.p l.x)) ∧ Below w.heap.size w w' := by
  have hmf := mk_func
  have HK := Lib.hid (bstep (new_below w (.cells #[.int .i64 s.w, .int .i64 s.h, .int .u8 s.k.r, .int .u8 s.k.g, .int .u8 s.k.b, .int .u8 s.k.a, .slice s.vA s.vs.length s.vc, .slice s.tA s.ts.length s.tc, .slice s.pA s.ps.length s.pc, .slice s.dA s.ds.length s.dc] 29)) (by simp) (new_below _ (.cells #[.int .i64 l.x.id, .int .i64 l.x.prog, .int .i64 l.x.tex, .bool l.x.op, .slice l.A l.x.tris.length l.c] 42)))
  have HG := Lib.hid (show ((w.alloc (.cells #[.int .i64 s.w, .int .i64 s.h, .int .u8 s.k.r, .int .u8 s.k.g, .int .u8 s.k.b, .int .u8 s.k.a, .slice s.vA s.vs.length s.vc, .slice s.tA s.ts.length s.tc, .slice s.pA s.ps.length s.pc, .slice s.dA s.ds.length s.dc] 29)).alloc (.cells #[.int .i64 l.x.id, .int .i64 l.x.prog, .int .i64 l.x.tex, .bool l.x.op, .slice l.A l.x.tris.length l.c] 42)).heap[w.heap.size]? = some (scB s) from new_at20 _ _ _)
  have HD := Lib.hid (show ((w.alloc (.cells #[.int .i64 s.w, .int .i64 s.h, .int .u8 s.k.r, .int .u8 s.k.g, .int .u8 s.k.b, .int .u8 s.k.a, .slice s.vA s.vs.length s.vc, .slice s.tA s.ts.length s.tc, .slice s.pA s.ps.length s.pc, .slice s.dA s.ds.length s.dc] 29)).alloc (.cells #[.int .i64 l.x.id, .int .i64 l.x.prog, .int .i64 l.x.tex, .bool l.x.op, .slice l.A l.x.tris.length l.c] 42)).heap[w.heap.size + 1]? = some (drB l) from new_at2 _ _ _)
  have H1 := Lib.hid (isId_any l.x.id)
  have H2 := Lib.hid (isPlace66 l.x.prog s.pA s.ps.length s.pc hf.ps)
  have H3 := Lib.hid (fun W (hb : Below w.heap.size w W) (h0 : 0 ≤ l.x.prog) (h1 : l.x.prog ≤ s.ps.length - 1) => texRight_any s l W ((ha.below hb).sharp) hok hf h0 h1)
  have H4 := Lib.hid (fun W (hb : Below w.heap.size w W) (hg : W.heap[w.heap.size]? = some (scB s)) => all68_any (triB s.vs.length) 61 #[.pointer (some ⟨w.heap.size, 0, none⟩)] enters61 l.x.tris l.A l.c hl W ((he.below hb).sharp) (fun t _ W2 h2 => triRight_any s w.heap.size t hf.vs W2 (scB_keep hg h2 (scB_lt hg))))
  rw [ptsB_eq]
  have hr2 : inB l.x.prog 0 (s.ps.length - 1) = true → 0 ≤ l.x.prog ∧ l.x.prog ≤ s.ps.length - 1 := fun h => by unfold inB at h; exact of_decide_eq_true h
  replace hr2 := Lib.hid hr2
  generalize l.x.tris.all (triB s.vs.length) = r4 at *
  generalize texB s.p l.x = r3 at *
  clear ha hok hf hl he
  cases h1 : inB l.x.id 0 9999
  · rw [h1] at H1
    clear h1 H2 H3 H4 hr2
    go_enter Try.func49, Try.ntmps49
    go_wp2_with fail
    with_reducible refine (H1.out _).mono ?_
    rintro e w2 ⟨rfl, rfl⟩
    go_wp2
    go_ret
    exact ⟨rfl, HK.out⟩
  rw [h1] at H1
  clear h1
  cases h2 : inB l.x.prog 0 (s.ps.length - 1)
  · rw [h2] at H2
    clear h2 H3 H4 hr2
    go_enter Try.func49, Try.ntmps49
    go_wp2_with fail
    with_reducible refine (H1.out _).mono ?_
    rintro e w2 ⟨rfl, rfl⟩
    go_wp2_with fail
    with_reducible refine (H2.out _).mono ?_
    rintro e w2 ⟨rfl, rfl⟩
    go_wp2
    go_ret
    exact ⟨rfl, HK.out⟩
  rw [h2] at H2
  obtain ⟨b0, b1⟩ := hr2.out h2
  have H3' := Lib.hid (fun W hW => H3.out W hW b0 b1)
  clear h2 H3 hr2 b0 b1
  go_enter Try.func49, Try.ntmps49
  go_wp2_with fail
  with_reducible refine (H1.out _).mono ?_
  rintro e w2 ⟨rfl, rfl⟩
  go_wp2_with fail
  with_reducible refine (H2.out _).mono ?_
  rintro e w2 ⟨rfl, rfl⟩
  go_wp2_with fail
  with_reducible refine (H3'.out _ HK.out).mono ?_
  rintro e w2 ⟨rfl, hb⟩
  have B2 := Lib.hid (bstep HK.out HK.out.size hb)
  have G2 := Lib.hid (scB_keep HG.out hb (scB_lt HG.out))
  have hd : w2.heap[w.heap.size + 1]? = some (drB l) := (hb.block _ (drB_lt HD.out)).trans HD.out
  obtain ⟨-, -, -, -, c4⟩ := drB_cell hd
  have hlt := drB_lt hd
  clear hb hd
  cases r3
  · go_wp2
    go_ret
    exact ⟨rfl, B2.out⟩
  · go_wp2_with fail
    with_reducible refine (H4.out _ B2.out G2.out).mono ?_
    rintro e w3 ⟨rfl, hb⟩
    have B3 := Lib.hid (bstep B2.out B2.out.size hb)
    clear hb
    go_wp2
    go_ret
    exact ⟨by simp, B3.out⟩
set_option maxRecDepth 100000 in
set_option maxHeartbeats 4000000 in
theorem tooMany_any (s : Sc) (w : World) (ha : s.at w w.heap.size) :
    Calls Try.prog 25 #[.agg #[.int .i64 s.w, .int .i64 s.h, .int .u8 s.k.r, .int .u8 s.k.g, .int .u8 s.k.b, .int .u8 s.k.a, .slice s.vA s.vs.length s.vc, .slice s.tA s.ts.length s.tc, .slice s.pA s.ps.length s.pc, .slice s.dA s.ds.length s.dc]] w fun e w' => e = .returned (.bool (manyB s.p)) ∧ Below w.heap.size w w' := by
  have HK := Lib.hid (new_below w (.cells #[.int .i64 s.w, .int .i64 s.h, .int .u8 s.k.r, .int .u8 s.k.g, .int .u8 s.k.b, .int .u8 s.k.a, .slice s.vA s.vs.length s.vc, .slice s.tA s.ts.length s.tc, .slice s.pA s.ps.length s.pc, .slice s.dA s.ds.length s.dc] 29))
  have HF := Lib.hid (show ∀ W, Below w.heap.size w W → s.ds.length ≤ 8 → Calls Try.prog 43 #[.slice s.dA s.ds.length s.dc, .func (.func 44) #[] #[]] W fun e w' => e = .returned (.bool (s.ds.all fun l => decide (l.x.tris.length ≤ 32))) ∧ Below W.heap.size W w' from
    fun W hb h8 => all43_any (fun l => decide (l.x.tris.length ≤ 32)) 44 #[] (fun args w => by go_simp) s.ds s.dA s.dc (by omega) W ((ha.d.below hb).sharp) (fun x _ W2 _ => fewTris_any x W2))
  have e : manyB s.p = (decide (64 < s.vs.length) || (decide (4 < s.ts.length) || (decide (4 < s.ps.length) || (decide (8 < s.ds.length) || !(s.ds.all fun l => decide (l.x.tris.length ≤ 32)))))) := by
    unfold manyB Sc.p
    simp [Function.comp_def]
  rw [e]
  generalize (s.ds.all fun l => decide (l.x.tris.length ≤ 32)) = r at *
  generalize s.vs.length = a at *
  generalize s.ts.length = b at *
  generalize s.ps.length = c at *
  generalize s.ds.length = d at *
  clear ha e
  by_cases h1 : 64 < a
  · have k1 : (64 : Int) < a := by omega
    have e1 : decide (64 < a) = true := by simp [h1]
    rw [e1]
    clear e1 h1
    go_enter Try.func25, Try.ntmps25
    go_wp2
    go_ret
    exact ⟨rfl, HK.out⟩
  have k1 : ¬ (64 : Int) < a := by omega
  have e1 : decide (64 < a) = false := by simp; omega
  rw [e1]
  clear e1 h1
  by_cases h2 : 4 < b
  · have k2 : (4 : Int) < b := by omega
    have e2 : decide (4 < b) = true := by simp [h2]
    rw [e2]
    clear e2 h2
    go_enter Try.func25, Try.ntmps25
    go_wp2
    go_ret
    exact ⟨rfl, HK.out⟩
  have k2 : ¬ (4 : Int) < b := by omega
  have e2 : decide (4 < b) = false := by simp; omega
  rw [e2]
  clear e2 h2
  by_cases h3 : 4 < c
  · have k3 : (4 : Int) < c := by omega
    have e3 : decide (4 < c) = true := by simp [h3]
    rw [e3]
    clear e3 h3
    go_enter Try.func25, Try.ntmps25
    go_wp2
    go_ret
    exact ⟨rfl, HK.out⟩
  have k3 : ¬ (4 : Int) < c := by omega
  have e3 : decide (4 < c) = false := by simp; omega
  rw [e3]
  clear e3 h3
  by_cases h4 : 8 < d
  · have k4 : (8 : Int) < d := by omega
    have e4 : decide (8 < d) = true := by simp [h4]
    rw [e4]
    clear e4 h4
    go_enter Try.func25, Try.ntmps25
    go_wp2
    go_ret
    exact ⟨rfl, HK.out⟩
  have k4 : ¬ (8 : Int) < d := by omega
  have e4 : decide (8 < d) = false := by simp; omega
  have HF' := Lib.hid (fun W hW => HF.out W hW (by omega))
  rw [e4]
  clear e4 h4 HF
  go_enter Try.func25, Try.ntmps25
  go_wp2_with fail
  with_reducible refine (HF'.out _ HK.out).mono ?_
  rintro e w3 ⟨rfl, hb⟩
  have B3 := Lib.hid (bstep HK.out HK.out.size hb)
  clear hb
  go_wp2
  go_ret
  exact ⟨by simp, B3.out⟩
set_option maxRecDepth 100000 in
set_option maxHeartbeats 4000000 in
/-- Of some draws, of which those ahead of the last are right. -/
theorem checkLast_any (s : Sc) (A : Option Addr) (c : Nat) (pre : List (Lo Dr)) (l : Lo Dr) (w : World) (ha : s.at w w.heap.size) (hok : s.ok) (hf : s.few)
    (hn : pre.length ≤ 999) (hp : ∀ x ∈ pre ++ [l], I64 x.x.id) (ho : ∀ t ∈ l.x.tris, I64 t.i) (hl : l.x.tris.length ≤ 1000) (he : Es ER w w.heap.size l.A l.x.tris) (hA : Es ED w w.heap.size A (pre ++ [l])) (hnd : (pre.map fun x => x.x.id).Nodup) :
    Calls Try.prog 32 #[.agg #[.int .i64 s.w, .int .i64 s.h, .int .u8 s.k.r, .int .u8 s.k.g, .int .u8 s.k.b, .int .u8 s.k.a, .slice s.vA s.vs.length s.vc, .slice s.tA s.ts.length s.tc, .slice s.pA s.ps.length s.pc, .slice s.dA s.ds.length s.dc], .slice A (pre.length + 1) c] w fun e w' => e = .returned (.int .i64 (drawE s.p (pre.map Lo.x) l.x)) ∧ Below w.heap.size w w' := by
  have HK := Lib.hid (fun o o' => bstep (new_below w o) (by simp) (new_below _ o'))
  have HP := Lib.hid (fun W (hb : Below w.heap.size w W) => pts_any s l W ((ha.below hb).sharp) hok hf hl ((he.below hb).sharp))
  have HT := Lib.hid (show ∀ W, Below w.heap.size w W → Calls Try.prog 50 #[.slice A (pre.length + 1) c, .func (.func 51) #[] #[]] W fun e w' => e = .returned (.bool (((pre.map Lo.x).map Dr.id).contains l.x.id)) ∧ Below W.heap.size W w' from fun W hb => by
    have h := twice50_any (pre ++ [l]) A c (by simp; omega) hp W ((hA.below hb).sharp)
    rw [List.length_append, List.map_append, List.map_singleton, twice_last hnd] at h
    rw [List.map_map]
    exact h)
  have HR := Lib.hid (fun W (hb : Below w.heap.size w W) => twice52_any l.x.tris l.A l.c hl ho W ((he.below hb).sharp))
  obtain ⟨b, off, rfl, hbB, hat⟩ := hA.at (k := pre.length) (u := l) (by simp)
  obtain ⟨c0, c1, c2, c3, c4⟩ := atD hat
  have hD : drawE s.p (pre.map Lo.x) l.x = if ptsB s.p l.x = false then 24 else if ((pre.map Lo.x).map Dr.id).contains l.x.id || twiceB (l.x.tris.map (fun x => x.i)) then 25 else 0 := rfl
  rw [hD]
  have hw : IntKind.i64.wrap ((pre.length : Int) + 1 - 1) = pre.length := by rw [IntKind.wrap_i64]; omega
  generalize ((pre.map Lo.x).map Dr.id).contains l.x.id = r2 at *
  generalize twiceB (l.x.tris.map (fun x => x.i)) = r3 at *
  generalize ptsB s.p l.x = r1 at *
  generalize pre.length = n at *
  have hsz : ED.size = 5 := rfl
  rw [hsz] at c0 c1 c2 c3 c4
  have hw2 : wrap64 (n : Int) = n := by unfold wrap64; omega
  clear ha hok hf hp ho hl he hA hnd hat hD hsz
  go_enter Try.func32, Try.ntmps32
  go_wp2_with fail
  with_reducible refine (HP.out _ (HK.out _ _)).mono ?_
  rintro e w2 ⟨rfl, hb⟩
  have B2 := Lib.hid (bstep (HK.out _ _) (HK.out _ _).size hb)
  have hd : w2.heap[w.heap.size + 1]? = some (drB l) := (hb.block _ (by simp)).trans (new_at2 _ _ _)
  obtain ⟨-, -, -, -, c5⟩ := drB_cell hd
  have hlt := drB_lt hd
  clear hb hd c0 c1 c2 c3 c4
  cases r1
  · go_wp2
    go_ret
    exact ⟨rfl, B2.out⟩
  go_wp2_with fail
  with_reducible refine (HT.out _ B2.out).mono ?_
  rintro e w3 ⟨rfl, hb⟩
  have B3 := Lib.hid (bstep B2.out B2.out.size hb)
  have c6 : w3.cell? ⟨w.heap.size + 1, 4, none⟩ = some (.slice l.A l.x.tris.length l.c) := (hb.cell hlt).trans c5
  have hlt2 : w.heap.size + 1 < w3.heap.size := Nat.lt_of_lt_of_le hlt hb.size
  clear hb c5
  cases r2
  · go_wp2_with fail
    with_reducible refine (HR.out _ B3.out).mono ?_
    rintro e w4 ⟨rfl, hb⟩
    have B4 := Lib.hid (bstep B3.out B3.out.size hb)
    clear hb
    cases r3
    · go_wp2
      go_ret
      exact ⟨rfl, B4.out⟩
    · go_wp2
      go_ret
      exact ⟨rfl, B4.out⟩
  · go_wp2
    go_ret
    exact ⟨rfl, B3.out⟩
end Go.Proofs.Ytnpcmoeleigpoaa
