/-
  Whether two scenes are the same (glazierref14.Same).
-/
import Derived.Test.YtfmmfaeognoleaaGreatM13
import Derived.Test.YtfmmfaeognoleaaGreatM10
import Derived.Test.YtfmmfaeognoleaaGreatM12
import Derived.Laws.BitsAllLaws
import Derived.Test.YtfmmfaeognoleaaGreatNmS
import Derived.Test.YtfmmfaeognoleaaGreatRByB
import Derived.Test.YtfmmfaeognoleaaGreatM5
namespace Go.Proofs.YtfmmfaeognoleaaGreat
open Go.RowKit
attribute [local go_sem ↓] Go.wp_at_zero Go.wp_at_succ
attribute [local go_sem high] neqC0
attribute [local go_sem] guardC0

theorem nat_bne {a b : Nat} (h : a = b) : ((a : Int) != b) = false := by subst h; simp
theorem nat_bne2 {a b : Nat} (h : a ≠ b) : ((a : Int) != b) = true := by simp; omega
theorem lo_take {α : Type} {xs ys : List (Lo α)} {k : Nat} {u t : Lo α} (hu : xs[k]? = some u) (ht : ys[k]? = some t) (h : (xs.take k).map Lo.x = (ys.take k).map Lo.x) (e : u.x = t.x) : (xs.take (k + 1)).map Lo.x = (ys.take (k + 1)).map Lo.x := by
  rw [take_snoc hu, take_snoc ht, List.map_append, List.map_append, h, List.map_cons, List.map_cons, e]
theorem lo_ne {α : Type} {xs ys : List (Lo α)} {k : Nat} {u t : Lo α} (hu : xs[k]? = some u) (ht : ys[k]? = some t) (e : u.x ≠ t.x) : xs.map Lo.x ≠ ys.map Lo.x := fun h => by
  have h3 : (xs.map Lo.x)[k]? = (ys.map Lo.x)[k]? := by rw [h]
  rw [List.getElem?_map, List.getElem?_map, hu, ht] at h3
  exact e (by simpa using h3)
theorem exB {p : Prop} : ∃ b : Bool, b = true ↔ p := by
  by_cases h : p
  · exact ⟨true, by simp [h]⟩
  · exact ⟨false, by simp [h]⟩
set_option maxRecDepth 100000 in
set_option maxHeartbeats 8000000 in
theorem same_any (a b : Sc) (w : World) (ha : a.at w w.heap.size) (hb : b.at w w.heap.size) (fa : a.few) (r : Bool) (hr : r = true ↔ a.p = b.p) :
    Calls Tryz.prog 12 #[.agg #[.int .i64 a.w, .int .i64 a.h, .int .u8 a.k.r, .int .u8 a.k.g, .int .u8 a.k.b, .int .u8 a.k.a, .slice a.vA a.vs.length a.vc, .slice a.tA a.ts.length a.tc, .slice a.pA a.ps.length a.pc, .slice a.dA a.ds.length a.dc], .agg #[.int .i64 b.w, .int .i64 b.h, .int .u8 b.k.r, .int .u8 b.k.g, .int .u8 b.k.b, .int .u8 b.k.a, .slice b.vA b.vs.length b.vc, .slice b.tA b.ts.length b.tc, .slice b.pA b.ps.length b.pc, .slice b.dA b.ds.length b.dc]] w fun e w' => e = .returned (.bool r) ∧ Below w.heap.size w w' := by
  have hb0 := bstep (new_below w (.cells #[.int .i64 a.w, .int .i64 a.h, .int .u8 a.k.r, .int .u8 a.k.g, .int .u8 a.k.b, .int .u8 a.k.a, .slice a.vA a.vs.length a.vc, .slice a.tA a.ts.length a.tc, .slice a.pA a.ps.length a.pc, .slice a.dA a.ds.length a.dc] 29)) (by simp) (new_below (w.alloc (.cells #[.int .i64 a.w, .int .i64 a.h, .int .u8 a.k.r, .int .u8 a.k.g, .int .u8 a.k.b, .int .u8 a.k.a, .slice a.vA a.vs.length a.vc, .slice a.tA a.ts.length a.tc, .slice a.pA a.ps.length a.pc, .slice a.dA a.ds.length a.dc] 29)) (.cells #[.int .i64 b.w, .int .i64 b.h, .int .u8 b.k.r, .int .u8 b.k.g, .int .u8 b.k.b, .int .u8 b.k.a, .slice b.vA b.vs.length b.vc, .slice b.tA b.ts.length b.tc, .slice b.pA b.ps.length b.pc, .slice b.dA b.ds.length b.dc] 29))
  have HA0 := Lib.hid (show ((w.alloc (.cells #[.int .i64 a.w, .int .i64 a.h, .int .u8 a.k.r, .int .u8 a.k.g, .int .u8 a.k.b, .int .u8 a.k.a, .slice a.vA a.vs.length a.vc, .slice a.tA a.ts.length a.tc, .slice a.pA a.ps.length a.pc, .slice a.dA a.ds.length a.dc] 29)).alloc (.cells #[.int .i64 b.w, .int .i64 b.h, .int .u8 b.k.r, .int .u8 b.k.g, .int .u8 b.k.b, .int .u8 b.k.a, .slice b.vA b.vs.length b.vc, .slice b.tA b.ts.length b.tc, .slice b.pA b.ps.length b.pc, .slice b.dA b.ds.length b.dc] 29)).heap[w.heap.size]? = some (scB a) from (heap_alloc_old _ _ (by simp)).trans (heap_alloc_new _ _))
  have HC0 := Lib.hid (show ((w.alloc (.cells #[.int .i64 a.w, .int .i64 a.h, .int .u8 a.k.r, .int .u8 a.k.g, .int .u8 a.k.b, .int .u8 a.k.a, .slice a.vA a.vs.length a.vc, .slice a.tA a.ts.length a.tc, .slice a.pA a.ps.length a.pc, .slice a.dA a.ds.length a.dc] 29)).alloc (.cells #[.int .i64 b.w, .int .i64 b.h, .int .u8 b.k.r, .int .u8 b.k.g, .int .u8 b.k.b, .int .u8 b.k.a, .slice b.vA b.vs.length b.vc, .slice b.tA b.ts.length b.tc, .slice b.pA b.ps.length b.pc, .slice b.dA b.ds.length b.dc] 29)).heap[w.heap.size + 1]? = some (scB b) from by have h := heap_alloc_new (w.alloc (.cells #[.int .i64 a.w, .int .i64 a.h, .int .u8 a.k.r, .int .u8 a.k.g, .int .u8 a.k.b, .int .u8 a.k.a, .slice a.vA a.vs.length a.vc, .slice a.tA a.ts.length a.tc, .slice a.pA a.ps.length a.pc, .slice a.dA a.ds.length a.dc] 29)) (.cells #[.int .i64 b.w, .int .i64 b.h, .int .u8 b.k.r, .int .u8 b.k.g, .int .u8 b.k.b, .int .u8 b.k.a, .slice b.vA b.vs.length b.vc, .slice b.tA b.ts.length b.tc, .slice b.pA b.ps.length b.pc, .slice b.dA b.ds.length b.dc] 29); rwa [World.size_alloc] at h)
  have HB0 := Lib.hid hb0
  have HEA := Lib.hid ha
  have HEB := Lib.hid hb
  have HFA := Lib.hid fa
  have HBad := Lib.hid (show a.p ≠ b.p → r = false from fun h => by
    cases r
    · rfl
    · exact absurd (hr.1 rfl) h)
  have HGood := Lib.hid (show a.w = b.w → a.h = b.h → a.k = b.k → a.vs = b.vs → a.ds.map Lo.x = b.ds.map Lo.x → a.ts.map Lo.x = b.ts.map Lo.x → a.ps.map Lo.x = b.ps.map Lo.x → r = true from fun h1 h2 h3 h4 h5 h6 h7 => hr.2 (by
    show (⟨_, _, _, _, _, _, _⟩ : PS) = ⟨_, _, _, _, _, _, _⟩
    rw [h1, h2, h3, h4, h5, h6, h7]))
  obtain ⟨r1, hr1⟩ := exB (p := a.vs = b.vs)
  obtain ⟨r2, hr2⟩ := exB (p := a.ds.map Lo.x = b.ds.map Lo.x)
  have HR1 := Lib.hid hr1
  have HR2 := Lib.hid hr2
  clear ha hb fa hr hb0 hr1 hr2
  go_enter Tryz.func12, Tryz.ntmps12
  go_upto_region 1 with fail
  obtain ⟨t, ht⟩ : ∃ t, (w.alloc (.cells #[.int .i64 a.w, .int .i64 a.h, .int .u8 a.k.r, .int .u8 a.k.g, .int .u8 a.k.b, .int .u8 a.k.a, .slice a.vA a.vs.length a.vc, .slice a.tA a.ts.length a.tc, .slice a.pA a.ps.length a.pc, .slice a.dA a.ds.length a.dc] 29)).alloc (.cells #[.int .i64 b.w, .int .i64 b.h, .int .u8 b.k.r, .int .u8 b.k.g, .int .u8 b.k.b, .int .u8 b.k.a, .slice b.vA b.vs.length b.vc, .slice b.tA b.ts.length b.tc, .slice b.pA b.ps.length b.pc, .slice b.dA b.ds.length b.dc] 29) = t := ⟨_, rfl⟩
  rw [ht] at HA0 HC0 HB0
  rw [ht]
  clear ht
  have la := scB_lt HA0.out
  have lb := scB_lt HC0.out
  have H1 := Lib.hid (sameV_any a.vA b.vA a.vc b.vc a.vs b.vs t ((HEA.out.v.below HB0.out).sharp) ((HEB.out.v.below HB0.out).sharp) HFA.out.vs r1 HR1.out)
  obtain ⟨-, -, -, -, -, -, a6, -⟩ := scB_cell HA0.out
  obtain ⟨-, -, -, -, -, -, b6, -⟩ := scB_cell HC0.out
  go_wp2_with fail
  with_reducible refine (H1.out).mono ?_
  rintro e w1 ⟨rfl, hb1⟩
  have HA1 := Lib.hid (scB_keep HA0.out hb1 la)
  have HC1 := Lib.hid (scB_keep HC0.out hb1 lb)
  have HB1 := Lib.hid (bstep HB0.out HB0.out.size hb1)
  clear hb1 H1 a6 b6 HA0 HC0 HB0 la lb
  have la := scB_lt HA1.out
  have lb := scB_lt HC1.out
  have H2 := Lib.hid (draws_any a.dA b.dA a.dc b.dc a.ds b.ds w1 ((HEA.out.d.below HB1.out).sharp) ((HEB.out.d.below HB1.out).sharp) (fun l hl => ((HEA.out.dx l hl).below HB1.out).sharp) (fun l hl => ((HEB.out.dx l hl).below HB1.out).sharp) HFA.out.ds HFA.out.dx r2 HR2.out)
  obtain ⟨-, -, -, -, -, -, -, -, -, a9⟩ := scB_cell HA1.out
  obtain ⟨-, -, -, -, -, -, -, -, -, b9⟩ := scB_cell HC1.out
  go_wp2_with fail
  with_reducible refine (H2.out).mono ?_
  rintro e w2 ⟨rfl, hb2⟩
  have HA2 := Lib.hid (scB_keep HA1.out hb2 la)
  have HC2 := Lib.hid (scB_keep HC1.out hb2 lb)
  have HB2 := Lib.hid (bstep HB1.out HB1.out.size hb2)
  clear hb2 H2 a9 b9 HA1 HC1 HB1 la lb
  have la := scB_lt HA2.out
  have lb := scB_lt HC2.out
  obtain ⟨a0, a1, a2, a3, a4, a5, -, a7, a8, -⟩ := scB_cell HA2.out
  obtain ⟨b0, b1, b2, b3, b4, b5, -, b7, b8, -⟩ := scB_cell HC2.out
  obtain ⟨rk, hrk⟩ : ∃ x, sameC0 ⟨a.k.r, a.k.g, a.k.b, a.k.a⟩ ⟨b.k.r, b.k.g, b.k.b, b.k.a⟩ = x := ⟨_, rfl⟩
  have HRK := Lib.hid (show rk = true ↔ a.k = b.k from by rw [← hrk]; exact sameC_iff a.k b.k)
  by_cases e0 : a.w = b.w
  rotate_left
  · have d0 : (a.w != b.w) = true := by simpa using e0
    obtain rfl := HBad.out fun e => e0 (congrArg PS.w e)
    go_wp2_with fail
    go_ret
    exact ⟨rfl, HB2.out⟩
  have d0 : (a.w != b.w) = false := by simpa using e0
  by_cases e1 : a.h = b.h
  rotate_left
  · have d1 : (a.h != b.h) = true := by simpa using e1
    obtain rfl := HBad.out fun e => e1 (congrArg PS.h e)
    go_wp2_with fail
    go_ret
    exact ⟨rfl, HB2.out⟩
  have d1 : (a.h != b.h) = false := by simpa using e1
  cases rk
  · obtain rfl := HBad.out fun e => by have := HRK.out.2 (congrArg PS.k e); cases this
    go_wp2_with fail
    go_ret
    exact ⟨rfl, HB2.out⟩
  cases r1
  · obtain rfl := HBad.out fun e => by have := HR1.out.2 (congrArg PS.vs e); cases this
    go_wp2_with fail
    go_ret
    exact ⟨rfl, HB2.out⟩
  cases r2
  · obtain rfl := HBad.out fun e => by have := HR2.out.2 (congrArg PS.ds e); cases this
    go_wp2_with fail
    go_ret
    exact ⟨rfl, HB2.out⟩
  by_cases e5 : a.ts.length = b.ts.length
  rotate_left
  · have d5 := nat_bne2 e5
    obtain rfl := HBad.out fun e => e5 (by have := congrArg (fun p => p.ts.length) e; simpa [Sc.p] using this)
    go_wp2_with fail
    go_ret
    exact ⟨rfl, HB2.out⟩
  have d5 := nat_bne e5
  by_cases e6 : a.ps.length = b.ps.length
  rotate_left
  · have d6 := nat_bne2 e6
    obtain rfl := HBad.out fun e => e6 (by have := congrArg (fun p => p.ps.length) e; simpa [Sc.p] using this)
    go_wp2_with fail
    go_ret
    exact ⟨rfl, HB2.out⟩
  have d6 := nat_bne e6
  have HN5 := Lib.hid e5
  have HN6 := Lib.hid e6
  obtain ⟨n, hn⟩ : ∃ n, a.ts.length = n := ⟨_, rfl⟩
  obtain ⟨m, hm⟩ : ∃ m, a.ps.length = m := ⟨_, rfl⟩
  have hn' := e5.symm.trans hn
  have hm' := e6.symm.trans hm
  have hn3 : n ≤ 100000 := by rw [← hn]; exact HFA.out.ts
  have hm3 : m ≤ 100000 := by rw [← hm]; exact HFA.out.ps
  rw [hn, hn'] at d5
  rw [hm, hm'] at d6
  rw [hn] at a7
  rw [hn'] at b7
  rw [hm] at a8
  rw [hm'] at b8
  have HE0 := Lib.hid (And.intro e0 e1)
  clear e5 e6 e0 e1
  go_wp2_with fail
  clear d0 d1 d5 d6 a0 a1 a2 a3 a4 a5 a7 a8 b0 b1 b2 b3 b4 b5 b7 b8 hrk
  go_loopw [7] (fun i wr => ∃ k : Nat, k ≤ n ∧ i = .int .i64 k ∧ (a.ts.take k).map Lo.x = (b.ts.take k).map Lo.x ∧ Below w2.heap.size w2 wr) (fun i _ => n - (intOf i).toNat)
  case atStart => exact ⟨0, Nat.zero_le _, rfl, by simp, Below.refl _ _⟩
  case round =>
    obtain ⟨k, hk, rfl, hin, hbel⟩ := hrel
    have HK := Lib.hid hin
    have HBE := Lib.hid hbel
    clear hin hbel
    have HBw := Lib.hid (bstep HB2.out HB2.out.size HBE.out)
    have hsa : w.heap.size < wr.heap.size := Nat.lt_of_lt_of_le la HBE.out.size
    have hsb : w.heap.size + 1 < wr.heap.size := Nat.lt_of_lt_of_le lb HBE.out.size
    obtain ⟨-, -, -, -, -, -, -, ca, -⟩ := scB_cell (scB_keep HA2.out HBE.out la)
    obtain ⟨-, -, -, -, -, -, -, cb, -⟩ := scB_cell (scB_keep HC2.out HBE.out lb)
    rw [hn] at ca
    rw [hn'] at cb
    by_cases hlt : k < n
    · obtain ⟨u, hu⟩ := get_lt (l := a.ts) (k := k) (by rw [hn]; exact hlt)
      obtain ⟨t', ht'⟩ := get_lt (l := b.ts) (k := k) (by rw [hn']; exact hlt)
      obtain ⟨b1, off, hA1, hbB, hat⟩ := HEA.out.t.at hu
      obtain ⟨b2, off', hA2, hbB', hat'⟩ := HEB.out.t.at ht'
      have HU := Lib.hid hu
      have HT := Lib.hid ht'
      have HEu := Lib.hid ((HEA.out.tx u (List.mem_of_getElem? hu)).below HBw.out)
      have HEt := Lib.hid ((HEB.out.tx t' (List.mem_of_getElem? ht')).below HBw.out)
      have hul := HFA.out.tx u (List.mem_of_getElem? hu)
      rw [hA1] at ca
      rw [hA2] at cb
      replace hA1 := Lib.hid hA1
      replace hA2 := Lib.hid hA2
      obtain ⟨p0, p1, p2⟩ := atT (show AtE ET wr b1 (off + k * 3) u from hat.below HBw.out hbB)
      obtain ⟨q0, q1, q2⟩ := atT (show AtE ET wr b2 (off' + k * 3) t' from hat'.below HBw.out hbB')
      have hbw := Nat.lt_of_lt_of_le hbB HBw.out.size
      have hbw' := Nat.lt_of_lt_of_le hbB' HBw.out.size
      have y1 : ∀ x : Grow wr, x.w.cell? ⟨w.heap.size, 7, none⟩ = some (.slice (some ⟨b1, off, none⟩) n a.tc) := fun x => x.cell ca
      have y2 : ∀ x : Grow wr, x.w.cell? ⟨w.heap.size + 1, 7, none⟩ = some (.slice (some ⟨b2, off', none⟩) n b.tc) := fun x => x.cell cb
      have y3 : ∀ x : Grow wr, x.w.cell? ⟨b1, off + k * 3 + 2, none⟩ = some (.slice u.A u.x.px.length u.c) := fun x => x.cell p2
      have y4 : ∀ x : Grow wr, x.w.cell? ⟨b2, off' + k * 3 + 2, none⟩ = some (.slice t'.A t'.x.px.length t'.c) := fun x => x.cell q2
      have s1 : ∀ x : Grow wr, w.heap.size < x.w.heap.size := fun x => Nat.lt_of_lt_of_le hsa x.below.size
      have s2 : ∀ x : Grow wr, w.heap.size + 1 < x.w.heap.size := fun x => Nat.lt_of_lt_of_le hsb x.below.size
      have s3 : ∀ x : Grow wr, b1 < x.w.heap.size := fun x => Nat.lt_of_lt_of_le hbw x.below.size
      have s4 : ∀ x : Grow wr, b2 < x.w.heap.size := fun x => Nat.lt_of_lt_of_le hbw' x.below.size
      have ne1 := Grow.ne wr
      obtain ⟨r3, hr3⟩ := exB (p := u.x.px = t'.x.px)
      have H3 := Lib.hid (fun x : Grow wr => sameC_any u.A t'.A u.c t'.c u.x.px t'.x.px x.w ((HEu.out.more HBw.out.size).sharp.below (x.below.mono (Nat.le_refl _)) |>.sharp) ((HEt.out.more HBw.out.size).sharp.below x.below |>.sharp) hul r3 hr3)
      have HR3 := Lib.hid hr3
      clear hu ht' hat hat' hr3 hul
      go_wp2_with fail
      refine wp_region_grow (by kernel_rfl) (by kernel_rfl) ?_
      try simp only [List.append_eq, List.cons_append, List.nil_append]
      repeat (first | go_big_quiet_skip | go_big_quiet_step ((go_at_call 23; with_reducible exact Grow.calls (H3.out _))))
      refine wpQuiet_nil ?_
      rintro _ ⟨z, rfl⟩
      have HBY := Lib.hid (bstep HBE.out HBE.out.size z.below)
      have KY := Lib.hid z.below
      generalize z.w = Y at *
      clear z y1 y2 y3 y4 s1 s2 s3 s4 ne1 H3
      have y1 : ∀ x : Grow Y, x.w.cell? ⟨w.heap.size, 7, none⟩ = some (.slice (some ⟨b1, off, none⟩) n a.tc) := fun x => x.cell ((KY.out.cell (p := ⟨w.heap.size, 7, none⟩) hsa).trans ca)
      have y2 : ∀ x : Grow Y, x.w.cell? ⟨w.heap.size + 1, 7, none⟩ = some (.slice (some ⟨b2, off', none⟩) n b.tc) := fun x => x.cell ((KY.out.cell (p := ⟨w.heap.size + 1, 7, none⟩) hsb).trans cb)
      have y3 : ∀ x : Grow Y, x.w.cell? ⟨b1, off + k * 3, none⟩ = some (.int .i64 u.x.w) := fun x => x.cell ((KY.out.cell (p := ⟨b1, off + k * 3, none⟩) hbw).trans p0)
      have y4 : ∀ x : Grow Y, x.w.cell? ⟨b1, off + k * 3 + 1, none⟩ = some (.int .i64 u.x.h) := fun x => x.cell ((KY.out.cell (p := ⟨b1, off + k * 3 + 1, none⟩) hbw).trans p1)
      have y5 : ∀ x : Grow Y, x.w.cell? ⟨b2, off' + k * 3, none⟩ = some (.int .i64 t'.x.w) := fun x => x.cell ((KY.out.cell (p := ⟨b2, off' + k * 3, none⟩) hbw').trans q0)
      have y6 : ∀ x : Grow Y, x.w.cell? ⟨b2, off' + k * 3 + 1, none⟩ = some (.int .i64 t'.x.h) := fun x => x.cell ((KY.out.cell (p := ⟨b2, off' + k * 3 + 1, none⟩) hbw').trans q1)
      have s1 : ∀ x : Grow Y, w.heap.size < x.w.heap.size := fun x => Nat.lt_of_lt_of_le (Nat.lt_of_lt_of_le hsa KY.out.size) x.below.size
      have s2 : ∀ x : Grow Y, w.heap.size + 1 < x.w.heap.size := fun x => Nat.lt_of_lt_of_le (Nat.lt_of_lt_of_le hsb KY.out.size) x.below.size
      have s3 : ∀ x : Grow Y, b1 < x.w.heap.size := fun x => Nat.lt_of_lt_of_le (Nat.lt_of_lt_of_le hbw KY.out.size) x.below.size
      have s4 : ∀ x : Grow Y, b2 < x.w.heap.size := fun x => Nat.lt_of_lt_of_le (Nat.lt_of_lt_of_le hbw' KY.out.size) x.below.size
      have ne1 := Grow.ne Y
      have HBT := Lib.hid (show u.x ≠ t'.x → r = false from fun h => HBad.out fun e => lo_ne HU.out HT.out h (congrArg PS.ts e))
      clear p0 p1 p2 q0 q1 q2 ca cb
      cases r3
      · obtain rfl := HBT.out fun e => by have := HR3.out.2 (congrArg Tx.px e); cases this
        go_wp2_with fail
        refine wp_region_grow (by kernel_rfl) (by kernel_rfl) ?_
        try simp only [List.append_eq, List.cons_append, List.nil_append]
        repeat (first | go_big_quiet_skip | go_big_quiet_step (fail))
        refine wpQuiet_nil ?_
        rintro _ ⟨z, rfl⟩
        have B8 := Lib.hid (bstep HB2.out HB2.out.size (bstep HBY.out HBY.out.size z.below))
        generalize z.w = Z at *
        clear z
        go_wp2_with fail
        go_ret
        exact ⟨rfl, B8.out⟩
      by_cases w0 : u.x.w = t'.x.w
      rotate_left
      · have v0 : (u.x.w != t'.x.w) = true := by simpa using w0
        obtain rfl := HBT.out fun e => w0 (congrArg Tx.w e)
        go_wp2_with fail
        refine wp_region_grow (by kernel_rfl) (by kernel_rfl) ?_
        try simp only [List.append_eq, List.cons_append, List.nil_append]
        repeat (first | go_big_quiet_skip | go_big_quiet_step (fail))
        refine wpQuiet_nil ?_
        rintro _ ⟨z, rfl⟩
        have B8 := Lib.hid (bstep HB2.out HB2.out.size (bstep HBY.out HBY.out.size z.below))
        generalize z.w = Z at *
        clear z
        go_wp2_with fail
        go_ret
        exact ⟨rfl, B8.out⟩
      have v0 : (u.x.w != t'.x.w) = false := by simpa using w0
      by_cases w1' : u.x.h = t'.x.h
      rotate_left
      · have v1 : (u.x.h != t'.x.h) = true := by simpa using w1'
        obtain rfl := HBT.out fun e => w1' (congrArg Tx.h e)
        go_wp2_with fail
        refine wp_region_grow (by kernel_rfl) (by kernel_rfl) ?_
        try simp only [List.append_eq, List.cons_append, List.nil_append]
        repeat (first | go_big_quiet_skip | go_big_quiet_step (fail))
        refine wpQuiet_nil ?_
        rintro _ ⟨z, rfl⟩
        have B8 := Lib.hid (bstep HB2.out HB2.out.size (bstep HBY.out HBY.out.size z.below))
        generalize z.w = Z at *
        clear z
        go_wp2_with fail
        go_ret
        exact ⟨rfl, B8.out⟩
      have v1 : (u.x.h != t'.x.h) = false := by simpa using w1'
      have HXe := Lib.hid (show u.x = t'.x from by
        have h5 := HR3.out.1 rfl
        obtain ⟨⟨x1, x2, x3⟩, _, _⟩ := u
        obtain ⟨⟨z1, z2, z3⟩, _, _⟩ := t'
        simp only at w0 w1' h5 ⊢
        rw [w0, w1', h5])
      clear w0 w1'
      go_wp2_with fail
      refine wp_region_grow (by kernel_rfl) (by kernel_rfl) ?_
      try simp only [List.append_eq, List.cons_append, List.nil_append]
      repeat (first | go_big_quiet_skip | go_big_quiet_step (fail))
      refine wpQuiet_nil ?_
      rintro _ ⟨z, rfl⟩
      have B8 := Lib.hid (bstep HBY.out HBY.out.size z.below)
      generalize z.w = Z at *
      clear z
      go_wp2_with fail
      go_roundw
      case rel => exact ⟨k + 1, by omega, by go_num, lo_take HU.out HT.out HK.out HXe.out, B8.out⟩
      case measure => simp [intOf]; omega
    · obtain rfl : k = n := by omega
      have HTs := Lib.hid (show a.ts.map Lo.x = b.ts.map Lo.x from by
        have h5 := HK.out
        rwa [List.take_of_length_le (by omega), List.take_of_length_le (by omega)] at h5)
      go_wp2_with fail
      go_loopw [9] (fun i wr => ∃ k : Nat, k ≤ m ∧ i = .int .i64 k ∧ (a.ps.take k).map Lo.x = (b.ps.take k).map Lo.x ∧ Below w2.heap.size w2 wr) (fun i _ => m - (intOf i).toNat)
      case atStart => exact ⟨0, Nat.zero_le _, rfl, by simp, HBE.out⟩
      case round =>
        rename World => wq
        obtain ⟨j, hj, rfl, hin, hbel⟩ := hrel
        have HKq := Lib.hid hin
        have HBq := Lib.hid hbel
        clear hin hbel
        have HBv := Lib.hid (bstep HB2.out HB2.out.size HBq.out)
        have hsa : w.heap.size < wq.heap.size := Nat.lt_of_lt_of_le la HBq.out.size
        have hsb : w.heap.size + 1 < wq.heap.size := Nat.lt_of_lt_of_le lb HBq.out.size
        obtain ⟨-, -, -, -, -, -, -, -, ca, -⟩ := scB_cell (scB_keep HA2.out HBq.out la)
        obtain ⟨-, -, -, -, -, -, -, -, cb, -⟩ := scB_cell (scB_keep HC2.out HBq.out lb)
        rw [hm] at ca
        rw [hm'] at cb
        by_cases hjm : j < m
        · obtain ⟨u, hu⟩ := get_lt (l := a.ps) (k := j) (by rw [hm]; exact hjm)
          obtain ⟨t', ht'⟩ := get_lt (l := b.ps) (k := j) (by rw [hm']; exact hjm)
          obtain ⟨b1, off, hA1, hbB, hat⟩ := HEA.out.p.at hu
          obtain ⟨b2, off', hA2, hbB', hat'⟩ := HEB.out.p.at ht'
          have HU := Lib.hid hu
          have HT := Lib.hid ht'
          have HEu := Lib.hid ((HEA.out.px u (List.mem_of_getElem? hu)).below HBv.out)
          have HEt := Lib.hid ((HEB.out.px t' (List.mem_of_getElem? ht')).below HBv.out)
          have hul := HFA.out.px u (List.mem_of_getElem? hu)
          rw [hA1] at ca
          rw [hA2] at cb
          replace hA1 := Lib.hid hA1
          replace hA2 := Lib.hid hA2
          have p2 := atP (show AtE EP wq b1 (off + j * 1) u from hat.below HBv.out hbB)
          have q2 := atP (show AtE EP wq b2 (off' + j * 1) t' from hat'.below HBv.out hbB')
          rw [Nat.mul_one] at p2 q2
          have hbw := Nat.lt_of_lt_of_le hbB HBv.out.size
          have hbw' := Nat.lt_of_lt_of_le hbB' HBv.out.size
          have y1 : ∀ x : Grow wq, x.w.cell? ⟨w.heap.size, 8, none⟩ = some (.slice (some ⟨b1, off, none⟩) m a.pc) := fun x => x.cell ca
          have y2 : ∀ x : Grow wq, x.w.cell? ⟨w.heap.size + 1, 8, none⟩ = some (.slice (some ⟨b2, off', none⟩) m b.pc) := fun x => x.cell cb
          have y3 : ∀ x : Grow wq, x.w.cell? ⟨b1, off + j, none⟩ = some (.slice u.A u.x.length u.c) := fun x => x.cell p2
          have y4 : ∀ x : Grow wq, x.w.cell? ⟨b2, off' + j, none⟩ = some (.slice t'.A t'.x.length t'.c) := fun x => x.cell q2
          have s1 : ∀ x : Grow wq, w.heap.size < x.w.heap.size := fun x => Nat.lt_of_lt_of_le hsa x.below.size
          have s2 : ∀ x : Grow wq, w.heap.size + 1 < x.w.heap.size := fun x => Nat.lt_of_lt_of_le hsb x.below.size
          have s3 : ∀ x : Grow wq, b1 < x.w.heap.size := fun x => Nat.lt_of_lt_of_le hbw x.below.size
          have s4 : ∀ x : Grow wq, b2 < x.w.heap.size := fun x => Nat.lt_of_lt_of_le hbw' x.below.size
          have ne1 := Grow.ne wq
          obtain ⟨r3, hr3⟩ := exB (p := u.x = t'.x)
          have H3 := Lib.hid (fun x : Grow wq => sameI_any u.A t'.A u.c t'.c u.x t'.x x.w ((HEu.out.more HBv.out.size).sharp.below x.below |>.sharp) ((HEt.out.more HBv.out.size).sharp.below x.below |>.sharp) hul r3 hr3)
          have HR3 := Lib.hid hr3
          clear hu ht' hat hat' hr3 hul
          go_wp2_with fail
          refine wp_region_grow (by kernel_rfl) (by kernel_rfl) ?_
          try simp only [List.append_eq, List.cons_append, List.nil_append]
          repeat (first | go_big_quiet_skip | go_big_quiet_step ((go_at_call 24; with_reducible exact Grow.calls (H3.out _))))
          refine wpQuiet_nil ?_
          rintro _ ⟨z, rfl⟩
          have HBY := Lib.hid (bstep HBq.out HBq.out.size z.below)
          generalize z.w = Y at *
          clear z y1 y2 y3 y4 s1 s2 s3 s4 ne1 H3 p2 q2 ca cb
          cases r3
          · obtain rfl := HBad.out fun e => lo_ne HU.out HT.out (fun h => by have := HR3.out.2 h; cases this) (congrArg PS.ps e)
            go_wp2_with fail
            go_ret
            exact ⟨rfl, bstep HB2.out HB2.out.size HBY.out⟩
          · go_wp2_with fail
            go_roundw
            case rel => exact ⟨j + 1, by omega, by go_num, lo_take HU.out HT.out HKq.out (HR3.out.1 rfl), HBY.out⟩
            case measure => simp [intOf]; omega
        · obtain rfl : j = m := by omega
          have HPs := Lib.hid (show a.ps.map Lo.x = b.ps.map Lo.x from by
            have h5 := HKq.out
            rwa [List.take_of_length_le (by omega), List.take_of_length_le (by omega)] at h5)
          obtain rfl := HGood.out HE0.out.1 HE0.out.2 (HRK.out.1 (by simp)) (HR1.out.1 (by simp)) (HR2.out.1 (by simp)) HTs.out HPs.out
          go_wp2_with fail
          go_ret
          exact ⟨rfl, HBv.out⟩
end Go.Proofs.YtfmmfaeognoleaaGreat
/-
  What glazierlaw15.CodecTells wants: how long small scenes are said, a byte turned, a row with one byte written over.
-/
namespace Go.Proofs.YtfmmfaeognoleaaGreat
open Go.RowKit

theorem smP_len (p : PS) : (nS (smP p)).length ≤ 10000 := by
  have v := many_le (g := nV) (K := 8) (l := p.vs.take 66) fun x _ => Nat.le_refl 8
  have t := many_le (g := nT) (K := 1043) (l := (p.ts.take 5).map smT) fun x hx => by
    obtain ⟨t, _, rfl⟩ := List.mem_map.1 hx
    have h2 := many_le (g := nC) (K := 4) (l := (smT t).px) fun c _ => Nat.le_refl 4
    have h4 : (nT (smT t)).length = (nAll nC (smT t).px).length + 2 := rfl
    have h5 : (smT t).px.length ≤ 260 := take_le _ _
    have h6 := mul_le_of (d := 4) (c := 1040) h5 rfl
    omega
  have c := many_le (g := nP) (K := 171) (l := (p.ps.take 5).map smI) fun x hx => by
    obtain ⟨t, _, rfl⟩ := List.mem_map.1 hx
    have h3 := many_le (g := nI) (K := 5) (l := smI t) fun c _ => Nat.le_refl 5
    have h4 : (nP (smI t)).length = (nAll nI (smI t)).length := rfl
    have h5 : (smI t).length ≤ 34 := take_le _ _
    have h6 := mul_le_of (d := 5) (c := 170) h5 rfl
    omega
  have d := many_le (g := nD) (K := 141) (l := (p.ds.take 9).map smD) fun x hx => by
    obtain ⟨t, _, rfl⟩ := List.mem_map.1 hx
    have h3 := many_le (g := nR) (K := 4) (l := (smD t).tris) fun c _ => Nat.le_refl 4
    have h4 : (nD (smD t)).length = (nAll nR (smD t).tris).length + 4 := rfl
    have h5 : (smD t).tris.length ≤ 34 := take_le _ _
    have h6 := mul_le_of (d := 4) (c := 136) h5 rfl
    omega
  have e1 := mul_le_of (a := (p.vs.take 66).length) (d := 8) (c := 528) (take_le _ _) rfl
  have l2 : ((p.ts.take 5).map smT).length ≤ 5 := by rw [List.length_map]; exact take_le _ _
  have l3 : ((p.ps.take 5).map smI).length ≤ 5 := by rw [List.length_map]; exact take_le _ _
  have l4 : ((p.ds.take 9).map smD).length ≤ 9 := by rw [List.length_map]; exact take_le _ _
  have e2 := mul_le_of (d := 1043) (c := 5215) l2 rfl
  have e3 := mul_le_of (d := 171) (c := 855) l3 rfl
  have e4 := mul_le_of (d := 141) (c := 1269) l4 rfl
  unfold nS smP
  simp only [List.length_cons, List.length_append, nC, List.length_nil]
  omega
theorem turn_byte {b : Int} (t : Int) (hb : 0 ≤ b ∧ b ≤ 255) : ∃ m : Int, bits .xor .u8 b (1 + t % 255) = m ∧ 0 ≤ m ∧ m ≤ 255 ∧ m ≠ b := by
  have h2 := Int.emod_nonneg t (show (255 : Int) ≠ 0 by omega)
  have h3 := Int.emod_lt_of_pos t (show (0 : Int) < 255 by omega)
  refine ⟨_, rfl, ?_⟩
  rw [u8_xor b (1 + t % 255) hb.1 (by omega) (by omega) (by omega)]
  have hx : b.toNat ^^^ (1 + t % 255).toNat < 2 ^ 8 := Nat.xor_lt_two_pow (by omega) (by omega)
  refine ⟨by omega, by omega, fun h => ?_⟩
  have h4 : b.toNat ^^^ (1 + t % 255).toNat = b.toNat := by omega
  have h5 := congrArg (b.toNat ^^^ ·) h4
  simp only [← Nat.xor_assoc, Nat.xor_self, Nat.zero_xor] at h5
  omega
theorem takeP_few {xs : List Int} {q : PS} {e : Int} (hb : P.Byt xs) (h : takeP xs = (q, e)) : q.few := by
  have h1 := takeP_err xs
  rw [h] at h1
  rcases h1 with h1 | ⟨h1, -, -⟩
  · obtain rfl : e = 0 := h1
    obtain ⟨hl, hr, -⟩ := takeP_zero h
    exact few_len (by have := read_len hb hl hr; omega)
  · obtain rfl : q = zS := h1
    exact few_p (flat_few 0 0)
theorem takeP_other {xs bs : List Int} {p q : PS} (hb : P.Byt xs) (hp : P.put (nS p) = bs) (hne : xs ≠ bs) (h : takeP xs = (q, 0)) : q ≠ p := fun e => by
  obtain ⟨-, hr, -⟩ := takeP_zero h
  obtain ⟨-, h2, -⟩ := read_some hb hr
  rw [e, hp] at h2
  exact hne h2.symm
theorem set_ne {xs : List Int} {k : Nat} {m : Int} (hk : k < xs.length) (h : m ≠ xs.getD k 0) : xs.set k m ≠ xs := fun e => by
  have h1 := congrArg (fun l : List Int => l.getD k 0) e
  simp only [List.getD_eq_getElem?_getD, List.getElem?_set_self hk, Option.getD_some] at h1
  exact h (by rw [List.getD_eq_getElem?_getD]; exact h1)
theorem P.byt_at {xs : List Int} (h : P.Byt xs) {k : Nat} (hk : k < xs.length) : 0 ≤ xs.getD k 0 ∧ xs.getD k 0 ≤ 255 := by
  rw [List.getD_eq_getElem?_getD, List.getElem?_eq_getElem hk]
  exact h _ (List.getElem_mem hk)
theorem P.byt_set {xs : List Int} (h : P.Byt xs) (k : Nat) {m : Int} (hm : 0 ≤ m ∧ m ≤ 255) : P.Byt (xs.set k m) := fun x hx => by
  rcases List.mem_or_eq_of_mem_set hx with hx | rfl
  · exact h x hx
  · exact hm
/-- A row of the call's own with one byte written over. -/
theorem P.own_set {w : World} {base : Nat} {v : Value} {xs : List Int} (h : P.OwnS 5 .u8 w base v xs) {k : Nat} (hk : k < xs.length) :
    ∃ g c, v = .slice (some ⟨g, 0, none⟩) xs.length c ∧ base ≤ g ∧ g < w.heap.size ∧ xs.length ≤ c ∧ w.cell? ⟨g, k, none⟩ = some (.int .u8 (xs.getD k 0)) ∧ w.frozen? ⟨g, k, none⟩ = false ∧
      ∀ m, P.OwnS 5 .u8 (w.setCell ⟨g, k, none⟩ (.int .u8 m)) base v (xs.set k m) := by
  have hsl := h.sl
  obtain ⟨hl, ⟨rfl, h0⟩ | ⟨g, cap, cur, rfl, hg, hh, hc, hm, hs, ht⟩⟩ := h
  · omega
  · have hsl : P.Sl .u8 w w.heap.size (some ⟨g, 0, none⟩) xs := by
      obtain ⟨A, c, e, -, -, hsl⟩ := hsl
      cases e
      exact hsl
    obtain ⟨b, off, e, hb, hcell⟩ := hsl.at hk
    cases e
    rw [Nat.zero_add] at hcell
    refine ⟨g, cap, rfl, hg, hb, hc, hcell, by simp [World.frozen?, hh], fun m => ⟨by simp, .inr ⟨g, cap, cur.setIfInBounds k (.int .u8 m), by rw [List.length_set], hg, heap_setCell_same _ _ _ _ _ _ hh, by simpa using hc, hm, by simpa using hs, ?_⟩⟩⟩
    rw [List.length_set, List.map_set, ← ht]
    simp [List.take_set]
/-- Block g holds x, whose rows lie in w. -/
structure HasS (g : Nat) (x : Sc) (w : World) : Prop where
  g : w.heap[g]? = some (scB x)
  a : x.at w w.heap.size
theorem HasS.below {g : Nat} {x : Sc} {w w' : World} (h : HasS g x w) (hb : Below w.heap.size w w') : HasS g x w' := ⟨scB_keep h.g hb (scB_lt h.g), (h.a.below hb).more hb.size⟩
theorem has_new {x : Sc} {w : World} (h : x.at w w.heap.size) : HasS w.heap.size x (w.alloc (.cells #[.int .i64 x.w, .int .i64 x.h, .int .u8 x.k.r, .int .u8 x.k.g, .int .u8 x.k.b, .int .u8 x.k.a, .slice x.vA x.vs.length x.vc, .slice x.tA x.ts.length x.tc, .slice x.pA x.ps.length x.pc, .slice x.dA x.ds.length x.dc] 29)) :=
  ⟨heap_alloc_new _ _, (h.below (new_below w _)).more (new_below w _).size⟩
theorem P.Sl.go {k : IntKind} {w w' : World} {A : Option Addr} {xs : List Int} (h : P.Sl k w w.heap.size A xs) (hb : Below w.heap.size w w') : P.Sl k w' w'.heap.size A xs := (h.below hb).more hb.size
end Go.Proofs.YtfmmfaeognoleaaGreat
/-
  The reference's Put and Take.
-/
namespace Go.Proofs.YtfmmfaeognoleaaGreat
open Go.RowKit
attribute [local go_sem ↓] Go.wp_at_zero Go.wp_at_succ

theorem om_sl {k : IntKind} {Y w' : World} {B : Nat} {A : Option Addr} {xs : List Int} (h : Om (fun _ => False) Y w') (hs : P.Sl k Y B A xs) : P.Sl k w' B A xs := fun hne => by
  obtain ⟨b, off, e, hb, hc⟩ := hs hne
  exact ⟨b, off, e, hb, fun j hj => h.cell (hc j hj) id⟩
theorem nall_le {α : Type} {g : α → List Int} {M : Nat} : ∀ l : List α, (∀ x ∈ l, (g x).length ≤ M) → (nAll g l).length ≤ 1 + M * l.length
  | [], _ => by simp [nAll]
  | x :: l, h => by
    have h1 := nall_le l fun y hy => h y (List.mem_cons_of_mem _ hy)
    have h2 := h x List.mem_cons_self
    have e : (nAll g (x :: l)).length = (nAll g l).length + (g x).length := by
      unfold nAll
      simp only [List.flatMap_cons, List.length_cons, List.length_append]
      omega
    have e2 : M * (l.length + 1) = M * l.length + M := Nat.mul_succ _ _
    rw [e, List.length_cons, e2]
    omega
theorem atm_len_le {p : PS} (h : p.atm 1500) : (nS p).length ≤ 100000000 := by
  have pV := nall_le (g := nV) (M := 8) p.vs fun _ _ => by simp [nV]
  have pT := nall_le (g := nT) (M := 6003) p.ts fun t ht => by
    have h1 := nall_le (g := nC) (M := 4) t.px fun _ _ => by simp [nC]
    have h2 := h.tx t ht
    have h3 : (nT t).length = (nAll nC t.px).length + 2 := rfl
    omega
  have pP := nall_le (g := nP) (M := 7501) p.ps fun l hl => by
    have h1 := nall_le (g := nI) (M := 5) l fun _ _ => by simp [nI]
    have h2 := h.px l hl
    have h3 : (nP l).length = (nAll nI l).length := rfl
    omega
  have pD := nall_le (g := nD) (M := 6005) p.ds fun d hd => by
    have h1 := nall_le (g := nR) (M := 4) d.tris fun _ _ => by simp [nR]
    have h2 := h.dx d hd
    have h3 : (nD d).length = (nAll nR d.tris).length + 4 := rfl
    omega
  have h1 := h.vs
  have h2 := h.ts
  have h3 := h.ps
  have h4 := h.ds
  have hk : (nC p.k).length = 4 := rfl
  unfold nS
  simp only [List.length_cons, List.length_append, hk]
  omega
theorem PS.atm.mono {p : PS} {N M : Nat} (h : p.atm N) (hm : N ≤ M) : p.atm M := ⟨Nat.le_trans h.vs hm, Nat.le_trans h.ts hm, fun t ht => Nat.le_trans (h.tx t ht) hm, Nat.le_trans h.ps hm, fun l hl => Nat.le_trans (h.px l hl) hm, Nat.le_trans h.ds hm, fun d hd => Nat.le_trans (h.dx d hd) hm⟩
set_option maxRecDepth 100000 in
set_option maxHeartbeats 2000000 in
theorem rput15_any (s : Sc) (hok : s.ok) (hf : s.few) (w : World) (ha : s.at w w.heap.size) (hn : (nS s.p).length ≤ 100000000) :
    Calls Tryz.prog 9 #[.agg #[.int .i64 s.w, .int .i64 s.h, .int .u8 s.k.r, .int .u8 s.k.g, .int .u8 s.k.b, .int .u8 s.k.a, .slice s.vA s.vs.length s.vc, .slice s.tA s.ts.length s.tc, .slice s.pA s.ps.length s.pc, .slice s.dA s.ds.length s.dc]] w (PutA (check s.p) (P.put (nS s.p)) w) := by
  have hb0 := new_below w (.cells #[.int .i64 s.w, .int .i64 s.h, .int .u8 s.k.r, .int .u8 s.k.g, .int .u8 s.k.b, .int .u8 s.k.a, .slice s.vA s.vs.length s.vc, .slice s.tA s.ts.length s.tc, .slice s.pA s.ps.length s.pc, .slice s.dA s.ds.length s.dc] 29)
  have HB0 := Lib.hid hb0
  have HG0 := Lib.hid (show (w.alloc (.cells #[.int .i64 s.w, .int .i64 s.h, .int .u8 s.k.r, .int .u8 s.k.g, .int .u8 s.k.b, .int .u8 s.k.a, .slice s.vA s.vs.length s.vc, .slice s.tA s.ts.length s.tc, .slice s.pA s.ps.length s.pc, .slice s.dA s.ds.length s.dc] 29)).heap[w.heap.size]? = some (scB s) from heap_alloc_new _ _)
  have HC := Lib.hid (rcheck_scene s (w.alloc (.cells #[.int .i64 s.w, .int .i64 s.h, .int .u8 s.k.r, .int .u8 s.k.g, .int .u8 s.k.b, .int .u8 s.k.a, .slice s.vA s.vs.length s.vc, .slice s.tA s.ts.length s.tc, .slice s.pA s.ps.length s.pc, .slice s.dA s.ds.length s.dc] 29)) ((ha.below hb0).more (by simp)) hok hf)
  have HBy := Lib.hid (fun w2 (h : Below w.heap.size w w2) => rbytes15_any s hok hf w2 ((ha.below h).more h.size) hn)
  clear hb0 hok hf ha hn
  obtain ⟨cq, hcq⟩ : ∃ c, check s.p = c := ⟨_, rfl⟩
  rw [hcq] at HC ⊢
  clear hcq
  go_enter Tryz.func9, Tryz.ntmps9
  go_wp2_with fail
  with_reducible refine (HC.out).mono ?_
  rintro e w1 ⟨rfl, hb⟩
  have hg1 := scB_keep HG0.out hb (scB_lt HG0.out)
  have HB1 := Lib.hid (bstep HB0.out HB0.out.size hb)
  have gl := scB_lt hg1
  obtain ⟨g0, g1, g2, g3, g4, g5, g6, g7, g8, g9⟩ := scB_cell hg1
  clear hb hg1 HC HB0 HG0
  by_cases hk : cq = 0
  · subst hk
    go_wp2_with fail
    with_reducible refine (HBy.out w1 HB1.out).mono ?_
    rintro e w2 ⟨v, rfl, ho, hb⟩
    have HO := Lib.hid (ho.less HB1.out.size)
    have HB2 := Lib.hid (bstep HB1.out HB1.out.size hb)
    clear ho hb
    go_wp2_with fail
    exact bodyPost_ret (v := .tuple #[v, .int .i64 0]) (by simp [results, Tryz.results9, go_sem]) rfl ⟨HB2.out, .inr ⟨rfl, v, rfl, HO.out⟩⟩
  · have hk1 : (cq == 0) = false := by simpa using hk
    have hk2 : (cq != 0) = true := by simpa using hk
    have HK := Lib.hid hk
    clear hk
    go_wp2_with fail
    exact bodyPost_ret (v := .tuple #[.slice none 0 0, .int .i64 cq]) (by simp [results, Tryz.results9, go_sem]) rfl ⟨HB1.out, .inl ⟨HK.out, rfl⟩⟩
set_option maxRecDepth 100000 in
set_option maxHeartbeats 8000000 in
theorem rtake_any (A : Option Addr) (c : Nat) (xs : List Int) (hc : xs.length ≤ c) (hl : xs.length ≤ 1500) (hb : P.Byt xs) (w : World) (hs : P.Sl .u8 w w.heap.size A xs) :
    Calls Tryz.prog 11 #[.slice A xs.length c] w (TakeA xs w) := by
  have hB0 := new_below w (.cells #[.int .i64 0, .int .i64 0, .int .u8 0, .int .u8 0, .int .u8 0, .int .u8 0, .slice none 0 0, .slice none 0 0, .slice none 0 0, .slice none 0 0] 29)
  have HG0 := Lib.hid (show (w.alloc (.cells #[.int .i64 0, .int .i64 0, .int .u8 0, .int .u8 0, .int .u8 0, .int .u8 0, .slice none 0 0, .slice none 0 0, .slice none 0 0, .slice none 0 0] 29)).heap[w.heap.size]? = some (scB noS) from heap_alloc_new _ _)
  have HB0 := Lib.hid hB0
  have hle : ¬ (65536 : Int) < xs.length := by omega
  obtain ⟨h1, h2, -⟩ := P.seq_len _ xs (Nat.le_refl _) hb
  have h3 := P.nums_le (P.seq xs)
  have hr := (ref_take hb).symm
  unfold refP at hr
  rw [if_neg (by omega)] at hr
  have HA := Lib.hid (P.rall_any A c xs (w.alloc (.cells #[.int .i64 0, .int .i64 0, .int .u8 0, .int .u8 0, .int .u8 0, .int .u8 0, .slice none 0 0, .slice none 0 0, .slice none 0 0, .slice none 0 0] 29)) ((hs.below hB0).more (by simp)) hb hc (by omega))
  unfold P.RAll at HA
  obtain ⟨ns, hns⟩ : ∃ ns, P.nums (P.seq xs) = ns := ⟨_, rfl⟩
  obtain ⟨fl, hfl⟩ : ∃ fl, P.flag (P.seq xs) = fl := ⟨_, rfl⟩
  rw [hns] at h2 h3
  simp only [hns, hfl] at hr HA
  obtain ⟨q, tq, hq⟩ : ∃ q t, nScn ns.length ns = (q, t) := ⟨_, _, rfl⟩
  have hsc := (scn_lx ns.length).out ns h2
  rw [hq] at hr hsc
  dsimp only at hr hsc
  have hnl : ns.length ≤ 1500 := by omega
  have HQ := Lib.hid (And.intro hsc.1.1 (And.intro (atm_few hsc.1.2 (by omega)) (atm_len_le (hsc.1.2.mono hnl))))
  have HSb := Lib.hid hs
  have HR := Lib.hid hr
  have HE := Lib.hid (show strOfNums (P.put (nS q)) = strOfNums xs → P.put (nS q) = xs from fun h => P.str_inj (P.put_byt _) hb h)
  clear hs hb hc hB0 h1 h2 h3 hr hsc hns hfl hl
  obtain ⟨bs, hbs⟩ : ∃ bs, P.put (nS q) = bs := ⟨_, rfl⟩
  rw [hbs] at HE HR
  obtain ⟨cq, hcq⟩ : ∃ z, check q = z := ⟨_, rfl⟩
  rw [hcq] at HR
  obtain ⟨S1, hS1⟩ : ∃ z, strOfNums xs = z := ⟨_, rfl⟩
  have HC2 := Lib.hid (show ∀ W, P.Sl .u8 W w.heap.size A xs → (convert 30 9 (.slice A xs.length c)).run Tryz.prog W = .ok (.string S1) W from fun W h => by rw [← hS1]; exact h.conv c)
  go_enter Tryz.func11, Tryz.ntmps11
  go_wp2_with fail
  with_reducible refine (HA.out).mono ?_
  rintro e w2 ⟨v, rfl, ho, hb⟩
  obtain ⟨A1, c1, rfl, hc1, -, hsl⟩ := ho.sl
  have HN2 := Lib.hid hsl
  have HB2 := Lib.hid (bstep HB0.out HB0.out.size hb)
  have hg2 := scB_keep HG0.out hb (scB_lt HG0.out)
  have HG2 := Lib.hid hg2
  clear ho hb hsl hg2 HA HG0 HB0 hle
  cases fl
  case true =>
    have HT := Lib.hid (show takeP xs = (noS.p, 10) from HR.out)
    clear HR HQ HE hbs hcq hq
    obtain ⟨W, hW, hS, hB⟩ := setz HG2.out HB2.out (Nat.le_refl _)
    have HS := Lib.hid hS
    have HB := Lib.hid hB
    have f0 := scB_free (HG2.out)
    obtain ⟨g0, g1, g2, g3, g4, g5, g6, g7, g8, g9⟩ := scB_cell (HG2.out)
    have gl := scB_lt (HG2.out)
    clear hS hB HG2 HB2 HN2
    replace hW := Lib.hid hW
    go_wp2_with fail
    rw [hW.out]
    have k := scB_cell HS.out
    simp only [noS, flat0, zC, List.length_nil] at k
    refine bodyPost_ret (v := .tuple #[.agg #[.int .i64 0, .int .i64 0, .int .u8 0, .int .u8 0, .int .u8 0, .int .u8 0, .slice none 0 0, .slice none 0 0, .slice none 0 0, .slice none 0 0], .int .i64 10]) (by simp [results, Tryz.results11, go_sem, k]) rfl ⟨noS, 10, rfl, HB.out, noS_on _ _, noS_cap, HT.out⟩
  case false =>
    have HR1 := Lib.hid (show takeP xs = if bs = xs then (if cq = 0 then (q, 0) else (zS, cq)) else (zS, 10) from HR.out)
    clear HR
    obtain ⟨p, hp⟩ : ∃ p, w2.heap.size = p := ⟨_, rfl⟩
    have hwp : w.heap.size < p := by have := scB_lt HG2.out; omega
    obtain ⟨w3, hw3⟩ : ∃ W, w2.alloc (.cells #[.slice A1 ns.length c1, .int .i64 0] 59) = W := ⟨_, rfl⟩
    have HB3 := Lib.hid (show Below w2.heap.size w2 w3 by rw [← hw3]; exact new_below _ _)
    have HNm := Lib.hid (show Nm ⟨A1, c1, ns⟩ w3 p ns from ⟨0, Nat.zero_le _, by rw [← hw3, ← hp]; exact heap_alloc_new _ _, by rw [← hp]; exact es_of_sl (HN2.out.below HB3.out), rfl⟩)
    have HSn := Lib.hid (nscene_any (S := ⟨A1, c1, ns⟩) (show ns.length ≤ 100000 by omega) w3 HNm.out)
    rw [show nScn (Src.mk A1 c1 ns).L.length ns = (q, tq) from hq] at HSn
    unfold NRS at HSn
    have hs3 : w3.heap.size = p + 1 := by rw [← hw3, ← hp]; simp
    clear HN2 hq
    go_upto_region 7 with fail
    try rw [hp]
    try rw [hw3]
    go_wp2_with fail
    with_reducible refine (HSn.out).mono ?_
    rintro e w4 ⟨x, rfl, hxp, hon, hcap, -, hbt⟩
    obtain ⟨gx, hgx⟩ : ∃ g, w4.heap.size = g := ⟨_, rfl⟩
    have hs4 := hbt.b.size
    have HX4 := Lib.hid (has_new (x := x) hon.at)
    have HB4 := Lib.hid (((HB2.out.trans (HB3.out.mono (by have := HB2.out.size; omega))).trans (hbt.b.mono (by omega))).trans ((new_below w4 (.cells #[.int .i64 x.w, .int .i64 x.h, .int .u8 x.k.r, .int .u8 x.k.g, .int .u8 x.k.b, .int .u8 x.k.a, .slice x.vA x.vs.length x.vc, .slice x.tA x.ts.length x.tc, .slice x.pA x.ps.length x.pc, .slice x.dA x.ds.length x.dc] 29)).mono (by omega)))
    have HG4 := Lib.hid (scB_alloc (.cells #[.int .i64 x.w, .int .i64 x.h, .int .u8 x.k.r, .int .u8 x.k.g, .int .u8 x.k.b, .int .u8 x.k.a, .slice x.vA x.vs.length x.vc, .slice x.tA x.ts.length x.tc, .slice x.pA x.ps.length x.pc, .slice x.dA x.ds.length x.dc] 29) (((hbt.block (show w.heap.size < w3.heap.size by omega) (by omega)).trans (HB3.out.block w.heap.size (scB_lt HG2.out))).trans HG2.out))
    have HO4 := Lib.hid (show x.on (w4.alloc (.cells #[.int .i64 x.w, .int .i64 x.h, .int .u8 x.k.r, .int .u8 x.k.g, .int .u8 x.k.b, .int .u8 x.k.a, .slice x.vA x.vs.length x.vc, .slice x.tA x.ts.length x.tc, .slice x.pA x.ps.length x.pc, .slice x.dA x.ds.length x.dc] 29)) (fun b => w.heap.size < b ∧ b < w4.heap.size) from ((hon.imp fun b h1 h2 => (⟨by omega, h2⟩ : w.heap.size < b ∧ b < w4.heap.size)).keep fun b _ h2 => (new_below w4 _).block b h2))
    have hxo : x.ok := ok_of hxp HQ.out.1 hcap
    have hxf : x.few := few_of hxp HQ.out.2.1
    have HBy := Lib.hid (fun W (h : x.at W W.heap.size) => rbytes15_any x hxo hxf W h (by rw [hxp]; exact HQ.out.2.2))
    have HCk := Lib.hid (fun W (h : x.at W W.heap.size) => rcheck_scene x W h hxo hxf)
    rw [hxp, hbs] at HBy
    rw [hxp, hcq] at HCk
    have HXp := Lib.hid (And.intro hxp hcap)
    clear hxp hon hcap hbt hxo hxf HSn HNm HB2 HB3 HG2 HQ hw3 hbs hcq
    go_upto_region 8 with fail
    obtain ⟨t, ht⟩ : ∃ t, w4.alloc (.cells #[.int .i64 x.w, .int .i64 x.h, .int .u8 x.k.r, .int .u8 x.k.g, .int .u8 x.k.b, .int .u8 x.k.a, .slice x.vA x.vs.length x.vc, .slice x.tA x.ts.length x.tc, .slice x.pA x.ps.length x.pc, .slice x.dA x.ds.length x.dc] 29) = t := ⟨_, rfl⟩
    rw [ht] at HX4 HB4 HG4 HO4
    rw [ht]
    clear ht
    rw [hgx] at HX4 HO4
    try rw [hgx]
    have hwg : w.heap.size < gx := by omega
    have hsz := HB4.out.size
    have HSt := Lib.hid (HSb.out.below HB4.out)
    clear hs3 hs4 hgx hwp
    obtain ⟨x0, x1, x2, x3, x4, x5, x6, x7, x8, x9⟩ := scB_cell HX4.out.g
    have hgt := scB_lt HX4.out.g
    by_cases heq : bs = xs
    · obtain rfl : xs = bs := heq.symm
      have HC3 := Lib.hid (show ∀ W A2 B c2, P.Sl .u8 W B A2 xs → (convert 30 9 (.slice A2 xs.length c2)).run Tryz.prog W = .ok (.string S1) W from fun W A2 B c2 h => by rw [← hS1]; exact h.conv c2)
      clear hS1 HE
      have y0 : ∀ w', Om (fun _ => False) t w' → w'.cell? ⟨gx, 0, none⟩ = some (.int .i64 x.w) := fun w' h => h.cell (by assumption) (id)
      have y1 : ∀ w', Om (fun _ => False) t w' → w'.cell? ⟨gx, 1, none⟩ = some (.int .i64 x.h) := fun w' h => h.cell (by assumption) (id)
      have y2 : ∀ w', Om (fun _ => False) t w' → w'.cell? ⟨gx, 2, none⟩ = some (.int .u8 x.k.r) := fun w' h => h.cell (by assumption) (id)
      have y3 : ∀ w', Om (fun _ => False) t w' → w'.cell? ⟨gx, 3, none⟩ = some (.int .u8 x.k.g) := fun w' h => h.cell (by assumption) (id)
      have y4 : ∀ w', Om (fun _ => False) t w' → w'.cell? ⟨gx, 4, none⟩ = some (.int .u8 x.k.b) := fun w' h => h.cell (by assumption) (id)
      have y5 : ∀ w', Om (fun _ => False) t w' → w'.cell? ⟨gx, 5, none⟩ = some (.int .u8 x.k.a) := fun w' h => h.cell (by assumption) (id)
      have y6 : ∀ w', Om (fun _ => False) t w' → w'.cell? ⟨gx, 6, none⟩ = some (.slice x.vA x.vs.length x.vc) := fun w' h => h.cell (by assumption) (id)
      have y7 : ∀ w', Om (fun _ => False) t w' → w'.cell? ⟨gx, 7, none⟩ = some (.slice x.tA x.ts.length x.tc) := fun w' h => h.cell (by assumption) (id)
      have y8 : ∀ w', Om (fun _ => False) t w' → w'.cell? ⟨gx, 8, none⟩ = some (.slice x.pA x.ps.length x.pc) := fun w' h => h.cell (by assumption) (id)
      have y9 : ∀ w', Om (fun _ => False) t w' → w'.cell? ⟨gx, 9, none⟩ = some (.slice x.dA x.ds.length x.dc) := fun w' h => h.cell (by assumption) (id)
      have y10 : ∀ w', Om (fun _ => False) t w' → (convert 30 9 (.slice A xs.length c)).run Tryz.prog w' = .ok (.string S1) w' := fun w' h => HC2.out w' (om_sl h HSt.out)
      refine wp_region_held_drew (S := fun w' => Om (fun _ => False) t w') (by kernel_rfl) (om_drew _ _) (fun hS => ?_)
      have B_t0 := Lib.hid (show Below t.heap.size t t.drew from (Below.refl _ _).drew)
      have M_t0 := Lib.hid (om_drew (fun _ => False) t)
      have D_t0 := Lib.hid (show Below t.heap.size t t.drew from (Below.refl _ _).drew)
      generalize t.drew = t0 at *
      refine wpAnyH_take (i := 0) (v := .agg #[.int .i64 x.w, .int .i64 x.h, .int .u8 x.k.r, .int .u8 x.k.g, .int .u8 x.k.b, .int .u8 x.k.a, .slice x.vA x.vs.length x.vc, .slice x.tA x.ts.length x.tc, .slice x.pA x.ps.length x.pc, .slice x.dA x.ds.length x.dc]) rfl (by kernel_rfl) (by kernel_rfl) (by kernel_rfl) (fun _ _ _ h => h) (Or.inl ⟨by rfl, fun w hw => by have z0 := y0 w hw; have z1 := y1 w hw; have z2 := y2 w hw; have z3 := y3 w hw; have z4 := y4 w hw; have z5 := y5 w hw; have z6 := y6 w hw; have z7 := y7 w hw; have z8 := y8 w hw; have z9 := y9 w hw; have z10 := y10 w hw; go_simp⟩) hS ?_
      try simp only [Act.put, List.setIfInBounds_toArray, List.set_cons_zero, List.set_cons_succ, List.getElem_toArray, List.getElem_cons_zero]
      refine wpAnyH_take (i := 3) (v := .slice A xs.length c) rfl (by kernel_rfl) (by kernel_rfl) (by kernel_rfl) (fun _ _ _ h => h) (Or.inl ⟨by rfl, fun w hw => by have z0 := y0 w hw; have z1 := y1 w hw; have z2 := y2 w hw; have z3 := y3 w hw; have z4 := y4 w hw; have z5 := y5 w hw; have z6 := y6 w hw; have z7 := y7 w hw; have z8 := y8 w hw; have z9 := y9 w hw; have z10 := y10 w hw; go_simp⟩) hS ?_
      try simp only [Act.put, List.setIfInBounds_toArray, List.set_cons_zero, List.set_cons_succ, List.getElem_toArray, List.getElem_cons_zero, List.getElem_cons_succ]
      refine wpAnyH_take (i := 4) (v := .string S1) rfl (by kernel_rfl) (by kernel_rfl) (by kernel_rfl) (fun _ _ _ h => h) (Or.inl ⟨by rfl, fun w hw => by have z0 := y0 w hw; have z1 := y1 w hw; have z2 := y2 w hw; have z3 := y3 w hw; have z4 := y4 w hw; have z5 := y5 w hw; have z6 := y6 w hw; have z7 := y7 w hw; have z8 := y8 w hw; have z9 := y9 w hw; have z10 := y10 w hw; go_simp⟩) hS ?_
      try simp only [Act.put, List.setIfInBounds_toArray, List.set_cons_zero, List.set_cons_succ, List.getElem_toArray, List.getElem_cons_zero, List.getElem_cons_succ]
      refine wpAnyH_ready (rs := [1]) (by kernel_rfl) (by simp) ?_
      refine AllReadyH.cons rfl (fun K hK => ?_) AllReadyH.nil
      go_simp
      with_reducible refine (HBy.out t0 ((HX4.out.a.below B_t0.out).more B_t0.out.size)).mono ?_
      rintro e t1 ⟨v, rfl, ho, hb⟩
      have B_t1 := Lib.hid (bstep B_t0.out B_t0.out.size hb)
      have M_t1 := Lib.hid (M_t0.out.bel (hb.mono M_t0.out.1))
      have N_t1 := Lib.hid hb
      obtain ⟨A2, c2, rfl, -, -, hs2⟩ := ho.sl
      have HV_t1 := Lib.hid hs2
      clear ho hs2
      clear hb
      refine hK.out _ _ M_t1.out (fun hS => ?_)
      clear hK K
      try simp only [Act.put, List.setIfInBounds_toArray, List.set_cons_zero, List.set_cons_succ, List.getElem_toArray, List.getElem_cons_zero, List.getElem_cons_succ]
      refine wpAnyH_ready (rs := [2]) (by kernel_rfl) (by simp) ?_
      refine AllReadyH.cons rfl (fun K hK => ?_) AllReadyH.nil
      have q2 := HC3.out _ A2 _ c2 HV_t1.out
      go_simp
      refine hK.out _ _ M_t1.out (fun hS => ?_)
      clear hK K q2
      try simp only [Act.put, List.setIfInBounds_toArray, List.set_cons_zero, List.set_cons_succ, List.getElem_toArray, List.getElem_cons_zero, List.getElem_cons_succ]
      refine wpAnyH_take (i := 5) (v := .bool false) rfl (by kernel_rfl) (by kernel_rfl) (by kernel_rfl) (fun _ _ _ h => h) (Or.inl ⟨by rfl, fun w hw => by have z0 := y0 w hw; have z1 := y1 w hw; have z2 := y2 w hw; have z3 := y3 w hw; have z4 := y4 w hw; have z5 := y5 w hw; have z6 := y6 w hw; have z7 := y7 w hw; have z8 := y8 w hw; have z9 := y9 w hw; have z10 := y10 w hw; go_simp⟩) hS ?_
      try simp only [Act.put, List.setIfInBounds_toArray, List.set_cons_zero, List.set_cons_succ, List.getElem_toArray, List.getElem_cons_zero, List.getElem_cons_succ]
      refine wpAnyH_done (by kernel_rfl) ?_ _
      clear hS
      have HX5 := Lib.hid (HX4.out.below B_t1.out)
      have HB5 := Lib.hid (bstep HB4.out HB4.out.size B_t1.out)
      have HG5 := Lib.hid (scB_keep HG4.out B_t1.out (scB_lt HG4.out))
      have HO5 := Lib.hid (HO4.out.keep fun b _ hlt => B_t1.out.block b hlt)
      obtain ⟨x0, x1, x2, x3, x4, x5, x6, x7, x8, x9⟩ := scB_cell HX5.out.g
      have xl := scB_lt HX5.out.g
      have HCq := Lib.hid (HCk.out _ HX5.out.a)
      clear HX4 HB4 HG4 HO4 HBy HCk HC2 HC3 HSt HSb hsz
      go_wp2_with fail
      with_reducible refine (HCq.out).mono ?_
      rintro e w6 ⟨rfl, hb⟩
      have hg6 := scB_keep HG5.out hb (scB_lt HG5.out)
      have hx6 := scB_keep HX5.out.g hb (scB_lt HX5.out.g)
      have HB6 := Lib.hid (bstep HB5.out HB5.out.size hb)
      have HO6 := Lib.hid (HO5.out.keep fun b _ hlt => hb.block b hlt)
      clear hb x0 x1 x2 x3 x4 x5 x6 x7 x8 x9 xl HCq HG5 HX5 HB5 HO5
      by_cases hk : cq = 0
      · subst hk
        obtain ⟨W, hW, hS, hB, hO⟩ := setx x hg6 HB6.out (Nat.le_refl _)
        have HS := Lib.hid hS
        have HB := Lib.hid hB
        have HOW := Lib.hid (show x.on W (fun b => w.heap.size < b) from (HO6.out.imp fun b h1 _ => h1.1).keep fun b h1 _ => hO b (by omega))
        have f0 := scB_free hg6
        obtain ⟨g0, g1, g2, g3, g4, g5, g6, g7, g8, g9⟩ := scB_cell hg6
        have gl := scB_lt hg6
        obtain ⟨x0, x1, x2, x3, x4, x5, x6, x7, x8, x9⟩ := scB_cell hx6
        have xl3 := scB_lt hx6
        clear hS hB hO hg6 hx6 HB6 HO6
        replace hW := Lib.hid hW
        go_wp2_with fail
        rw [hW.out]
        have k := scB_cell HS.out
        refine bodyPost_ret (v := .tuple #[.agg #[.int .i64 x.w, .int .i64 x.h, .int .u8 x.k.r, .int .u8 x.k.g, .int .u8 x.k.b, .int .u8 x.k.a, .slice x.vA x.vs.length x.vc, .slice x.tA x.ts.length x.tc, .slice x.pA x.ps.length x.pc, .slice x.dA x.ds.length x.dc], .int .i64 0]) (by simp [results, Tryz.results11, go_sem, k]) rfl ⟨x, 0, rfl, HB.out, HOW.out, HXp.out.2, by rw [HR1.out]; simp only [if_true]; rw [HXp.out.1]⟩
      · have hk1 : (cq == 0) = false := by simpa using hk
        have hk2 : (cq != 0) = true := by simpa using hk
        have HT := Lib.hid (show takeP xs = (noS.p, cq) by rw [HR1.out]; simp only [if_true, hk, if_false]; rfl)
        have HG6 := Lib.hid hg6
        clear hg6 hx6 HO6 HR1 hk
        obtain ⟨W, hW, hS, hB⟩ := setz HG6.out HB6.out (Nat.le_refl _)
        have HS := Lib.hid hS
        have HB := Lib.hid hB
        have f0 := scB_free (HG6.out)
        obtain ⟨g0, g1, g2, g3, g4, g5, g6, g7, g8, g9⟩ := scB_cell (HG6.out)
        have gl := scB_lt (HG6.out)
        clear hS hB HG6 HB6
        replace hW := Lib.hid hW
        go_wp2_with fail
        rw [hW.out]
        have k := scB_cell HS.out
        simp only [noS, flat0, zC, List.length_nil] at k
        refine bodyPost_ret (v := .tuple #[.agg #[.int .i64 0, .int .i64 0, .int .u8 0, .int .u8 0, .int .u8 0, .int .u8 0, .slice none 0 0, .slice none 0 0, .slice none 0 0, .slice none 0 0], .int .i64 cq]) (by simp [results, Tryz.results11, go_sem, k]) rfl ⟨noS, cq, rfl, HB.out, noS_on _ _, noS_cap, HT.out⟩
    · have hne : strOfNums bs ≠ S1 := fun h => heq (HE.out (h.trans hS1.symm))
      have HT := Lib.hid (show takeP xs = (noS.p, 10) by rw [HR1.out, if_neg heq]; rfl)
      obtain ⟨S2, hS2⟩ : ∃ z, strOfNums bs = z := ⟨_, rfl⟩
      have HC3 := Lib.hid (show ∀ W A2 B c2, P.Sl .u8 W B A2 bs → (convert 30 9 (.slice A2 bs.length c2)).run Tryz.prog W = .ok (.string S2) W from fun W A2 B c2 h => by rw [← hS2]; exact h.conv c2)
      rw [hS2] at hne
      have hl0 : ¬ S2.toList = S1.toList := fun h => hne (P.bytes_same h)
      clear hS1 hS2 HE heq hne
      have y0 : ∀ w', Om (fun _ => False) t w' → w'.cell? ⟨gx, 0, none⟩ = some (.int .i64 x.w) := fun w' h => h.cell (by assumption) (id)
      have y1 : ∀ w', Om (fun _ => False) t w' → w'.cell? ⟨gx, 1, none⟩ = some (.int .i64 x.h) := fun w' h => h.cell (by assumption) (id)
      have y2 : ∀ w', Om (fun _ => False) t w' → w'.cell? ⟨gx, 2, none⟩ = some (.int .u8 x.k.r) := fun w' h => h.cell (by assumption) (id)
      have y3 : ∀ w', Om (fun _ => False) t w' → w'.cell? ⟨gx, 3, none⟩ = some (.int .u8 x.k.g) := fun w' h => h.cell (by assumption) (id)
      have y4 : ∀ w', Om (fun _ => False) t w' → w'.cell? ⟨gx, 4, none⟩ = some (.int .u8 x.k.b) := fun w' h => h.cell (by assumption) (id)
      have y5 : ∀ w', Om (fun _ => False) t w' → w'.cell? ⟨gx, 5, none⟩ = some (.int .u8 x.k.a) := fun w' h => h.cell (by assumption) (id)
      have y6 : ∀ w', Om (fun _ => False) t w' → w'.cell? ⟨gx, 6, none⟩ = some (.slice x.vA x.vs.length x.vc) := fun w' h => h.cell (by assumption) (id)
      have y7 : ∀ w', Om (fun _ => False) t w' → w'.cell? ⟨gx, 7, none⟩ = some (.slice x.tA x.ts.length x.tc) := fun w' h => h.cell (by assumption) (id)
      have y8 : ∀ w', Om (fun _ => False) t w' → w'.cell? ⟨gx, 8, none⟩ = some (.slice x.pA x.ps.length x.pc) := fun w' h => h.cell (by assumption) (id)
      have y9 : ∀ w', Om (fun _ => False) t w' → w'.cell? ⟨gx, 9, none⟩ = some (.slice x.dA x.ds.length x.dc) := fun w' h => h.cell (by assumption) (id)
      have y10 : ∀ w', Om (fun _ => False) t w' → (convert 30 9 (.slice A xs.length c)).run Tryz.prog w' = .ok (.string S1) w' := fun w' h => HC2.out w' (om_sl h HSt.out)
      refine wp_region_held_drew (S := fun w' => Om (fun _ => False) t w') (by kernel_rfl) (om_drew _ _) (fun hS => ?_)
      have B_t0 := Lib.hid (show Below t.heap.size t t.drew from (Below.refl _ _).drew)
      have M_t0 := Lib.hid (om_drew (fun _ => False) t)
      have D_t0 := Lib.hid (show Below t.heap.size t t.drew from (Below.refl _ _).drew)
      generalize t.drew = t0 at *
      refine wpAnyH_take (i := 0) (v := .agg #[.int .i64 x.w, .int .i64 x.h, .int .u8 x.k.r, .int .u8 x.k.g, .int .u8 x.k.b, .int .u8 x.k.a, .slice x.vA x.vs.length x.vc, .slice x.tA x.ts.length x.tc, .slice x.pA x.ps.length x.pc, .slice x.dA x.ds.length x.dc]) rfl (by kernel_rfl) (by kernel_rfl) (by kernel_rfl) (fun _ _ _ h => h) (Or.inl ⟨by rfl, fun w hw => by have z0 := y0 w hw; have z1 := y1 w hw; have z2 := y2 w hw; have z3 := y3 w hw; have z4 := y4 w hw; have z5 := y5 w hw; have z6 := y6 w hw; have z7 := y7 w hw; have z8 := y8 w hw; have z9 := y9 w hw; have z10 := y10 w hw; go_simp⟩) hS ?_
      try simp only [Act.put, List.setIfInBounds_toArray, List.set_cons_zero, List.set_cons_succ, List.getElem_toArray, List.getElem_cons_zero]
      refine wpAnyH_take (i := 3) (v := .slice A xs.length c) rfl (by kernel_rfl) (by kernel_rfl) (by kernel_rfl) (fun _ _ _ h => h) (Or.inl ⟨by rfl, fun w hw => by have z0 := y0 w hw; have z1 := y1 w hw; have z2 := y2 w hw; have z3 := y3 w hw; have z4 := y4 w hw; have z5 := y5 w hw; have z6 := y6 w hw; have z7 := y7 w hw; have z8 := y8 w hw; have z9 := y9 w hw; have z10 := y10 w hw; go_simp⟩) hS ?_
      try simp only [Act.put, List.setIfInBounds_toArray, List.set_cons_zero, List.set_cons_succ, List.getElem_toArray, List.getElem_cons_zero, List.getElem_cons_succ]
      refine wpAnyH_take (i := 4) (v := .string S1) rfl (by kernel_rfl) (by kernel_rfl) (by kernel_rfl) (fun _ _ _ h => h) (Or.inl ⟨by rfl, fun w hw => by have z0 := y0 w hw; have z1 := y1 w hw; have z2 := y2 w hw; have z3 := y3 w hw; have z4 := y4 w hw; have z5 := y5 w hw; have z6 := y6 w hw; have z7 := y7 w hw; have z8 := y8 w hw; have z9 := y9 w hw; have z10 := y10 w hw; go_simp⟩) hS ?_
      try simp only [Act.put, List.setIfInBounds_toArray, List.set_cons_zero, List.set_cons_succ, List.getElem_toArray, List.getElem_cons_zero, List.getElem_cons_succ]
      refine wpAnyH_ready (rs := [1]) (by kernel_rfl) (by simp) ?_
      refine AllReadyH.cons rfl (fun K hK => ?_) AllReadyH.nil
      go_simp
      with_reducible refine (HBy.out t0 ((HX4.out.a.below B_t0.out).more B_t0.out.size)).mono ?_
      rintro e t1 ⟨v, rfl, ho, hb⟩
      have B_t1 := Lib.hid (bstep B_t0.out B_t0.out.size hb)
      have M_t1 := Lib.hid (M_t0.out.bel (hb.mono M_t0.out.1))
      have N_t1 := Lib.hid hb
      obtain ⟨A2, c2, rfl, -, -, hs2⟩ := ho.sl
      have HV_t1 := Lib.hid hs2
      clear ho hs2
      clear hb
      refine hK.out _ _ M_t1.out (fun hS => ?_)
      clear hK K
      try simp only [Act.put, List.setIfInBounds_toArray, List.set_cons_zero, List.set_cons_succ, List.getElem_toArray, List.getElem_cons_zero, List.getElem_cons_succ]
      refine wpAnyH_ready (rs := [2]) (by kernel_rfl) (by simp) ?_
      refine AllReadyH.cons rfl (fun K hK => ?_) AllReadyH.nil
      have q2 := HC3.out _ A2 _ c2 HV_t1.out
      go_simp
      refine hK.out _ _ M_t1.out (fun hS => ?_)
      clear hK K q2
      try simp only [Act.put, List.setIfInBounds_toArray, List.set_cons_zero, List.set_cons_succ, List.getElem_toArray, List.getElem_cons_zero, List.getElem_cons_succ]
      refine wpAnyH_take (i := 5) (v := .bool true) rfl (by kernel_rfl) (by kernel_rfl) (by kernel_rfl) (fun _ _ _ h => h) (Or.inl ⟨by rfl, fun w hw => by have z0 := y0 w hw; have z1 := y1 w hw; have z2 := y2 w hw; have z3 := y3 w hw; have z4 := y4 w hw; have z5 := y5 w hw; have z6 := y6 w hw; have z7 := y7 w hw; have z8 := y8 w hw; have z9 := y9 w hw; have z10 := y10 w hw; go_simp⟩) hS ?_
      try simp only [Act.put, List.setIfInBounds_toArray, List.set_cons_zero, List.set_cons_succ, List.getElem_toArray, List.getElem_cons_zero, List.getElem_cons_succ]
      refine wpAnyH_done (by kernel_rfl) ?_ _
      clear hS
      have HB5 := Lib.hid (bstep HB4.out HB4.out.size B_t1.out)
      have HG5 := Lib.hid (scB_keep HG4.out B_t1.out (scB_lt HG4.out))
      clear HX4 HB4 HG4 HO4 HBy HCk HC2 HC3 HSt HSb hsz HR1
      obtain ⟨W, hW, hS, hB⟩ := setz HG5.out HB5.out (Nat.le_refl _)
      have HS := Lib.hid hS
      have HB := Lib.hid hB
      have f0 := scB_free (HG5.out)
      obtain ⟨g0, g1, g2, g3, g4, g5, g6, g7, g8, g9⟩ := scB_cell (HG5.out)
      have gl := scB_lt (HG5.out)
      clear hS hB HG5 HB5
      replace hW := Lib.hid hW
      go_wp2_with fail
      rw [hW.out]
      have k := scB_cell HS.out
      simp only [noS, flat0, zC, List.length_nil] at k
      refine bodyPost_ret (v := .tuple #[.agg #[.int .i64 0, .int .i64 0, .int .u8 0, .int .u8 0, .int .u8 0, .int .u8 0, .slice none 0 0, .slice none 0 0, .slice none 0 0, .slice none 0 0], .int .i64 10]) (by simp [results, Tryz.results11, go_sem, k]) rfl ⟨noS, 10, rfl, HB.out, noS_on _ _, noS_cap, HT.out⟩
end Go.Proofs.YtfmmfaeognoleaaGreat
