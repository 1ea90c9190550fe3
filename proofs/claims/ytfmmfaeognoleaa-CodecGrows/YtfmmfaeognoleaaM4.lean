/-
  The contract of scene.Check.
-/
import Derived.Test.YtfmmfaeognoleaaM3
import Derived.RangeFuncBox
import Derived.Deep.Draws
import Derived.Shelf.Abstract
import Derived.Shelf.RegionOpen
import Derived.Laws.OwnMore
import Derived.ProofKit
import Derived.OpenShut
import Derived.ShutString
import Derived.ChangeOld
import Derived.Deep.Slices
namespace Go.Proofs.Ytfmmfaeognoleaa
open Go.RowKit
attribute [local go_sem ↓] Go.wp_at_zero Go.wp_at_succ

theorem Es.pre {α : Type} {E : Elem α} {w : World} {B : Nat} {A : Option Addr} {xs ys : List α} (h : Es E w B A (xs ++ ys)) : Es E w B A xs := fun hne => by
  obtain ⟨b, off, e, hb, hc⟩ := h (by intro h; exact hne (List.append_eq_nil_iff.1 h).1)
  refine ⟨b, off, e, hb, fun j u hj => hc j u ?_⟩
  rw [List.getElem?_append_left (List.getElem?_eq_some_iff.1 hj).1]
  exact hj
theorem Es.takes {α : Type} {E : Elem α} {w : World} {B : Nat} {A : Option Addr} {xs : List α} (h : Es E w B A xs) (k : Nat) : Es E w B A (xs.take k) := by
  rw [← List.take_append_drop k xs] at h
  exact h.pre
theorem check_ways (s : Sc) :
    (inB s.w 1 64 = false → check s.p = 20) ∧ (inB s.w 1 64 = true → inB s.h 1 64 = false → check s.p = 20)
    ∧ (inB s.w 1 64 = true → inB s.h 1 64 = true → (rightB s.k = false → check s.p = 1)
      ∧ (rightB s.k = true → (manyB s.p = true → check s.p = 26)
        ∧ (manyB s.p = false → (s.vs.all U.rightB = false → check s.p = 21)
          ∧ (s.vs.all U.rightB = true → ((s.ts.all fun l => l.x.right) = false → check s.p = 22)
            ∧ ((s.ts.all fun l => l.x.right) = true → ((s.ps.all fun l => decide (C.chk l.x = 0)) = false → check s.p = 23)
              ∧ ((s.ps.all fun l => decide (C.chk l.x = 0)) = true → check s.p = firstE (errAt s.p) 0 s.ds.length)))))) := by
  have e1 : s.p.w = s.w := rfl
  have e2 : s.p.h = s.h := rfl
  have e3 : s.p.k = s.k := rfl
  have e4 : s.p.vs = s.vs := rfl
  have e5 : s.p.ts.all Tx.right = s.ts.all fun l => l.x.right := by show (s.ts.map Lo.x).all _ = _; rw [List.all_map]; rfl
  have e6 : (s.p.ps.all fun l => decide (C.chk l = 0)) = s.ps.all fun l => decide (C.chk l.x = 0) := by show (s.ps.map Lo.x).all _ = _; rw [List.all_map]; rfl
  have e7 : s.p.ds.length = s.ds.length := by show (s.ds.map Lo.x).length = _; rw [List.length_map]
  unfold check headE
  rw [e1, e2, e3, e4, e5, e6, e7]
  generalize inB s.w 1 64 = r1
  generalize inB s.h 1 64 = r2
  generalize rightB s.k = r3
  generalize manyB s.p = r4
  generalize s.vs.all U.rightB = r5
  generalize (s.ts.all fun l => l.x.right) = r6
  generalize (s.ps.all fun l => decide (C.chk l.x = 0)) = r7
  refine ⟨fun a => ?_, fun a b => ?_, fun a b => ⟨fun c => ?_, fun c => ⟨fun d => ?_, fun d => ⟨fun e => ?_, fun e => ⟨fun f => ?_, fun f => ⟨fun g => ?_, fun g => ?_⟩⟩⟩⟩⟩⟩ <;> subst_vars <;> simp
theorem errAt_sc {s : Sc} {j : Nat} {u : Lo Dr} (h : s.ds[j]? = some u) : errAt s.p j = drawE s.p ((s.ds.take j).map Lo.x) u.x := by
  have : s.p.ds[j]? = some u.x := by show (s.ds.map Lo.x)[j]? = _; rw [List.getElem?_map, h]; rfl
  rw [errAt_eq this]
  show drawE s.p ((s.ds.map Lo.x).take j) u.x = _
  rw [List.map_take]
theorem errs_sc {s : Sc} {j : Nat} (hj : j ≤ s.ds.length) (h : ∀ i, i < j → errAt s.p i = 0) : ((s.ds.take j).map fun x => x.x.id).Nodup := by
  have e : s.p.ds = s.ds.map Lo.x := rfl
  have := errs_nodup (s := s.p) (k := j) (by rw [e, List.length_map]; exact hj) h
  rw [e, ← List.map_take, List.map_map] at this
  exact this
/-- One draw, with those ahead of it. -/
theorem one_last (s : Sc) (hok : s.ok) (hf : s.few) {j : Nat} {u : Lo Dr} (hu : s.ds[j]? = some u) (herr : ∀ i, i < j → errAt s.p i = 0) (W : World) (ha : s.at W W.heap.size) :
    Calls Try.prog 40 #[.agg #[.int .i64 s.w, .int .i64 s.h, .int .u8 s.k.r, .int .u8 s.k.g, .int .u8 s.k.b, .int .u8 s.k.a, .slice s.vA s.vs.length s.vc, .slice s.tA s.ts.length s.tc, .slice s.pA s.ps.length s.pc, .slice s.dA s.ds.length s.dc], .slice s.dA (j + 1) (j + 1)] W fun e w' => e = .returned (.int .i64 (errAt s.p j)) ∧ Below W.heap.size W w' := by
  have hj := (List.getElem?_eq_some_iff.1 hu).1
  have hm := List.mem_of_getElem? hu
  have hl : (s.ds.take j).length = j := by rw [List.length_take]; omega
  have h := checkLast_any s s.dA (j + 1) (s.ds.take j) u W ha hok hf (by have := hf.ds; omega) (fun x hx => by rw [← take_snoc hu] at hx; exact (hok.ds x (List.mem_of_mem_take hx)).1.id) (fun t ht => ((hok.ds u hm).1.tris t ht).i) (hf.dx u hm) (ha.dx u hm) (by rw [← take_snoc hu]; exact ha.d.takes _) (errs_sc (by omega) herr)
  rw [hl, ← errAt_sc hu] at h
  exact h
set_option maxRecDepth 100000 in
set_option maxHeartbeats 8000000 in
theorem check_scene (s : Sc) (w : World) (ha : s.at w w.heap.size) (hok : s.ok) (hf : s.few) :
    Calls Try.prog 17 #[.agg #[.int .i64 s.w, .int .i64 s.h, .int .u8 s.k.r, .int .u8 s.k.g, .int .u8 s.k.b, .int .u8 s.k.a, .slice s.vA s.vs.length s.vc, .slice s.tA s.ts.length s.tc, .slice s.pA s.ps.length s.pc, .slice s.dA s.ds.length s.dc]] w fun e w' => e = .returned (.int .i64 (check s.p)) ∧ Below w.heap.size w w' := by
  have HK := Lib.hid (new_below w (.cells #[.int .i64 s.w, .int .i64 s.h, .int .u8 s.k.r, .int .u8 s.k.g, .int .u8 s.k.b, .int .u8 s.k.a, .slice s.vA s.vs.length s.vc, .slice s.tA s.ts.length s.tc, .slice s.pA s.ps.length s.pc, .slice s.dA s.ds.length s.dc] 33))
  have HG := Lib.hid (show (w.alloc (.cells #[.int .i64 s.w, .int .i64 s.h, .int .u8 s.k.r, .int .u8 s.k.g, .int .u8 s.k.b, .int .u8 s.k.a, .slice s.vA s.vs.length s.vc, .slice s.tA s.ts.length s.tc, .slice s.pA s.ps.length s.pc, .slice s.dA s.ds.length s.dc] 33)).heap[w.heap.size]? = some (scB s) from heap_alloc_new _ _)
  have H1 := Lib.hid (within_any s.w 1 64)
  have H2 := Lib.hid (within_any s.h 1 64)
  have H3 := Lib.hid (cright_any s.k)
  have H4 := Lib.hid (fun W (hb : Below w.heap.size w W) => tooMany_any s W ((ha.below hb).sharp))
  have H5 := Lib.hid (fun W (hb : Below w.heap.size w W) => all26_any U.rightB 35 #[] (fun args w => by go_simp) s.vs s.vA s.vc hf.vs W ((ha.v.below hb).sharp) (fun x _ W2 _ => U.right_any x W2))
  have H6 := Lib.hid (fun W (hb : Below w.heap.size w W) => all28_any (fun l => l.x.right) 37 #[] (fun args w => by go_simp) s.ts s.tA s.tc hf.ts W ((ha.t.below hb).sharp) (fun x _ W2 _ => right_any x.x x.A x.c W2))
  have H7 := Lib.hid (fun W (hb : Below w.heap.size w W) => all30_any (fun l => decide (C.chk l.x = 0)) 39 #[] (fun args w => by go_simp) s.ps s.pA s.pc hf.ps W ((ha.p.below hb).sharp) (fun x hx W2 hb2 => mayRun_any x.x x.A x.c (hok.ps x hx).1 W2 ((((ha.px x hx).below hb).sharp.below hb2).sharp)))
  have H8 := Lib.hid (fun (j : Nat) (u : Lo Dr) (hu : s.ds[j]? = some u) (herr : ∀ i, i < j → errAt s.p i = 0) W (hb : Below w.heap.size w W) => one_last s hok hf hu herr W ((ha.below hb).sharp))
  have HS := Lib.hid (fun (j : Nat) (u : Lo Dr) (hu : s.ds[j]? = some u) => ha.d.at hu)
  have HL := Lib.hid (fun (k : Nat) (h : k < s.ds.length) => get_lt (l := s.ds) h)
  have HGd := Lib.hid (fun h => errs_good (s := s.p) (n := s.ds.length) h)
  have HBd := Lib.hid (fun (j : Nat) (hj : j < s.ds.length) h1 h2 => errs_bad (s := s.p) (n := s.ds.length) (j := j) hj h1 h2)
  have HW := Lib.hid (check_ways s)
  have hdc := hok.dc
  have hds := hf.ds
  generalize check s.p = R at *
  generalize errAt s.p = er at *
  generalize firstE er 0 s.ds.length = F at *
  generalize inB s.w 1 64 = r1 at *
  generalize inB s.h 1 64 = r2 at *
  generalize rightB s.k = r3 at *
  generalize manyB s.p = r4 at *
  generalize s.vs.all U.rightB = r5 at *
  generalize (s.ts.all fun l => l.x.right) = r6 at *
  generalize (s.ps.all fun l => decide (C.chk l.x = 0)) = r7 at *
  obtain ⟨dA, hdA⟩ : ∃ a, s.dA = a := ⟨_, rfl⟩
  rw [hdA] at HK HG HS H8 ⊢
  replace hdA := Lib.hid hdA
  clear ha hok hf
  go_enter Try.func17, Try.ntmps17
  go_wp2_with fail
  with_reducible refine (H1.out _).mono ?_
  rintro e w2 ⟨rfl, rfl⟩
  cases r1
  · obtain rfl : R = 20 := HW.out.1 (by simp)
    go_wp2
    go_ret
    exact ⟨rfl, HK.out⟩
  go_wp2_with fail
  with_reducible refine (H2.out _).mono ?_
  rintro e w2 ⟨rfl, rfl⟩
  cases r2
  · obtain rfl : R = 20 := HW.out.2.1 (by simp) (by simp)
    go_wp2
    go_ret
    exact ⟨rfl, HK.out⟩
  have HW2 := Lib.hid (HW.out.2.2 (by simp) (by simp))
  clear HW H1 H2
  go_wp2_with fail
  with_reducible refine (H3.out _).mono ?_
  rintro e w3 ⟨rfl, hb⟩
  have B3 := Lib.hid (bstep HK.out HK.out.size hb)
  have G3 := Lib.hid (scB_keep HG.out hb (scB_lt HG.out))
  clear hb HK HG H3
  cases r3
  · obtain rfl : R = 1 := HW2.out.1 (by simp)
    go_wp2
    go_ret
    exact ⟨rfl, B3.out⟩
  have HW3 := Lib.hid (HW2.out.2 (by simp))
  clear HW2
  obtain ⟨c0, c1, c2, c3, c4, c5, c6, c7, c8, c9⟩ := scB_cell G3.out
  have hg3 := scB_lt G3.out
  go_wp2_with fail
  with_reducible refine (H4.out _ B3.out).mono ?_
  rintro e w4 ⟨rfl, hb⟩
  have B4 := Lib.hid (bstep B3.out B3.out.size hb)
  have G4 := Lib.hid (scB_keep G3.out hb (scB_lt G3.out))
  clear hb B3 G3 H4 c0 c1 c2 c3 c4 c5 c6 c7 c8 c9 hg3
  cases r4
  case true =>
    obtain rfl : R = 26 := HW3.out.1 (by simp)
    go_wp2
    go_ret
    exact ⟨rfl, B4.out⟩
  have HW4 := Lib.hid (HW3.out.2 (by simp))
  clear HW3
  obtain ⟨c0, c1, c2, c3, c4, c5, c6, c7, c8, c9⟩ := scB_cell G4.out
  have hg4 := scB_lt G4.out
  go_wp2_with fail
  with_reducible refine (H5.out _ B4.out).mono ?_
  rintro e w5 ⟨rfl, hb⟩
  have B5 := Lib.hid (bstep B4.out B4.out.size hb)
  have G5 := Lib.hid (scB_keep G4.out hb (scB_lt G4.out))
  clear hb B4 G4 H5 c0 c1 c2 c3 c4 c5 c6 c7 c8 c9 hg4
  cases r5
  · obtain rfl : R = 21 := HW4.out.1 (by simp)
    go_wp2
    go_ret
    exact ⟨rfl, B5.out⟩
  have HW5 := Lib.hid (HW4.out.2 (by simp))
  clear HW4
  obtain ⟨c0, c1, c2, c3, c4, c5, c6, c7, c8, c9⟩ := scB_cell G5.out
  have hg5 := scB_lt G5.out
  go_wp2_with fail
  with_reducible refine (H6.out _ B5.out).mono ?_
  rintro e w6 ⟨rfl, hb⟩
  have B6 := Lib.hid (bstep B5.out B5.out.size hb)
  have G6 := Lib.hid (scB_keep G5.out hb (scB_lt G5.out))
  clear hb B5 G5 H6 c0 c1 c2 c3 c4 c5 c6 c7 c8 c9 hg5
  cases r6
  · obtain rfl : R = 22 := HW5.out.1 (by simp)
    go_wp2
    go_ret
    exact ⟨rfl, B6.out⟩
  have HW6 := Lib.hid (HW5.out.2 (by simp))
  clear HW5
  obtain ⟨c0, c1, c2, c3, c4, c5, c6, c7, c8, c9⟩ := scB_cell G6.out
  have hg6 := scB_lt G6.out
  go_wp2_with fail
  with_reducible refine (H7.out _ B6.out).mono ?_
  rintro e w7 ⟨rfl, hb⟩
  have B7 := Lib.hid (bstep B6.out B6.out.size hb)
  have G7 := Lib.hid (scB_keep G6.out hb (scB_lt G6.out))
  clear hb B6 G6 H7 c0 c1 c2 c3 c4 c5 c6 c7 c8 c9 hg6
  cases r7
  · obtain rfl : R = 23 := HW6.out.1 (by simp)
    go_wp2
    go_ret
    exact ⟨rfl, B7.out⟩
  obtain rfl : R = F := HW6.out.2 (by simp)
  clear HW6
  obtain ⟨c0, c1, c2, c3, c4, c5, c6, c7, c8, c9⟩ := scB_cell G7.out
  have hg7 := scB_lt G7.out
  obtain ⟨n, hn⟩ : ∃ n, s.ds.length = n := ⟨_, rfl⟩
  rw [hn, hdA.out] at c9
  rw [hn] at HL HGd HBd hdc hds
  go_wp2_with fail
  clear c0 c1 c2 c3 c4 c5 c6 c7 c8 c9 hg7
  replace hn := Lib.hid hn
  go_loopw [42] (fun i wr => ∃ j : Nat, j ≤ n ∧ i = .int .i64 j ∧ (∀ i, i < j → er i = 0) ∧ Below w.heap.size w wr ∧ wr.heap[w.heap.size]? = some (scB s)) (fun i _ => n - (intOf i).toNat)
  case atStart => exact ⟨0, Nat.zero_le _, rfl, fun i h => absurd h (Nat.not_lt_zero _), B7.out, G7.out⟩
  case round =>
    obtain ⟨j, hk, rfl, hin, hb, hg⟩ := hrel
    have HB := Lib.hid hb
    have HI := Lib.hid hin
    have HG := Lib.hid hg
    clear hin hb hg
    by_cases hlt : j < n
    · obtain ⟨u, hu⟩ := HL.out j hlt
      obtain ⟨b, off, rfl, -, -⟩ := HS.out j u hu
      obtain ⟨c0, c1, c2, c3, c4, c5, c6, c7, c8, c9⟩ := scB_cell HG.out
      have HC := Lib.hid (fun W hW => H8.out j u hu HI.out W hW)
      rw [hn.out, hdA.out] at c9
      rw [hn.out] at HC
      have hg := scB_lt HG.out
      obtain ⟨x, hx⟩ : ∃ x, er j = x := ⟨_, rfl⟩
      rw [hx] at HC
      have HX := Lib.hid hx
      have w1 : IntKind.i64.wrap ((j : Int) + 1) = j + 1 := by rw [IntKind.wrap_i64]; omega
      clear hu hx
      go_wp2_with fail
      have k1 : (0 : Int) ≤ (j : Int) + 1 := by omega
      have k2 : (j : Int) + 1 ≤ s.dc := by omega
      have y0 : ∀ x : Grow wr, x.w.cell? ⟨w.heap.size, 0, none⟩ = _ := fun x => x.cell c0
      have y1 : ∀ x : Grow wr, x.w.cell? ⟨w.heap.size, 1, none⟩ = _ := fun x => x.cell c1
      have y2 : ∀ x : Grow wr, x.w.cell? ⟨w.heap.size, 2, none⟩ = _ := fun x => x.cell c2
      have y3 : ∀ x : Grow wr, x.w.cell? ⟨w.heap.size, 3, none⟩ = _ := fun x => x.cell c3
      have y4 : ∀ x : Grow wr, x.w.cell? ⟨w.heap.size, 4, none⟩ = _ := fun x => x.cell c4
      have y5 : ∀ x : Grow wr, x.w.cell? ⟨w.heap.size, 5, none⟩ = _ := fun x => x.cell c5
      have y6 : ∀ x : Grow wr, x.w.cell? ⟨w.heap.size, 6, none⟩ = _ := fun x => x.cell c6
      have y7 : ∀ x : Grow wr, x.w.cell? ⟨w.heap.size, 7, none⟩ = _ := fun x => x.cell c7
      have y8 : ∀ x : Grow wr, x.w.cell? ⟨w.heap.size, 8, none⟩ = _ := fun x => x.cell c8
      have y9 : ∀ x : Grow wr, x.w.cell? ⟨w.heap.size, 9, none⟩ = _ := fun x => x.cell c9
      refine wp_region_held_drew (S := fun w' => ∃ x : Grow wr, w' = x.w) (by kernel_rfl) ⟨⟨_, (Below.refl _ _).drew⟩, rfl⟩ (fun hS => ?_)
      have BD := Lib.hid (show Below w.heap.size w wr.drew from HB.out.drew)
      have GD := Lib.hid (show wr.drew.heap[w.heap.size]? = some (scB s) from HG.out)
      have DW := Lib.hid (show Below wr.heap.size wr wr.drew from (Below.refl _ _).drew)
      generalize wr.drew = Y at *
      refine wpAnyH_take (i := 0) (v := .agg #[.int .i64 s.w, .int .i64 s.h, .int .u8 s.k.r, .int .u8 s.k.g, .int .u8 s.k.b, .int .u8 s.k.a, .slice s.vA s.vs.length s.vc, .slice s.tA s.ts.length s.tc, .slice s.pA s.ps.length s.pc, .slice (some ⟨b, off, none⟩) n s.dc]) rfl (by kernel_rfl) (by kernel_rfl) (by kernel_rfl) (fun _ _ _ h => h) (Or.inl ⟨by rfl, fun w hw => by obtain ⟨x, rfl⟩ := hw; go_simp⟩) hS ?_
      try simp only [Act.put, List.setIfInBounds_toArray, List.set_cons_zero, List.set_cons_succ, List.getElem_toArray, List.getElem_cons_zero]
      refine wpAnyH_take (i := 1) (v := .pointer (some ⟨w.heap.size, 9, none⟩)) rfl (by kernel_rfl) (by kernel_rfl) (by kernel_rfl) (fun _ _ _ h => h) (Or.inl ⟨by rfl, fun w hw => by obtain ⟨x, rfl⟩ := hw; go_simp⟩) hS ?_
      try simp only [Act.put, List.setIfInBounds_toArray, List.set_cons_zero, List.set_cons_succ, List.getElem_toArray, List.getElem_cons_zero, List.getElem_cons_succ]
      refine wpAnyH_take (i := 2) (v := .slice (some ⟨b, off, none⟩) n s.dc) rfl (by kernel_rfl) (by kernel_rfl) (by kernel_rfl) (fun _ _ _ h => h) (Or.inl ⟨by rfl, fun w hw => by obtain ⟨x, rfl⟩ := hw; go_simp⟩) hS ?_
      try simp only [Act.put, List.setIfInBounds_toArray, List.set_cons_zero, List.set_cons_succ, List.getElem_toArray, List.getElem_cons_zero, List.getElem_cons_succ]
      refine wpAnyH_take (i := 3) (v := .int .i64 j) rfl (by kernel_rfl) (by kernel_rfl) (by kernel_rfl) (fun _ _ _ h => h) (Or.inl ⟨by rfl, fun w hw => by obtain ⟨x, rfl⟩ := hw; go_simp⟩) hS ?_
      try simp only [Act.put, List.setIfInBounds_toArray, List.set_cons_zero, List.set_cons_succ, List.getElem_toArray, List.getElem_cons_zero, List.getElem_cons_succ]
      refine wpAnyH_take (i := 4) (v := .int .i64 (j + 1)) rfl (by kernel_rfl) (by kernel_rfl) (by kernel_rfl) (fun _ _ _ h => h) (Or.inl ⟨by rfl, fun w hw => by obtain ⟨x, rfl⟩ := hw; go_simp⟩) hS ?_
      try simp only [Act.put, List.setIfInBounds_toArray, List.set_cons_zero, List.set_cons_succ, List.getElem_toArray, List.getElem_cons_zero, List.getElem_cons_succ]
      refine wpAnyH_take (i := 5) (v := .int .i64 j) rfl (by kernel_rfl) (by kernel_rfl) (by kernel_rfl) (fun _ _ _ h => h) (Or.inl ⟨by rfl, fun w hw => by obtain ⟨x, rfl⟩ := hw; go_simp⟩) hS ?_
      try simp only [Act.put, List.setIfInBounds_toArray, List.set_cons_zero, List.set_cons_succ, List.getElem_toArray, List.getElem_cons_zero, List.getElem_cons_succ]
      refine wpAnyH_take (i := 6) (v := .int .i64 (j + 1)) rfl (by kernel_rfl) (by kernel_rfl) (by kernel_rfl) (fun _ _ _ h => h) (Or.inl ⟨by rfl, fun w hw => by obtain ⟨x, rfl⟩ := hw; go_simp⟩) hS ?_
      try simp only [Act.put, List.setIfInBounds_toArray, List.set_cons_zero, List.set_cons_succ, List.getElem_toArray, List.getElem_cons_zero, List.getElem_cons_succ]
      refine wpAnyH_take (i := 7) (v := .slice (some ⟨b, off, none⟩) (j + 1) (j + 1)) rfl (by kernel_rfl) (by kernel_rfl) (by kernel_rfl) (fun _ _ _ h => h) (Or.inl ⟨by rfl, fun w hw => by obtain ⟨x, rfl⟩ := hw; go_simp⟩) hS ?_
      try simp only [Act.put, List.setIfInBounds_toArray, List.set_cons_zero, List.set_cons_succ, List.getElem_toArray, List.getElem_cons_zero, List.getElem_cons_succ]
      refine wpAnyH_ready (rs := [8]) (by kernel_rfl) (by simp) ?_
      refine AllReadyH.cons rfl (fun K hK => ?_) AllReadyH.nil
      go_simp
      with_reducible refine (HC.out _ BD.out).mono ?_
      rintro e w8 ⟨rfl, hb⟩
      have DW8 := Lib.hid (bstep DW.out DW.out.size hb)
      refine hK.out _ _ ⟨⟨_, DW8.out⟩, rfl⟩ (fun hS => ?_)
      clear hK K
      try simp only [Act.put, List.setIfInBounds_toArray, List.set_cons_zero, List.set_cons_succ, List.getElem_toArray, List.getElem_cons_zero, List.getElem_cons_succ]
      refine wpAnyH_take (i := 9) (v := .int .i64 x) rfl (by kernel_rfl) (by kernel_rfl) (by kernel_rfl) (fun _ _ _ h => h) (Or.inl ⟨by rfl, fun w hw => by obtain ⟨x, rfl⟩ := hw; go_simp⟩) hS ?_
      try simp only [Act.put, List.setIfInBounds_toArray, List.set_cons_zero, List.set_cons_succ, List.getElem_toArray, List.getElem_cons_zero, List.getElem_cons_succ]
      refine wpAnyH_done (by kernel_rfl) ?_ _
      have B8 := Lib.hid (bstep BD.out BD.out.size hb)
      have G8 := Lib.hid (scB_keep GD.out hb (scB_lt GD.out))
      clear hb BD GD HC c0 c1 c2 c3 c4 c5 c6 c7 c8 c9 hg y0 y1 y2 y3 y4 y5 y6 y7 y8 y9 DW DW8 hS
      by_cases x0 : x = 0
      · have d1 : (x == 0) = true := by simp [x0]
        have d2 : decide (x = 0) = true := by simp [x0]
        go_wp2_with fail
        go_roundw
        case rel =>
          refine ⟨j + 1, by omega, by go_num, fun i hi => ?_, B8.out, G8.out⟩
          rcases Nat.lt_or_ge i j with h | h
          · exact HI.out i h
          · obtain rfl : i = j := by omega
            rw [HX.out]
            exact x0
        case measure => simp [intOf]; omega
      · have d1 : (x == 0) = false := by simp [x0]
        have d2 : decide (x = 0) = false := by simp [x0]
        obtain rfl : R = x := by rw [HBd.out j hlt HI.out (by rw [HX.out]; exact x0), HX.out]
        go_wp2_with fail
        go_ret
        exact ⟨rfl, B8.out⟩
    · obtain rfl : j = n := by omega
      obtain rfl : R = 0 := HGd.out HI.out
      go_wp2
      go_ret
      exact ⟨rfl, HB.out⟩
end Go.Proofs.Ytfmmfaeognoleaa
/-
  The contracts of the reference's mod, place, many and draw.
-/
namespace Go.Proofs.Ytfmmfaeognoleaa
open Go.RowKit
attribute [local go_sem ↓] Go.wp_at_zero Go.wp_at_succ

theorem draw_ways (s : Sc) (pre : List Dr) (d : Dr) :
    (¬ (0 ≤ d.id ∧ d.id ≤ 9999 ∧ 0 ≤ d.prog ∧ d.prog < s.ps.length ∧ -1 ≤ d.tex ∧ d.tex < s.ts.length) → drawE s.p pre d = 24)
    ∧ ((0 ≤ d.id ∧ d.id ≤ 9999 ∧ 0 ≤ d.prog ∧ d.prog < s.ps.length ∧ -1 ≤ d.tex ∧ d.tex < s.ts.length) →
      (((s.p.ps.getD d.prog.toNat []).any C.tex = true → d.tex = -1 → drawE s.p pre d = 24)
      ∧ (¬ ((s.p.ps.getD d.prog.toNat []).any C.tex = true ∧ d.tex = -1) →
        ((∀ (j : Nat) t, d.tris[j]? = some t → triB s.vs.length t = false → drawE s.p pre d = 24)
        ∧ ((∀ (j : Nat) t, d.tris[j]? = some t → triB s.vs.length t = true) →
          ((∀ (i : Nat) e, pre[i]? = some e → e.id = d.id → drawE s.p pre d = 25)
          ∧ ((∀ (i : Nat) e, pre[i]? = some e → e.id ≠ d.id) →
            ((∀ (i j : Nat) t u, j < i → d.tris[i]? = some t → d.tris[j]? = some u → t.i = u.i → drawE s.p pre d = 25)
            ∧ ((∀ (i j : Nat) t u, j < i → d.tris[i]? = some t → d.tris[j]? = some u → t.i ≠ u.i) → drawE s.p pre d = 0))))))))) := by
  have hb : drawE s.p pre d = if ptsB s.p d = false then 24 else if (pre.map Dr.id).contains d.id || twiceB (d.tris.map Tr.i) then 25 else 0 := rfl
  have hp := ptsB_eq s d
  have ht : texB s.p d = if d.tex = -1 then !((s.p.ps.getD d.prog.toNat []).any C.tex) else inB d.tex 0 (s.ts.length - 1) := by
    unfold texB
    rw [show s.p.ts.length = s.ts.length from by show (s.ts.map Lo.x).length = _; rw [List.length_map]]
  refine ⟨fun h => ?_, fun h => ⟨fun h1 h2 => ?_, fun h1 => ⟨fun j t hj h2 => ?_, fun h2 => ?_⟩⟩⟩
  · have : ptsB s.p d = false := by
      rw [hp, ht]
      unfold inB
      by_cases a : 0 ≤ d.id ∧ d.id ≤ 9999
      · by_cases b : 0 ≤ d.prog ∧ d.prog ≤ s.ps.length - 1
        · have c : ¬ d.tex = -1 := by omega
          have e : ¬ (0 ≤ d.tex ∧ d.tex ≤ s.ts.length - 1) := by omega
          rw [if_neg c, decide_eq_false e]
          simp
        · rw [decide_eq_false b]
          simp
      · rw [decide_eq_false a]
        simp
    rw [hb, if_pos this]
  · have : ptsB s.p d = false := by
      rw [hp, ht, if_pos h2, h1]
      simp
    rw [hb, if_pos this]
  · have : ptsB s.p d = false := by
      rw [hp, all_no hj h2]
      simp
    rw [hb, if_pos this]
  · have hpt : ptsB s.p d = true := by
      rw [hp, ht, all_yes h2]
      have a : inB d.id 0 9999 = true := by unfold inB; simp; omega
      have b : inB d.prog 0 (s.ps.length - 1) = true := by unfold inB; simp; omega
      rw [a, b]
      by_cases c : d.tex = -1
      · rw [if_pos c]
        have : (s.p.ps.getD d.prog.toNat []).any C.tex = false := by
          cases e : (s.p.ps.getD d.prog.toNat []).any C.tex
          · rfl
          · exact absurd ⟨e, c⟩ h1
        rw [this]
        simp
      · rw [if_neg c]
        have : inB d.tex 0 (s.ts.length - 1) = true := by unfold inB; simp; omega
        rw [this]
        simp
    have hb2 : drawE s.p pre d = if (pre.map Dr.id).contains d.id || twiceB (d.tris.map Tr.i) then 25 else 0 := by rw [hb, if_neg (by rw [hpt]; simp)]
    rw [hb2, List.contains_eq_mem]
    refine ⟨fun i e hi he => ?_, fun h3 => ⟨fun i j t u hij hi hj he => ?_, fun h4 => ?_⟩⟩
    · have : d.id ∈ pre.map Dr.id := List.mem_map.2 ⟨e, List.mem_of_getElem? hi, he⟩
      simp [this]
    · have : twiceB (d.tris.map Tr.i) = true := by
        cases h : twiceB (d.tris.map Tr.i)
        · exact (nodup_apart (twiceB_no.1 h) (x := t.i) hij (by rw [List.getElem?_map, hj, he]; rfl) (by rw [List.getElem?_map, hi]; rfl)).elim
        · rfl
      simp [this]
    · have h5 : d.id ∉ pre.map Dr.id := fun hm => by
        obtain ⟨e, he, hid⟩ := List.mem_map.1 hm
        obtain ⟨i, hi⟩ := List.mem_iff_getElem?.1 he
        exact h3 i e hi hid
      have h6 : twiceB (d.tris.map Tr.i) = false := twiceB_no.2 (List.pairwise_iff_getElem.2 fun i j hi hj hij e => by
        simp only [List.length_map] at hi hj
        rw [List.getElem_map, List.getElem_map] at e
        exact h4 j i _ _ hij (List.getElem?_eq_getElem hj) (List.getElem?_eq_getElem hi) e.symm)
      simp [h5, h6]
end Go.Proofs.Ytfmmfaeognoleaa
/-
  The contract of the reference's draw.
-/
namespace Go.Proofs.Ytfmmfaeognoleaa
open Go.RowKit
attribute [local go_sem ↓] Go.wp_at_zero Go.wp_at_succ

end Go.Proofs.Ytfmmfaeognoleaa
/-
  The contract of the reference's Check.
-/
namespace Go.Proofs.Ytfmmfaeognoleaa
open Go.RowKit
attribute [local go_sem ↓] Go.wp_at_zero Go.wp_at_succ

theorem chk_two (l : List C.In) : C.chk l = 0 ∨ C.chk l = 23 := by
  unfold C.chk
  split
  · exact .inr rfl
  · split
    · exact .inl rfl
    · exact .inr rfl
end Go.Proofs.Ytfmmfaeognoleaa
/-
  The document's examples; the reference's Count and mod; an empty scene.
-/
namespace Go.Proofs.Ytfmmfaeognoleaa
open Go.RowKit
attribute [local go_sem ↓] Go.wp_at_zero Go.wp_at_succ

/-- A scene of two sides, and nothing else. -/
def bare (W H : Int) : Sc := ⟨W, H, zC, [], none, 0, [], none, 0, [], none, 0, [], none, 0⟩
theorem bare_at (W H : Int) (w : World) (B : Nat) : (bare W H).at w B :=
  ⟨Es.none_, Es.none_, fun l h => (by cases h), Es.none_, fun l h => (by cases h), Es.none_, fun l h => (by cases h)⟩
theorem bare_ok {W H : Int} (hW : I64 W) (hH : I64 H) : (bare W H).ok :=
  ⟨hW, hH, zC_ok, fun v h => (by cases h), fun l h => (by cases h), fun l h => (by cases h), fun l h => (by cases h), Nat.le_refl _, Nat.le_refl _, Nat.le_refl _, Nat.le_refl _⟩
theorem bare_few (W H : Int) : (bare W H).few := by
  constructor <;> first | exact Nat.zero_le _ | (intro l h; cases h)
theorem bare_one : check (bare 1 1).p = 0 := by decide
theorem bare_two : check (bare 65 1).p = 20 := by decide
set_option maxHeartbeats 1000000 in
theorem rmod_any (n b : Int) (hn : I64 n) (hb : 0 < b) (hb2 : b ≤ 4611686018427387904) (w : World) :
    Calls Try.prog 22 #[.int .i64 n, .int .i64 b] w fun e w' => e = .returned (.int .i64 (n % b)) ∧ w = w' := by
  have hw := C.emod_ways n b hb
  have hp := Int.lt_tmod_of_pos n hb
  have hq := Int.tmod_lt_of_pos n hb
  obtain ⟨k, hk⟩ : ∃ k, n.tmod b = k := ⟨_, rfl⟩
  rw [hk] at hw hp hq
  have g0 : IntKind.i64.wrap k = k := by rw [IntKind.wrap_i64]; omega
  have g1 : IntKind.i64.wrap (k + b) = k + b := by rw [IntKind.wrap_i64]; omega
  have hb0 : ¬ b = 0 := by omega
  have HN := Lib.hid hn
  clear hn
  rcases hw with ⟨h, e⟩ | ⟨h, e⟩
  · rw [e]
    clear e hp hq hb hb2
    go_enter Try.func22, Try.ntmps22
    go_wp2_with fail
    go_ret
    exact ⟨rfl, rfl⟩
  · rw [e]
    clear e hp hq hb hb2
    go_enter Try.func22, Try.ntmps22
    go_wp2_with fail
    go_ret
    exact ⟨rfl, rfl⟩
theorem sum_le : ∀ (l : List Nat), (∀ x ∈ l, x ≤ 100000) → l.sum ≤ l.length * 100000
  | [], _ => by simp
  | a :: l, h => by
    have h1 := sum_le l fun x hx => h x (by simp [hx])
    have h2 := h a (by simp)
    rw [List.sum_cons, List.length_cons]
    omega
end Go.Proofs.Ytfmmfaeognoleaa
/-
  Rows whose elements lead to rows of the call's own; what stays of them; a cell of a row written over.
-/
namespace Go.Proofs.Ytfmmfaeognoleaa
open Go.RowKit

section
variable {α β : Type} {E : Elem α} {w w' X Y : World} {p q : Nat → Prop} {A : Option Addr} {xs : List α} {B base : Nat} {v : Value}
theorem flat_setE : ∀ {l : List α} {k r : Nat} {u u' : α} {x : Value}, l[k]? = some u → r < E.size → E.cells u' = (E.cells u).set r x → E.flat (l.set k u') = (E.flat l).set (k * E.size + r) x
  | [], k, r, u, u', x, h, _, _ => by simp at h
  | v :: l, 0, r, u, u', x, h, hr, e => by
    obtain rfl : v = u := by simpa using h
    rw [Nat.zero_mul, Nat.zero_add]
    show E.cells u' ++ E.flat l = (E.cells v ++ E.flat l).set r x
    rw [e, List.set_append_left _ _ (by rw [E.len]; exact hr)]
  | v :: l, k + 1, r, u, u', x, h, hr, e => by
    have ih := flat_setE (l := l) (k := k) (r := r) (u := u) (u' := u') (x := x) (by simpa using h) hr e
    have e5 : (E.cells v).length = E.size := E.len v
    show E.cells v ++ E.flat (l.set k u') = (E.cells v ++ E.flat l).set ((k + 1) * E.size + r) x
    rw [ih, List.set_append_right _ _ (by rw [e5, Nat.add_mul]; omega)]
    congr 2
    rw [e5, Nat.add_mul]
    omega
theorem ownE_set {g n c k r : Nat} {u u' : α} {x : Value} (h : OwnE E w base (.slice (some ⟨g, 0, none⟩) n c) xs) (hk : xs[k]? = some u) (hr : r < E.size) (e : E.cells u' = (E.cells u).set r x) :
    OwnE E (w.setCell ⟨g, k * E.size + r, none⟩ x) base (.slice (some ⟨g, 0, none⟩) n c) (xs.set k u') := by
  obtain ⟨hl, ⟨h0, _⟩ | ⟨g', cap, cur, e', hg, hh, hc, hm, hs, ht⟩⟩ := h
  · cases h0
  · cases e'
    refine ⟨by rw [E.flat_length], .inr ⟨g, c, cur.setIfInBounds (k * E.size + r) x, by simp, hg, ?_, by simpa using hc, hm, by simpa using hs, ?_⟩⟩
    · rw [heap_setCell_same _ _ _ _ _ _ hh]
    · rw [flat_setE hk hr e, ← ht, List.length_set]
      simp [List.take_set]
theorem ownE_free {g n c : Nat} (h : OwnE E w base (.slice (some ⟨g, 0, none⟩) n c) xs) : ∀ o, w.frozen? ⟨g, o, none⟩ = false := by
  obtain ⟨hl, ⟨h0, _⟩ | ⟨g', cap, cur, e', hg, hh, hc, hm, hs, ht⟩⟩ := h
  · cases h0
  · cases e'
    intro o
    simp [World.frozen?, hh]
theorem ownE_at0 (h : OwnE E w base v xs) (hne : xs ≠ []) : ∃ g c, v = .slice (some ⟨g, 0, none⟩) xs.length c ∧ base ≤ g ∧ g < w.heap.size := by
  obtain ⟨hl, ⟨rfl, h0⟩ | ⟨g, cap, cur, rfl, hg, hh, hc, hm, _, ht⟩⟩ := h
  · exact absurd (List.eq_nil_of_length_eq_zero h0) hne
  · exact ⟨g, cap, rfl, hg, (Array.getElem?_eq_some_iff.1 hh).1⟩
theorem ownE_lt (h : OwnE E w base v xs) {j : Nat} (e : v.ownBlock = some j) : j < w.heap.size := by
  obtain ⟨hl, ⟨rfl, h0⟩ | ⟨g, cap, cur, rfl, hg, hh, hc, hm, _, ht⟩⟩ := h
  · simp [Value.ownBlock] at e
  · obtain rfl : g = j := by simpa [Value.ownBlock] using e
    exact (Array.getElem?_eq_some_iff.1 hh).1
theorem ownE_es {n c : Nat} (h : OwnE E w base (.slice A n c) xs) : n = xs.length ∧ xs.length ≤ c ∧ Es E w w.heap.size A xs := by
  obtain ⟨A', c', e, h1, -, h'⟩ := h.es
  cases e
  exact ⟨rfl, h1, h'⟩

/-- A slice at A reads these elements, in a block of which p holds. -/
def EsP (E : Elem α) (w : World) (p : Nat → Prop) (A : Option Addr) (xs : List α) : Prop :=
  xs ≠ [] → ∃ b off, A = some ⟨b, off, none⟩ ∧ p b ∧ ∀ j u, xs[j]? = some u → AtE E w b (off + j * E.size) u
theorem EsP.nil : EsP E w p A [] := fun h => absurd rfl h
theorem EsP.es (h : EsP E w p A xs) (hp : ∀ b, p b → b < w.heap.size → b < B) : Es E w B A xs := fun hne => by
  obtain ⟨b, off, e, hb, hc⟩ := h hne
  obtain ⟨u, hu⟩ : ∃ u, xs[0]? = some u := by
    cases xs with
    | nil => exact absurd rfl hne
    | cons x xs => exact ⟨x, rfl⟩
  exact ⟨b, off, e, hp b hb (hc 0 u hu).lt, hc⟩
theorem EsP.imp (h : EsP E w p A xs) (hp : ∀ b, p b → b < w.heap.size → q b) : EsP E w q A xs := fun hne => by
  obtain ⟨b, off, e, hb, hc⟩ := h hne
  obtain ⟨u, hu⟩ : ∃ u, xs[0]? = some u := by
    cases xs with
    | nil => exact absurd rfl hne
    | cons x xs => exact ⟨x, rfl⟩
  exact ⟨b, off, e, hp b hb (hc 0 u hu).lt, hc⟩
theorem AtE.same {b o : Nat} {x : α} (h : AtE E w b o x) (hb : w'.heap[b]? = w.heap[b]?) : AtE E w' b o x := fun j u hj => (World.cell?_of_block (a := ⟨b, o + j, none⟩) hb).trans (h j u hj)
theorem EsP.keep (h : EsP E w p A xs) (hk : ∀ b, p b → b < w.heap.size → w'.heap[b]? = w.heap[b]?) : EsP E w' p A xs := fun hne => by
  obtain ⟨b, off, e, hb, hc⟩ := h hne
  exact ⟨b, off, e, hb, fun j u hj => (hc j u hj).same (hk b hb (hc j u hj).lt)⟩
theorem Es.toP (h : Es E w B A xs) : EsP E w (fun b => b < B) A xs := h
/-- What an own row reads: in blocks from its base on. -/
theorem OwnE.toP {n c : Nat} (h : OwnE E w base (.slice A n c) xs) : EsP E w (fun b => base ≤ b) A xs := fun hne => by
  obtain ⟨-, -, h2⟩ := ownE_es h
  obtain ⟨g, c', e, hg, -⟩ := ownE_at0 h hne
  cases e
  obtain ⟨b, off, e, hb, hc⟩ := h2 hne
  cases e
  exact ⟨_, _, rfl, hg, hc⟩

/-- The blocks from B on, up to h, lie as they lay. -/
def Fx (B h : Nat) (w w' : World) : Prop := ∀ b, B ≤ b → b < h → w'.heap[b]? = w.heap[b]?
theorem Fx.refl (B h : Nat) (w : World) : Fx B h w w := fun _ _ _ => rfl
theorem Fx.below {h b : Nat} (hf : Fx B h w X) (hb : Below b X Y) (hh : h ≤ b) : Fx B h w Y := fun k h1 h2 => (hb.block k (by omega)).trans (hf k h1 h2)
theorem Fx.set {h g o : Nat} {u : Value} (hf : Fx B h w X) (hg : g < B) : Fx B h w (X.setCell ⟨g, o, none⟩ u) := fun k h1 h2 => by
  rw [heap_setCell_other _ _ _ _ (by simp; omega)]
  exact hf k h1 h2
theorem Fx.trans {h : Nat} (hf : Fx B h w X) (hg : Fx B h X Y) : Fx B h w Y := fun k h1 h2 => (hg k h1 h2).trans (hf k h1 h2)
theorem Fx.less {h B' h' : Nat} (hf : Fx B h w X) (h1 : B ≤ B') (h2 : h' ≤ h) : Fx B' h' w X := fun k a b => hf k (by omega) (by omega)
theorem Below.fx {h : Nat} (hb : Below h w X) : Fx B h w X := fun k _ h2 => hb.block k h2
theorem OwnE.fx {B' h : Nat} (ho : OwnE E w base v xs) (hf : Fx B' h w w') (hB : B' ≤ base) (hs : w.heap.size ≤ h) : OwnE E w' base v xs := by
  obtain ⟨hl, h2⟩ := ho
  refine ⟨hl, ?_⟩
  rcases h2 with h2 | ⟨j, cap, cur, rfl, hj, hh, hr⟩
  · exact .inl h2
  · exact .inr ⟨j, cap, cur, rfl, hj, (hf j (by omega) (Nat.lt_of_lt_of_le (Array.getElem?_eq_some_iff.1 hh).1 hs)).trans hh, hr⟩
end
/-- A row of the call's own, whose elements lead to rows of the call's own, apart from it. -/
structure OwnN {α β : Type} (E : Elem (Lo α)) (F : Elem β) (inn : α → List β) (w : World) (base : Nat) (v : Value) (ls : List (Lo α)) : Prop where
  own : OwnE E w base v ls
  els : ∀ l ∈ ls, EsP F w (fun b => base ≤ b ∧ v.ownBlock ≠ some b) l.A (inn l.x)
  cap : ∀ l ∈ ls, (inn l.x).length ≤ l.c
section
variable {α β : Type} {E : Elem (Lo α)} {F : Elem β} {inn : α → List β} {w w' t w1 : World} {base : Nat} {v v' : Value} {ls : List (Lo α)} {l : Lo α}
theorem OwnN.nil (w : World) (base : Nat) : OwnN E F inn w base (.slice none 0 0) [] := ⟨OwnE.nil _ _, fun l h => (by cases h), fun l h => (by cases h)⟩
theorem OwnN.keep (h : OwnN E F inn w base v ls) (hb : Below w.heap.size w w') : OwnN E F inn w' base v ls :=
  ⟨h.own.keep hb, fun l hl => (h.els l hl).keep fun b _ hlt => hb.block b hlt, h.cap⟩
theorem OwnN.fx {B' k : Nat} (h : OwnN E F inn w base v ls) (hf : Fx B' k w w') (hB : B' ≤ base) (hs : w.heap.size ≤ k) : OwnN E F inn w' base v ls :=
  ⟨h.own.fx hf hB hs, fun l hl => (h.els l hl).keep fun b hb hlt => hf b (by omega) (by omega), h.cap⟩
theorem OwnN.set (h : OwnN E F inn w base v ls) {g o : Nat} {u : Value} (hg : g < base) : OwnN E F inn (w.setCell ⟨g, o, none⟩ u) base v ls :=
  ⟨h.own.setCell hg, fun l hl => (h.els l hl).keep fun b hb _ => heap_setCell_other _ _ _ _ (by simp; omega), h.cap⟩
theorem OwnN.app (h : OwnN E F inn w base v ls) (hb : Below w.heap.size w t) (hbase : base ≤ w.heap.size)
    (hown : w1.ownsRow base E.t E.size v' (ls.length + 1) (E.flat ls ++ E.cells l)) (hg : t.grownBy w1 v.ownBlock) (hat : v'.ownBlock = v.ownBlock ∨ v'.ownBlock = some t.heap.size)
    (hl : EsP F t (fun b => base ≤ b ∧ v.ownBlock ≠ some b) l.A (inn l.x)) (hc : (inn l.x).length ≤ l.c) : OwnN E F inn w1 base v' (ls ++ [l]) ∧ Below base w w1 := by
  have ho : OwnE E w1 base v' (ls ++ [l]) := by
    unfold OwnE
    rw [List.length_append, E.flat_append, show E.flat [l] = E.cells l by simp [Elem.flat]]
    exact hown
  refine ⟨⟨ho, fun x hx => ?_, fun x hx => ?_⟩, (hb.mono hbase).grown hg (Nat.le_trans hbase hb.size) fun j ej => ownE_ge h.own j ej⟩
  rotate_left
  · rcases List.mem_append.1 hx with hx | hx
    · exact h.cap x hx
    · obtain rfl : x = l := by simpa using hx
      exact hc
  have hx2 : EsP F t (fun b => base ≤ b ∧ v.ownBlock ≠ some b) x.A (inn x.x) := by
    rcases List.mem_append.1 hx with hx | hx
    · exact (h.els x hx).keep fun b _ hlt => hb.block b hlt
    · obtain rfl : x = l := by simpa using hx
      exact hl
  have hx3 : EsP F w1 (fun b => base ≤ b ∧ v.ownBlock ≠ some b ∧ b < t.heap.size) x.A (inn x.x) :=
    (hx2.imp (q := fun b => base ≤ b ∧ v.ownBlock ≠ some b ∧ b < t.heap.size) fun b hb hlt => ⟨hb.1, hb.2, hlt⟩).keep fun b hb hlt => hg.block b hlt (fun e => hb.2.1 e.symm)
  refine hx3.imp fun b hb _ => ⟨hb.1, ?_⟩
  rcases hat with e | e
  · rw [e]; exact hb.2.1
  · rw [e]
    intro e2
    have e3 : t.heap.size = b := by simpa using e2
    omega
theorem OwnN.es (h : OwnN E F inn w base v ls) : ∀ l ∈ ls, Es F w w.heap.size l.A (inn l.x) := fun l hl => (h.els l hl).es fun _ _ hlt => hlt
end
end Go.Proofs.Ytfmmfaeognoleaa
/-
  Appending elements to a row of the call's own, for any type of elements; the block that holds a scene whose rows are still made.
-/
namespace Go.Proofs.Ytfmmfaeognoleaa
open Go.RowKit

/-- What the program's table says of a type of elements, and of slices of them. -/
structure Row {α : Type} (E : Elem α) (T : TypeId) where
  und : Try.prog.underlying T = some (.slice E.t)
  i : TypeInfo
  hi : Try.prog.info? E.t = some i
  z : Value
  hz : i.zero = some z
  hs : i.size = E.size
  hb : i.bytes ≤ 64
  hzs : z.cells.size = E.size
set_option maxRecDepth 100000 in
theorem row_of {α : Type} {E : Elem α} {T : TypeId} {z : Value} {b : Nat} (hu : Try.prog.underlying T = some (.slice E.t)) (h : (Try.prog.info? E.t).map (fun i => (i.zero, i.size, i.bytes)) = some (some z, E.size, b)) (hb : b ≤ 64) (hzs : z.cells.size = E.size) : Nonempty (Row E T) := by
  obtain ⟨i, h1, h2, h3, h4⟩ := info_parts h
  exact ⟨⟨hu, i, h1, z, h2, h3, by omega, hzs⟩⟩
set_option maxRecDepth 100000 in
theorem rowV : Nonempty (Row EV 28) := row_of Try.underlying28 (z := .agg (Array.replicate 8 (.int .i64 0))) (b := 64) (by kernel_rfl) (by decide) (by kernel_rfl)
set_option maxRecDepth 100000 in
theorem rowT : Nonempty (Row ET 29) := row_of Try.underlying29 (z := .agg #[.int .i64 0, .int .i64 0, .slice none 0 0]) (b := 40) (by kernel_rfl) (by decide) (by kernel_rfl)
set_option maxRecDepth 100000 in
theorem rowP : Nonempty (Row EP 30) := row_of Try.underlying30 (z := .slice none 0 0) (b := 24) (by kernel_rfl) (by decide) (by kernel_rfl)
set_option maxRecDepth 100000 in
theorem rowD : Nonempty (Row ED 31) := row_of Try.underlying31 (z := .agg #[.int .i64 0, .int .i64 0, .int .i64 0, .bool false, .slice none 0 0]) (b := 56) (by kernel_rfl) (by decide) (by kernel_rfl)
set_option maxRecDepth 100000 in
theorem rowR : Nonempty (Row ER 50) := row_of Try.underlying50 (z := .agg (Array.replicate 4 (.int .i64 0))) (b := 32) (by kernel_rfl) (by decide) (by kernel_rfl)
set_option maxRecDepth 100000 in
theorem rowC : Nonempty (Row EC 47) := row_of Try.underlying47 (z := .agg (Array.replicate 4 (.int .u8 0))) (b := 4) (by kernel_rfl) (by decide) (by kernel_rfl)
set_option maxRecDepth 100000 in
theorem rowI : Nonempty (Row C.EI 65) := row_of Try.underlying65 (z := .agg #[.int .u8 0, .int .u8 0, .int .u8 0, .int .u8 0, .int .i64 0]) (b := 16) (by kernel_rfl) (by decide) (by kernel_rfl)

section
variable {α : Type} {E : Elem α} {T : TypeId} {w w' : World} {base B : Nat} {v : Value} {xs ys : List α} {A : Option Addr}
theorem flat_cells {b off : Nat} (h : ∀ k u, ys[k]? = some u → AtE E w b (off + k * E.size) u) : ∀ j x, (E.flat ys)[j]? = some x → w.cell? ((⟨b, off, none⟩ : Addr).add j) = some x := by
  intro j x hj
  have hp := E.pos
  have hl : j < ys.length * E.size := by
    rw [← E.flat_length]
    exact (List.getElem?_eq_some_iff.1 hj).1
  have hk : j / E.size < ys.length := Nat.div_lt_of_lt_mul (by rw [Nat.mul_comm]; exact hl)
  have hr : j % E.size < E.size := Nat.mod_lt _ hp
  have hd : j / E.size * E.size + j % E.size = j := Nat.div_add_mod' _ _
  obtain ⟨u, hu⟩ := get_lt hk
  have hf := E.flat_get hu _ hr
  rw [hd, hj] at hf
  have hc := h _ u hu _ _ hf.symm
  have ha : (⟨b, off, none⟩ : Addr).add j = ⟨b, off + j, none⟩ := by unfold Addr.add; split <;> simp_all
  rw [ha, ← hd]
  rw [Nat.add_assoc] at hc
  exact hc
theorem run_append_es (R : Row E T) (ty : TypeId) (c : Nat) (hown : OwnE E w base v xs) (he : Es E w B A ys) (hn : xs.length ≤ 100000000) (hn2 : ys.length ≤ 100000000) (hbase : base ≤ w.heap.size) :
    ∃ v' w', (Builtin.append_ #[T, T] ty #[v, .slice A ys.length c]).run Try.prog w = .ok v' w' ∧ w'.ownsRow base E.t E.size v' (xs.length + ys.length) (E.flat xs ++ E.flat ys) ∧ w.grownBy w' v.ownBlock ∧ (v'.ownBlock = v.ownBlock ∨ v'.ownBlock = some w.heap.size) := by
  have go : ∀ a : Addr, A = some a → (∀ j x, (E.flat ys)[j]? = some x → w.cell? (a.add j) = some x) → ∃ v' w', (Builtin.append_ #[T, T] ty #[v, .slice A ys.length c]).run Try.prog w = .ok v' w' ∧ w'.ownsRow base E.t E.size v' (xs.length + ys.length) (E.flat xs ++ E.flat ys) ∧ w.grownBy w' v.ownBlock ∧ (v'.ownBlock = v.ownBlock ∨ v'.ownBlock = some w.heap.size) := by
    rintro a rfl hc
    obtain ⟨v', w', hr, h2, h3, -, h5⟩ := run_append_own_at (P := Try.prog) w base T ty E.t R.i R.z E.size R.i.bytes R.und R.hi R.hz R.hs rfl R.hzs E.pos v xs.length (E.flat xs) hown.row a ys.length c (E.flat ys) (E.flat_length ys) hc (E.flat_one ys) (by unfold maxLen; omega)
      (by have := Nat.mul_le_mul (show xs.length + ys.length ≤ 200000000 by omega) R.hb; omega) hbase
    exact ⟨v', w', hr, h2, h3, h5⟩
  by_cases hy : ys = []
  · subst hy
    cases A with
    | some a => exact go a rfl fun j x hj => by simp [Elem.flat] at hj
    | none =>
      refine ⟨v, w, ?_, by simpa [Elem.flat] using hown.row, World.grownBy.refl w _, .inl rfl⟩
      rcases hown.2 with ⟨rfl, h0⟩ | ⟨g, cap, cur, rfl, _, _, hnc, _⟩
      · simp [Builtin.append_, run_underlying R.und, sizeOf, typeInfo, R.hi, Builtin.lenOf, Builtin.firstCells]
      · simp [Builtin.append_, run_underlying R.und, sizeOf, typeInfo, R.hi, Builtin.lenOf, Builtin.firstCells, hnc, storeCells]
  · obtain ⟨b, off, rfl, -, hc⟩ := he hy
    exact go _ rfl (flat_cells hc)
theorem opw_append_es {o : Oper} {k : Act} {K : Act → World → Prop} {Q : Exit → Act → World → Prop} (R : Row E T) (s x : Operand) (c : Nat)
    (ho : o.op = .call { callee := .builtin .append, args := #[s, x], argTypes := #[T, T] }) (hs : k.eval s = v) (hx : k.eval x = .slice A ys.length c)
    (hown : OwnE E w base v xs) (he : Es E w B A ys) (hn : xs.length ≤ 100000000) (hn2 : ys.length ≤ 100000000) (hbase : base ≤ w.heap.size)
    (h : ∀ v' w', w'.ownsRow base E.t E.size v' (xs.length + ys.length) (E.flat xs ++ E.flat ys) → w.grownBy w' v.ownBlock → (v'.ownBlock = v.ownBlock ∨ v'.ownBlock = some w.heap.size) → K (k.put o.dst v') w') : o.wp Try.prog k w K Q := by
  obtain ⟨v', w', hr, h2, h3, h5⟩ := run_append_es R o.type c hown he hn hn2 hbase
  unfold Oper.wp execOp
  simp only [ho, resolve, invoke, builtin, Sem.run_bind, Sem.run_pure, Result.andThen_ok, List.map_toArray, List.map_cons, List.map_nil, hs, hx, hr]
  exact h v' w' h2 h3 h5
theorem wpList_append_es {ops : Array Oper} {rest : List Oper} {o : Oper} {k : Act} {Q : Exit → Act → World → Prop} (hgd : o.guard = none) (R : Row E T) (s x : Operand) (c : Nat)
    (ho : o.op = .call { callee := .builtin .append, args := #[s, x], argTypes := #[T, T] }) (hs : k.eval s = v) (hx : k.eval x = .slice A ys.length c)
    (hown : OwnE E w base v xs) (he : Es E w B A ys) (hn : xs.length ≤ 100000000) (hn2 : ys.length ≤ 100000000) (hbase : base ≤ w.heap.size)
    (h : ∀ v' w', w'.ownsRow base E.t E.size v' (xs.length + ys.length) (E.flat xs ++ E.flat ys) → w.grownBy w' v.ownBlock → (v'.ownBlock = v.ownBlock ∨ v'.ownBlock = some w.heap.size) → wpList Try.prog ops Q rest (k.put o.dst v') w') : wpList Try.prog ops Q (o :: rest) k w :=
  wpList_plain hgd fun _ hK => opw_append_es R s x c ho hs hx hown he hn hn2 hbase fun v' w' h1 h2 h3 => hK _ _ (h v' w' h1 h2 h3)
theorem ownE_app {w1 : World} {v' : Value} (hown : OwnE E w base v xs) (h1 : w1.ownsRow base E.t E.size v' (xs.length + ys.length) (E.flat xs ++ E.flat ys)) (hg : w.grownBy w1 v.ownBlock) (hbase : base ≤ w.heap.size) : OwnE E w1 base v' (xs ++ ys) ∧ Below base w w1 := by
  refine ⟨?_, (Below.refl base w).grown hg hbase fun j ej => ownE_ge hown j ej⟩
  unfold OwnE
  rw [List.length_append, E.flat_append]
  exact h1
/-- One element in a block of its own. -/
theorem es_one {w : World} {x : α} {cs : Array Value} (h : cs.toList = E.cells x) {g : Nat} (hg : w.heap[g]? = some (.cells cs E.t (0, 0))) : Es E w w.heap.size (some ⟨g, 0, none⟩) [x] := fun _ => by
  refine ⟨g, 0, rfl, (Array.getElem?_eq_some_iff.1 hg).1, fun k u hk => ?_⟩
  rcases Nat.eq_zero_or_pos k with rfl | hp
  · obtain rfl : x = u := by simpa using hk
    intro j y hj
    rw [cell_of_row w g _ cs E.t (0, 0) hg, ← hj, ← h, Array.getElem?_toList]
    simp
  · rw [List.getElem?_eq_none (by simp; omega)] at hk; cases hk
/-- Some elements in a block of their own: what a list of them in the text makes. -/
theorem own_new (w : World) (xs : List α) (cs : Array Value) (h : cs.toList = E.flat xs) (hl : xs.length ≤ 100000000) : OwnE E (w.alloc (.cells cs E.t)) w.heap.size (.slice (some ⟨w.heap.size, 0, none⟩) xs.length xs.length) xs := by
  refine ⟨E.flat_length xs, .inr ⟨w.heap.size, xs.length, cs, rfl, Nat.le_refl _, heap_alloc_new _ _, Nat.le_refl _, by unfold maxLen; omega, ?_, ?_⟩⟩
  · rw [← E.flat_length, ← h]
    simp
  · rw [h, ← E.flat_length, List.take_length]
end
/-- A block that holds a scene whose rows are v1 to v4. -/
def ouB (W H : Int) (k : Col) (v1 v2 v3 v4 : Value) : Obj := .cells #[.int .i64 W, .int .i64 H, .int .u8 k.r, .int .u8 k.g, .int .u8 k.b, .int .u8 k.a, v1, v2, v3, v4] 33 (0, 0)
section
variable {w w' : World} {g B : Nat} {W H : Int} {k : Col} {v1 v2 v3 v4 : Value}
theorem ouB_cell (h : w.heap[g]? = some (ouB W H k v1 v2 v3 v4)) : w.cell? ⟨g, 0, none⟩ = some (.int .i64 W) ∧ w.cell? ⟨g, 1, none⟩ = some (.int .i64 H) ∧ w.cell? ⟨g, 2, none⟩ = some (.int .u8 k.r) ∧ w.cell? ⟨g, 3, none⟩ = some (.int .u8 k.g) ∧ w.cell? ⟨g, 4, none⟩ = some (.int .u8 k.b) ∧ w.cell? ⟨g, 5, none⟩ = some (.int .u8 k.a) ∧ w.cell? ⟨g, 6, none⟩ = some v1 ∧ w.cell? ⟨g, 7, none⟩ = some v2 ∧ w.cell? ⟨g, 8, none⟩ = some v3 ∧ w.cell? ⟨g, 9, none⟩ = some v4 := by
  unfold ouB at h
  exact ⟨Joins.cell_of_block h 0, Joins.cell_of_block h 1, Joins.cell_of_block h 2, Joins.cell_of_block h 3, Joins.cell_of_block h 4, Joins.cell_of_block h 5, Joins.cell_of_block h 6, Joins.cell_of_block h 7, Joins.cell_of_block h 8, Joins.cell_of_block h 9⟩
theorem ouB_free (h : w.heap[g]? = some (ouB W H k v1 v2 v3 v4)) : ∀ o, w.frozen? ⟨g, o, none⟩ = false := by
  unfold ouB at h
  intro o
  simp [World.frozen?, h]
theorem ouB_lt (h : w.heap[g]? = some (ouB W H k v1 v2 v3 v4)) : g < w.heap.size := (Array.getElem?_eq_some_iff.1 h).1
theorem ouB_keep (h : w.heap[g]? = some (ouB W H k v1 v2 v3 v4)) (hb : Below B w w') (hg : g < B) : w'.heap[g]? = some (ouB W H k v1 v2 v3 v4) := (hb.block _ hg).trans h
theorem ouB_set0 (u : Int) (h : w.heap[g]? = some (ouB W H k v1 v2 v3 v4)) : (w.setCell ⟨g, 0, none⟩ (.int .i64 u)).heap[g]? = some (ouB u H k v1 v2 v3 v4) := by
  unfold ouB at h
  rw [heap_setCell_same _ _ _ _ _ _ h]
  simp [ouB]
theorem ouB_set1 (u : Int) (h : w.heap[g]? = some (ouB W H k v1 v2 v3 v4)) : (w.setCell ⟨g, 1, none⟩ (.int .i64 u)).heap[g]? = some (ouB W u k v1 v2 v3 v4) := by
  unfold ouB at h
  rw [heap_setCell_same _ _ _ _ _ _ h]
  simp [ouB]
theorem ouB_set6 (u : Value) (h : w.heap[g]? = some (ouB W H k v1 v2 v3 v4)) : (w.setCell ⟨g, 6, none⟩ u).heap[g]? = some (ouB W H k u v2 v3 v4) := by
  unfold ouB at h
  rw [heap_setCell_same _ _ _ _ _ _ h]
  simp [ouB]
theorem ouB_set7 (u : Value) (h : w.heap[g]? = some (ouB W H k v1 v2 v3 v4)) : (w.setCell ⟨g, 7, none⟩ u).heap[g]? = some (ouB W H k v1 u v3 v4) := by
  unfold ouB at h
  rw [heap_setCell_same _ _ _ _ _ _ h]
  simp [ouB]
theorem ouB_set8 (u : Value) (h : w.heap[g]? = some (ouB W H k v1 v2 v3 v4)) : (w.setCell ⟨g, 8, none⟩ u).heap[g]? = some (ouB W H k v1 v2 u v4) := by
  unfold ouB at h
  rw [heap_setCell_same _ _ _ _ _ _ h]
  simp [ouB]
theorem ouB_set9 (u : Value) (h : w.heap[g]? = some (ouB W H k v1 v2 v3 v4)) : (w.setCell ⟨g, 9, none⟩ u).heap[g]? = some (ouB W H k v1 v2 v3 u) := by
  unfold ouB at h
  rw [heap_setCell_same _ _ _ _ _ _ h]
  simp [ouB]
theorem ouB_other {g2 o : Nat} (u : Value) (h : w.heap[g]? = some (ouB W H k v1 v2 v3 v4)) (hne : g ≠ g2) : (w.setCell ⟨g2, o, none⟩ u).heap[g]? = some (ouB W H k v1 v2 v3 v4) := by
  rw [heap_setCell_other _ _ _ _ (by simpa using hne)]
  exact h
end
end Go.Proofs.Ytfmmfaeognoleaa
/-
  What an argument that is a scene, a byte, or some of them, is opened to.
-/
namespace Go.Proofs.Ytfmmfaeognoleaa
open Go.ChangeShapes Go.WideShapes Go.ChangeAt Go.RowKit Go.Joins

theorem own : ownKnob Try.prog.godebug = none := by kernel_rfl
theorem laidOut : laidOutB Try.prog = true := by kernel_rfl
theorem cells27 : Try.prog.cellsOf 27 = 4 := by kernel_rfl
theorem cells43 : Try.prog.cellsOf 43 = 8 := by kernel_rfl
theorem cells41 : Try.prog.cellsOf 41 = 4 := by kernel_rfl
theorem cells49 : Try.prog.cellsOf 49 = 3 := by kernel_rfl
theorem cells70 : Try.prog.cellsOf 70 = 5 := by kernel_rfl
theorem cells65 : Try.prog.cellsOf 65 = 1 := by kernel_rfl
theorem cells74 : Try.prog.cellsOf 74 = 4 := by kernel_rfl
theorem cells72 : Try.prog.cellsOf 72 = 3 := by kernel_rfl
theorem cells52 : Try.prog.cellsOf 52 = 5 := by kernel_rfl
theorem cells33 : Try.prog.cellsOf 33 = 10 := by kernel_rfl
theorem cells28 : Try.prog.cellsOf 28 = 1 := by kernel_rfl
theorem cells29 : Try.prog.cellsOf 29 = 1 := by kernel_rfl
theorem cells30 : Try.prog.cellsOf 30 = 1 := by kernel_rfl
theorem cells31 : Try.prog.cellsOf 31 = 1 := by kernel_rfl
theorem cells50 : Try.prog.cellsOf 50 = 1 := by kernel_rfl
theorem cells47 : Try.prog.cellsOf 47 = 1 := by kernel_rfl
theorem cells3 : Try.prog.cellsOf 3 = 1 := by kernel_rfl
theorem cells4 : Try.prog.cellsOf 4 = 1 := by kernel_rfl
theorem cells5 : Try.prog.cellsOf 5 = 1 := by kernel_rfl
set_option maxRecDepth 100000 in
theorem okWide_array {w : World} {r : Reach} {b0 n : Nat} {t e : TypeId} {v : Value} (ht : Try.prog.underlying t = some (.array n e)) (h : Value.okWide Try.prog w r b0 t v) : ∃ cs, v = .agg cs := by
  cases v <;> first | exact ⟨_, rfl⟩ | simp [Value.okWide, ht] at h
set_option maxRecDepth 100000 in
theorem col_of_cells {H : Type} {enc : TypeId × Value → H} {w : World} {base n : Nat} {spare : Nat → Bool} {held : Bool} {cs : List Value} {x : DataW H × List MemPlace}
    (h : DataW.trod enc Try.prog w base spare held n 27 cs = some x) : ∃ c : Col, c.ok ∧ cs = [.int .u8 c.r, .int .u8 c.g, .int .u8 c.b, .int .u8 c.a] := by
  obtain ⟨xs, m, _, _, hlen, hxl, hf⟩ := DataW.trod_struct Try.underlying27 h
  obtain ⟨c0, c1, c2, c3, rfl⟩ : ∃ c0 c1 c2 c3, cs = [c0, c1, c2, c3] := by
    match cs, hlen.trans cells27 with
    | [c0, c1, c2, c3], _ => exact ⟨_, _, _, _, rfl⟩
  obtain ⟨y0, y1, y2, y3, rfl⟩ : ∃ y0 y1 y2 y3, xs = [y0, y1, y2, y3] := by
    match xs, hxl with
    | [y0, y1, y2, y3], _ => exact ⟨_, _, _, _, rfl⟩
  have h0 := hf 0 _ rfl
  have h1 := hf 1 _ rfl
  have h2 := hf 2 _ rfl
  have h3 := hf 3 _ rfl
  simp [cells5] at h0 h1 h2 h3
  obtain ⟨a0, e0, _, w0⟩ := DataW.trod_int Try.underlying5 h0
  obtain ⟨a1, e1, _, w1⟩ := DataW.trod_int Try.underlying5 h1
  obtain ⟨a2, e2, _, w2⟩ := DataW.trod_int Try.underlying5 h2
  obtain ⟨a3, e3, _, w3⟩ := DataW.trod_int Try.underlying5 h3
  simp at e0 e1 e2 e3
  subst e0 e1 e2 e3
  exact ⟨⟨a0, a1, a2, a3⟩, ⟨bounds_u8 w0, bounds_u8 w1, bounds_u8 w2, bounds_u8 w3⟩, rfl⟩
set_option maxRecDepth 100000 in
theorem four_of_cells {H : Type} {enc : TypeId × Value → H} {w : World} {base n : Nat} {spare : Nat → Bool} {held : Bool} {l : List Value} {x : DataW H × List MemPlace}
    (h : DataW.trod enc Try.prog w base spare held n 41 l = some x) : ∃ a b c d : Int, l = [.int .i64 a, .int .i64 b, .int .i64 c, .int .i64 d] ∧
      ((-9223372036854775808 ≤ a ∧ a ≤ 9223372036854775807) ∧ (-9223372036854775808 ≤ b ∧ b ≤ 9223372036854775807) ∧ (-9223372036854775808 ≤ c ∧ c ≤ 9223372036854775807) ∧ (-9223372036854775808 ≤ d ∧ d ≤ 9223372036854775807)) := by
  obtain ⟨xs, m, _, _, hlen, hxl, hf⟩ := DataW.trod_array Try.underlying41 h
  obtain ⟨c0, c1, c2, c3, rfl⟩ : ∃ c0 c1 c2 c3, l = [c0, c1, c2, c3] := by
    match l, hlen.trans cells41 with
    | [c0, c1, c2, c3], _ => exact ⟨_, _, _, _, rfl⟩
  obtain ⟨y0, y1, y2, y3, rfl⟩ : ∃ y0 y1 y2 y3, xs = [y0, y1, y2, y3] := by
    match xs, hxl with
    | [y0, y1, y2, y3], _ => exact ⟨_, _, _, _, rfl⟩
  have h0 := hf 0 (by decide)
  have h1 := hf 1 (by decide)
  have h2 := hf 2 (by decide)
  have h3 := hf 3 (by decide)
  simp [cells3] at h0 h1 h2 h3
  obtain ⟨a0, e0, _, w0⟩ := DataW.trod_int Try.underlying3 h0
  obtain ⟨a1, e1, _, w1⟩ := DataW.trod_int Try.underlying3 h1
  obtain ⟨a2, e2, _, w2⟩ := DataW.trod_int Try.underlying3 h2
  obtain ⟨a3, e3, _, w3⟩ := DataW.trod_int Try.underlying3 h3
  simp at e0 e1 e2 e3
  subst e0 e1 e2 e3
  exact ⟨a0, a1, a2, a3, rfl, bounds_i64 w0, bounds_i64 w1, bounds_i64 w2, bounds_i64 w3⟩
set_option maxRecDepth 100000 in
theorem vec_of_cells {H : Type} {enc : TypeId × Value → H} {w : World} {base n : Nat} {spare : Nat → Bool} {held : Bool} {cs : List Value} {x : DataW H × List MemPlace}
    (h : DataW.trod enc Try.prog w base spare held n 43 cs = some x) : ∃ v : U.V, v.i64 ∧ cs = [.int .i64 v.x, .int .i64 v.y, .int .i64 v.z, .int .i64 v.w, .int .i64 v.a, .int .i64 v.b, .int .i64 v.c, .int .i64 v.d] := by
  obtain ⟨xs, m, _, _, hlen, hxl, hf⟩ := DataW.trod_struct Try.underlying43 h
  obtain ⟨c0, c1, c2, c3, c4, c5, c6, c7, rfl⟩ : ∃ c0 c1 c2 c3 c4 c5 c6 c7, cs = [c0, c1, c2, c3, c4, c5, c6, c7] := by
    match cs, hlen.trans cells43 with
    | [c0, c1, c2, c3, c4, c5, c6, c7], _ => exact ⟨_, _, _, _, _, _, _, _, rfl⟩
  obtain ⟨y0, y1, y2, y3, y4, rfl⟩ : ∃ y0 y1 y2 y3 y4, xs = [y0, y1, y2, y3, y4] := by
    match xs, hxl with
    | [y0, y1, y2, y3, y4], _ => exact ⟨_, _, _, _, _, rfl⟩
  have h0 := hf 0 _ rfl
  have h1 := hf 1 _ rfl
  have h2 := hf 2 _ rfl
  have h3 := hf 3 _ rfl
  have h4 := hf 4 _ rfl
  simp [cells3, cells41] at h0 h1 h2 h3 h4
  obtain ⟨a0, e0, _, w0⟩ := DataW.trod_int Try.underlying3 h0
  obtain ⟨a1, e1, _, w1⟩ := DataW.trod_int Try.underlying3 h1
  obtain ⟨a2, e2, _, w2⟩ := DataW.trod_int Try.underlying3 h2
  obtain ⟨a3, e3, _, w3⟩ := DataW.trod_int Try.underlying3 h3
  obtain ⟨b0, b1, b2, b3, e4, w4, w5, w6, w7⟩ := four_of_cells h4
  simp at e0 e1 e2 e3 e4
  obtain ⟨rfl, rfl, rfl, rfl⟩ := e4
  subst e0 e1 e2 e3
  exact ⟨⟨a0, a1, a2, a3, b0, b1, b2, b3⟩, ⟨bounds_i64 w0, bounds_i64 w1, bounds_i64 w2, bounds_i64 w3, w4, w5, w6, w7⟩, rfl⟩
set_option maxRecDepth 100000 in
theorem in_of_cells {H : Type} {enc : TypeId × Value → H} {w : World} {base n : Nat} {spare : Nat → Bool} {held : Bool} {cs : List Value} {x : DataW H × List MemPlace}
    (h : DataW.trod enc Try.prog w base spare held n 70 cs = some x) : ∃ c : C.In, c.ok ∧ cs = [.int .u8 c.o, .int .u8 c.d, .int .u8 c.a, .int .u8 c.b, .int .i64 c.n] := by
  obtain ⟨xs, m, _, _, hlen, hxl, hf⟩ := DataW.trod_struct Try.underlying70 h
  obtain ⟨c0, c1, c2, c3, c4, rfl⟩ : ∃ c0 c1 c2 c3 c4, cs = [c0, c1, c2, c3, c4] := by
    match cs, hlen.trans cells70 with
    | [c0, c1, c2, c3, c4], _ => exact ⟨_, _, _, _, _, rfl⟩
  obtain ⟨y0, y1, y2, y3, y4, rfl⟩ : ∃ y0 y1 y2 y3 y4, xs = [y0, y1, y2, y3, y4] := by
    match xs, hxl with
    | [y0, y1, y2, y3, y4], _ => exact ⟨_, _, _, _, _, rfl⟩
  have h0 := hf 0 _ rfl
  have h1 := hf 1 _ rfl
  have h2 := hf 2 _ rfl
  have h3 := hf 3 _ rfl
  have h4 := hf 4 _ rfl
  simp [cells5, cells3] at h0 h1 h2 h3 h4
  obtain ⟨a0, e0, _, w0⟩ := DataW.trod_int Try.underlying5 h0
  obtain ⟨a1, e1, _, w1⟩ := DataW.trod_int Try.underlying5 h1
  obtain ⟨a2, e2, _, w2⟩ := DataW.trod_int Try.underlying5 h2
  obtain ⟨a3, e3, _, w3⟩ := DataW.trod_int Try.underlying5 h3
  obtain ⟨a4, e4, _, w4⟩ := DataW.trod_int Try.underlying3 h4
  simp at e0 e1 e2 e3 e4
  subst e0 e1 e2 e3 e4
  exact ⟨⟨a0, a1, a2, a3, a4⟩, ⟨bounds_u8 w0, bounds_u8 w1, bounds_u8 w2, bounds_u8 w3, bounds_i64 w4⟩, rfl⟩

/-- The elements of a slice, whatever they are. -/
theorem slice_of_cells {α : Type} (E : Elem α) (T : TypeId) (hT : Try.prog.underlying T = some (.slice E.t)) (hc : Try.prog.cellsOf E.t = E.size) (P : α → Prop) (dflt : α) {H : Type} {enc : TypeId × Value → H} {w : World} {fuel : Nat} {cs : List Value} {x : DataW H × List MemPlace}
    (hel : ∀ (fuel : Nat) (cs : List Value) (x : DataW H × List MemPlace), DataW.trod enc Try.prog w 0 (fun _ => true) true fuel E.t cs = some x → ∃ a, P a ∧ cs = E.cells a)
    (h : DataW.trod enc Try.prog w 0 (fun _ => true) true fuel T cs = some x) :
    ∃ (A : Option Addr) (l : List α) (c : Nat), cs = [.slice A l.length c] ∧ l.length ≤ c ∧ (A = none → l.length = 0) ∧ (∀ x ∈ l, P x) ∧ Es E w w.heap.size A l := by
  have hp := E.pos
  rcases Go.Deep.open_slice hT h with ⟨hcs, _⟩ | ⟨a, len', cap', m, n, D, Pl, hcs, _, hl, _, hmm, _, hi⟩
  · exact ⟨none, [], 0, hcs, Nat.le_refl _, fun _ => rfl, fun x hx => (by cases hx), Es.none_⟩
  · simp at hmm
    subst hmm
    rcases Nat.eq_zero_or_pos m with h0 | hpos
    · subst h0
      obtain rfl : len' = 0 := by omega
      exact ⟨some a, [], 0, hcs, Nat.le_refl _, fun h => (by cases h), fun x hx => (by cases hx), Es.none_⟩
    · have key : ∀ i, ∃ c : α, i < m → P c ∧ (∀ j, j < E.size → w.cell? (a.add (i * E.size + j)) = (E.cells c)[j]?) := by
        intro i
        by_cases him : i < m
        · obtain ⟨cs', hc', ht⟩ := hi i him
          obtain ⟨c, hok, rfl⟩ := hel _ _ _ ht
          rw [hc] at hc'
          obtain ⟨_, _, hat⟩ := World.cells?_some hc'
          refine ⟨c, fun _ => ⟨hok, fun j hj => ?_⟩⟩
          rw [← Go.Deep.add_add]
          exact hat j hj
        · exact ⟨dflt, fun h => absurd h him⟩
      obtain ⟨f, hf'⟩ := Classical.skolem.1 key
      have c0 := (hf' 0 hpos).2 0 hp
      rw [List.getElem?_eq_getElem (by rw [E.len]; exact hp)] at c0
      have hsp : a.spot = none := by simpa [Addr.add] using World.cell?_spot c0
      obtain ⟨b, off, spot⟩ := a
      simp at hsp
      subst hsp
      have hadd : ∀ k, (Addr.mk b off none).add k = ⟨b, off + k, none⟩ := by intro k; by_cases e : k = 0 <;> simp [Addr.add, e]
      refine ⟨some ⟨b, off, none⟩, (List.range len').map f, m, by simpa using hcs, by simpa using hl, fun h => (by cases h), ?_, fun _ => ⟨b, off, rfl, ?_, ?_⟩⟩
      · intro x hx
        simp at hx
        obtain ⟨i, hi', rfl⟩ := hx
        exact (hf' i (by omega)).1
      · rw [hadd] at c0
        exact World.block_lt_of_cell? _ _ c0
      · intro j u hj i v hv
        rw [List.getElem?_map] at hj
        have hjl : j < len' := by
          rcases Nat.lt_or_ge j len' with h | h
          · exact h
          · rw [List.getElem?_eq_none (by simpa using h)] at hj; cases hj
        rw [List.getElem?_range hjl] at hj
        obtain rfl : f j = u := by simpa using hj
        have hil : i < E.size := by
          rw [← E.len (f j)]
          exact (List.getElem?_eq_some_iff.1 hv).1
        have g := (hf' j (by omega)).2 i hil
        rw [hadd, ← Nat.add_assoc] at g
        exact g.trans hv
set_option maxRecDepth 100000 in
theorem three_of_cells {H : Type} {enc : TypeId × Value → H} {w : World} {base n : Nat} {spare : Nat → Bool} {held : Bool} {cs : List Value} {x : DataW H × List MemPlace} (h : DataW.trod enc Try.prog w base spare held n 72 cs = some x) : ∃ a b c : Int, I64 a ∧ I64 b ∧ I64 c ∧ cs = [.int .i64 a, .int .i64 b, .int .i64 c] := by
  obtain ⟨xs, m, _, _, hlen, hxl, hf⟩ := DataW.trod_array Try.underlying72 h
  obtain ⟨c0, c1, c2, rfl⟩ : ∃ c0 c1 c2, cs = [c0, c1, c2] := by
    match cs, hlen.trans cells72 with
    | [c0, c1, c2], _ => exact ⟨_, _, _, rfl⟩
  obtain ⟨y0, y1, y2, rfl⟩ : ∃ y0 y1 y2, xs = [y0, y1, y2] := by
    match xs, hxl with
    | [y0, y1, y2], _ => exact ⟨_, _, _, rfl⟩
  have h0 := hf 0 (by decide)
  have h1 := hf 1 (by decide)
  have h2 := hf 2 (by decide)
  simp [cells3] at h0 h1 h2
  obtain ⟨a0, e0, _, w0⟩ := DataW.trod_int Try.underlying3 h0
  obtain ⟨a1, e1, _, w1⟩ := DataW.trod_int Try.underlying3 h1
  obtain ⟨a2, e2, _, w2⟩ := DataW.trod_int Try.underlying3 h2
  simp at e0 e1 e2
  subst e0 e1 e2
  exact ⟨a0, a1, a2, bounds_i64 w0, bounds_i64 w1, bounds_i64 w2, rfl⟩
set_option maxRecDepth 100000 in
theorem tri_of_cells {H : Type} {enc : TypeId × Value → H} {w : World} {base n : Nat} {spare : Nat → Bool} {held : Bool} {cs : List Value} {x : DataW H × List MemPlace} (h : DataW.trod enc Try.prog w base spare held n 74 cs = some x) : ∃ t : Tr, t.ok ∧ cs = ER.cells t := by
  obtain ⟨xs, m, _, _, hlen, hxl, hf⟩ := DataW.trod_struct Try.underlying74 h
  obtain ⟨c0, c1, c2, c3, rfl⟩ : ∃ c0 c1 c2 c3, cs = [c0, c1, c2, c3] := by
    match cs, hlen.trans cells74 with
    | [c0, c1, c2, c3], _ => exact ⟨_, _, _, _, rfl⟩
  obtain ⟨y0, y1, rfl⟩ : ∃ y0 y1, xs = [y0, y1] := by
    match xs, hxl with
    | [y0, y1], _ => exact ⟨_, _, rfl⟩
  have h0 := hf 0 _ rfl
  have h1 := hf 1 _ rfl
  simp [cells3, cells72] at h0 h1
  obtain ⟨a0, e0, _, w0⟩ := DataW.trod_int Try.underlying3 h0
  obtain ⟨a, b, c, ha, hb, hc, e1⟩ := three_of_cells h1
  simp at e0 e1
  obtain ⟨rfl, rfl, rfl⟩ := e1
  subst e0
  exact ⟨⟨a0, a, b, c⟩, ⟨bounds_i64 w0, ha, hb, hc⟩, rfl⟩
set_option maxRecDepth 100000 in
theorem tex_of_cells {H : Type} {enc : TypeId × Value → H} {w : World} {n : Nat} {cs : List Value} {x : DataW H × List MemPlace} (h : DataW.trod enc Try.prog w 0 (fun _ => true) true n 49 cs = some x) : ∃ l : Lo Tx, (I64 l.x.w ∧ I64 l.x.h ∧ l.x.ok ∧ l.x.px.length ≤ l.c ∧ Es EC w w.heap.size l.A l.x.px ∧ (l.A = none → l.x.px.length = 0)) ∧ cs = ET.cells l := by
  obtain ⟨xs, m, _, _, hlen, hxl, hf⟩ := DataW.trod_struct Try.underlying49 h
  obtain ⟨c0, c1, c2, rfl⟩ : ∃ c0 c1 c2, cs = [c0, c1, c2] := by
    match cs, hlen.trans cells49 with
    | [c0, c1, c2], _ => exact ⟨_, _, _, rfl⟩
  obtain ⟨y0, y1, y2, rfl⟩ : ∃ y0 y1 y2, xs = [y0, y1, y2] := by
    match xs, hxl with
    | [y0, y1, y2], _ => exact ⟨_, _, _, rfl⟩
  have h0 := hf 0 _ rfl
  have h1 := hf 1 _ rfl
  have h2 := hf 2 _ rfl
  simp [cells3, cells47] at h0 h1 h2
  obtain ⟨a0, e0, _, w0⟩ := DataW.trod_int Try.underlying3 h0
  obtain ⟨a1, e1, _, w1⟩ := DataW.trod_int Try.underlying3 h1
  obtain ⟨A, px, c, e2, k0, k1, k2, k3⟩ := slice_of_cells EC 47 Try.underlying47 cells27 (fun c => c.ok) zC (fun _ _ _ h => col_of_cells h) h2
  simp at e0 e1 e2
  subst e0 e1 e2
  exact ⟨⟨⟨a0, a1, px⟩, A, c⟩, ⟨bounds_i64 w0, bounds_i64 w1, k2, k0, k3, k1⟩, rfl⟩
set_option maxRecDepth 100000 in
theorem prog_of_cells {H : Type} {enc : TypeId × Value → H} {w : World} {n : Nat} {cs : List Value} {x : DataW H × List MemPlace} (h : DataW.trod enc Try.prog w 0 (fun _ => true) true n 65 cs = some x) : ∃ l : Lo (List C.In), ((∀ x ∈ l.x, x.ok) ∧ l.x.length ≤ l.c ∧ Es C.EI w w.heap.size l.A l.x ∧ (l.A = none → l.x.length = 0)) ∧ cs = EP.cells l := by
  obtain ⟨A, l, c, e2, k0, k1, k2, k3⟩ := slice_of_cells C.EI 65 Try.underlying65 cells70 (fun c => c.ok) C.mov (fun _ _ _ h => in_of_cells h) h
  exact ⟨⟨l, A, c⟩, ⟨k2, k0, k3, k1⟩, e2⟩
set_option maxRecDepth 100000 in
theorem draw_of_cells {H : Type} {enc : TypeId × Value → H} {w : World} {n : Nat} {cs : List Value} {x : DataW H × List MemPlace} (h : DataW.trod enc Try.prog w 0 (fun _ => true) true n 52 cs = some x) : ∃ l : Lo Dr, (l.x.ok ∧ l.x.tris.length ≤ l.c ∧ Es ER w w.heap.size l.A l.x.tris ∧ (l.A = none → l.x.tris.length = 0)) ∧ cs = ED.cells l := by
  obtain ⟨xs, m, _, _, hlen, hxl, hf⟩ := DataW.trod_struct Try.underlying52 h
  obtain ⟨c0, c1, c2, c3, c4, rfl⟩ : ∃ c0 c1 c2 c3 c4, cs = [c0, c1, c2, c3, c4] := by
    match cs, hlen.trans cells52 with
    | [c0, c1, c2, c3, c4], _ => exact ⟨_, _, _, _, _, rfl⟩
  obtain ⟨y0, y1, y2, y3, y4, rfl⟩ : ∃ y0 y1 y2 y3 y4, xs = [y0, y1, y2, y3, y4] := by
    match xs, hxl with
    | [y0, y1, y2, y3, y4], _ => exact ⟨_, _, _, _, _, rfl⟩
  have h0 := hf 0 _ rfl
  have h1 := hf 1 _ rfl
  have h2 := hf 2 _ rfl
  have h3 := hf 3 _ rfl
  have h4 := hf 4 _ rfl
  simp [cells3, cells4, cells50] at h0 h1 h2 h3 h4
  obtain ⟨a0, e0, _, w0⟩ := DataW.trod_int Try.underlying3 h0
  obtain ⟨a1, e1, _, w1⟩ := DataW.trod_int Try.underlying3 h1
  obtain ⟨a2, e2, _, w2⟩ := DataW.trod_int Try.underlying3 h2
  obtain ⟨a3, e3, _⟩ := DataW.trod_bool Try.underlying4 h3
  obtain ⟨A, l, c, e4, k0, k1, k2, k3⟩ := slice_of_cells ER 50 Try.underlying50 cells74 (fun c => c.ok) ⟨0, 0, 0, 0⟩ (fun _ _ _ h => tri_of_cells h) h4
  simp at e0 e1 e2 e3 e4
  subst e0 e1 e2 e3 e4
  exact ⟨⟨⟨a0, a1, a2, a3, l⟩, A, c⟩, ⟨⟨bounds_i64 w0, bounds_i64 w1, bounds_i64 w2, k2⟩, k0, k3, k1⟩, rfl⟩

/-- Slices that may be cut: nil ones are empty. -/
structure Sc.cut (s : Sc) : Prop where
  v : s.vA = none → s.vs.length = 0
  t : ∀ l ∈ s.ts, l.A = none → l.x.px.length = 0
  p : ∀ l ∈ s.ps, l.A = none → l.x.length = 0
  d : ∀ l ∈ s.ds, l.A = none → l.x.tris.length = 0
set_option maxRecDepth 100000 in
/-- A scene. -/
theorem open_scene {H : Type} {enc : TypeId × Value → H} {w : World} {b0 : Nat} {r : Reach} {v : Value} {d : DataW H} {p : List MemPlace}
    (hv : Value.okWide Try.prog w r b0 33 v) (h : DataW.Trod enc Try.prog w 0 (fun _ => true) true 33 v d p) :
    ∃ s : Sc, v = .agg #[.int .i64 s.w, .int .i64 s.h, .int .u8 s.k.r, .int .u8 s.k.g, .int .u8 s.k.b, .int .u8 s.k.a, .slice s.vA s.vs.length s.vc, .slice s.tA s.ts.length s.tc, .slice s.pA s.ps.length s.pc, .slice s.dA s.ds.length s.dc] ∧ s.ok ∧ s.at w w.heap.size ∧ s.cut := by
  obtain ⟨cs, rfl, _⟩ := okWide_struct Try.underlying33 hv
  obtain ⟨m, hm⟩ := h
  obtain ⟨xs, m', _, _, hlen, hxl, hf⟩ := DataW.trod_struct Try.underlying33 hm
  obtain ⟨l⟩ := cs
  simp only [Value.cells] at hlen hf
  obtain ⟨c0, c1, c2, c3, c4, c5, c6, c7, c8, c9, rfl⟩ : ∃ c0 c1 c2 c3 c4 c5 c6 c7 c8 c9, l = [c0, c1, c2, c3, c4, c5, c6, c7, c8, c9] := by
    match l, hlen.trans cells33 with
    | [c0, c1, c2, c3, c4, c5, c6, c7, c8, c9], _ => exact ⟨_, _, _, _, _, _, _, _, _, _, rfl⟩
  obtain ⟨y0, y1, y2, y3, y4, y5, y6, rfl⟩ : ∃ y0 y1 y2 y3 y4 y5 y6, xs = [y0, y1, y2, y3, y4, y5, y6] := by
    match xs, hxl with
    | [y0, y1, y2, y3, y4, y5, y6], _ => exact ⟨_, _, _, _, _, _, _, rfl⟩
  have h0 := hf 0 _ rfl
  have h1 := hf 1 _ rfl
  have h2 := hf 2 _ rfl
  have h3 := hf 3 _ rfl
  have h4 := hf 4 _ rfl
  have h5 := hf 5 _ rfl
  have h6 := hf 6 _ rfl
  simp [cells3, cells27, cells28, cells29, cells30, cells31] at h0 h1 h2 h3 h4 h5 h6
  obtain ⟨a0, e0, _, w0⟩ := DataW.trod_int Try.underlying3 h0
  obtain ⟨a1, e1, _, w1⟩ := DataW.trod_int Try.underlying3 h1
  obtain ⟨k, hk, e2⟩ := col_of_cells h2
  obtain ⟨vA, vs, vc, e3, v0, v1, v2, v3⟩ := slice_of_cells EV 28 Try.underlying28 cells43 (fun v => v.i64) ⟨0, 0, 0, 0, 0, 0, 0, 0⟩ (fun _ _ _ h => vec_of_cells h) h3
  obtain ⟨tA, ts, tc, e4, t0, t1, t2, t3⟩ := slice_of_cells ET 29 Try.underlying29 cells49 _ ⟨⟨0, 0, []⟩, none, 0⟩ (fun _ _ _ h => tex_of_cells h) h4
  obtain ⟨pA, ps, pc, e5, p0, p1, p2, p3⟩ := slice_of_cells EP 30 Try.underlying30 cells65 _ ⟨[], none, 0⟩ (fun _ _ _ h => prog_of_cells h) h5
  obtain ⟨dA, ds, dc, e6, d0, d1, d2, d3⟩ := slice_of_cells ED 31 Try.underlying31 cells52 _ ⟨⟨0, 0, 0, false, []⟩, none, 0⟩ (fun _ _ _ h => draw_of_cells h) h6
  simp at e0 e1 e2 e3 e4 e5 e6
  obtain ⟨rfl, rfl, rfl, rfl⟩ := e2
  subst e0 e1 e3 e4 e5 e6
  exact ⟨⟨a0, a1, k, vs, vA, vc, ts, tA, tc, ps, pA, pc, ds, dA, dc⟩, rfl,
    ⟨bounds_i64 w0, bounds_i64 w1, hk, v2, fun l hl => ⟨(t2 l hl).1, (t2 l hl).2.1, (t2 l hl).2.2.1, (t2 l hl).2.2.2.1⟩, fun l hl => ⟨(p2 l hl).1, (p2 l hl).2.1⟩, fun l hl => ⟨(d2 l hl).1, (d2 l hl).2.1⟩, v0, t0, p0, d0⟩,
    ⟨v3, t3, fun l hl => (t2 l hl).2.2.2.2.1, p3, fun l hl => (p2 l hl).2.2.1, d3, fun l hl => (d2 l hl).2.2.1⟩,
    ⟨v1, fun l hl => (t2 l hl).2.2.2.2.2, fun l hl => (p2 l hl).2.2.2, fun l hl => (d2 l hl).2.2.2⟩⟩
end Go.Proofs.Ytfmmfaeognoleaa
/-
  A vertex that is given.
-/
namespace Go.Proofs.Ytfmmfaeognoleaa
open Go.WideShapes Go.Joins

set_option maxRecDepth 100000 in
theorem open_vec {H : Type} {enc : TypeId × Value → H} {w : World} {b0 : Nat} {r : Reach} {v : Value} {d : DataW H} {p : List MemPlace}
    (hv : Value.okWide Try.prog w r b0 43 v) (h : DataW.Trod enc Try.prog w 0 (fun _ => true) true 43 v d p) :
    ∃ u : U.V, v = .agg #[.int .i64 u.x, .int .i64 u.y, .int .i64 u.z, .int .i64 u.w, .int .i64 u.a, .int .i64 u.b, .int .i64 u.c, .int .i64 u.d] ∧ u.i64 := by
  obtain ⟨cs, rfl, _⟩ := okWide_struct Try.underlying43 hv
  obtain ⟨m, hm⟩ := h
  obtain ⟨l⟩ := cs
  simp only [Value.cells] at hm
  obtain ⟨u, h1, h2⟩ := vec_of_cells hm
  subst h2
  exact ⟨u, rfl, h1⟩
end Go.Proofs.Ytfmmfaeognoleaa
/-
  Scenes of not too much of all (pure), and what of a scene's parts is fine.
-/
namespace Go.Proofs.Ytfmmfaeognoleaa

structure PS.ok (p : PS) : Prop where
  w : I64 p.w
  h : I64 p.h
  k : p.k.ok
  vs : ∀ v ∈ p.vs, v.i64
  ts : ∀ t ∈ p.ts, I64 t.w ∧ I64 t.h ∧ t.ok
  ps : ∀ l ∈ p.ps, ∀ x ∈ l, x.ok
  ds : ∀ d ∈ p.ds, d.ok
structure PS.few (p : PS) : Prop where
  vs : p.vs.length ≤ 100000
  ts : p.ts.length ≤ 100000
  tx : ∀ t ∈ p.ts, t.px.length ≤ 100000
  ps : p.ps.length ≤ 100000
  px : ∀ l ∈ p.ps, l.length ≤ 100000
  ds : p.ds.length ≤ 100000
  dx : ∀ d ∈ p.ds, d.tris.length ≤ 100000
/-- Its rows have room for what they have. -/
structure Sc.cap (s : Sc) : Prop where
  v : s.vs.length ≤ s.vc
  t : s.ts.length ≤ s.tc
  tx : ∀ l ∈ s.ts, l.x.px.length ≤ l.c
  p : s.ps.length ≤ s.pc
  px : ∀ l ∈ s.ps, l.x.length ≤ l.c
  d : s.ds.length ≤ s.dc
  dx : ∀ l ∈ s.ds, l.x.tris.length ≤ l.c
theorem ok_p {s : Sc} (h : s.ok) : s.p.ok := by
  refine ⟨h.w, h.h, h.k, h.vs, fun t ht => ?_, fun l hl => ?_, fun d hd => ?_⟩
  · obtain ⟨l, hl, rfl⟩ := List.mem_map.1 (show t ∈ s.ts.map Lo.x from ht)
    exact ⟨(h.ts l hl).1, (h.ts l hl).2.1, (h.ts l hl).2.2.1⟩
  · obtain ⟨x, hx, rfl⟩ := List.mem_map.1 (show l ∈ s.ps.map Lo.x from hl)
    exact (h.ps x hx).1
  · obtain ⟨x, hx, rfl⟩ := List.mem_map.1 (show d ∈ s.ds.map Lo.x from hd)
    exact (h.ds x hx).1
theorem ok_of {s : Sc} {p : PS} (e : s.p = p) (h : p.ok) (c : s.cap) : s.ok := by
  subst e
  exact ⟨h.w, h.h, h.k, h.vs, fun l hl => by
    have := h.ts l.x (List.mem_map.2 ⟨l, hl, rfl⟩)
    exact ⟨this.1, this.2.1, this.2.2, c.tx l hl⟩, fun l hl => ⟨h.ps l.x (List.mem_map.2 ⟨l, hl, rfl⟩), c.px l hl⟩, fun l hl => ⟨h.ds l.x (List.mem_map.2 ⟨l, hl, rfl⟩), c.dx l hl⟩, c.v, c.t, c.p, c.d⟩
theorem few_of {s : Sc} {p : PS} (e : s.p = p) (h : p.few) : s.few := by
  subst e
  exact ⟨h.vs, by have := h.ts; rwa [show s.p.ts.length = s.ts.length by show (s.ts.map Lo.x).length = _; rw [List.length_map]] at this, fun l hl => h.tx l.x (List.mem_map.2 ⟨l, hl, rfl⟩),
    by have := h.ps; rwa [show s.p.ps.length = s.ps.length by show (s.ps.map Lo.x).length = _; rw [List.length_map]] at this, fun l hl => h.px l.x (List.mem_map.2 ⟨l, hl, rfl⟩),
    by have := h.ds; rwa [show s.p.ds.length = s.ds.length by show (s.ds.map Lo.x).length = _; rw [List.length_map]] at this, fun l hl => h.dx l.x (List.mem_map.2 ⟨l, hl, rfl⟩)⟩
def smT (t : Tx) : Tx := ⟨t.w, t.h, t.px.take 260⟩
def smI (l : List C.In) : List C.In := l.take 34
def smD (d : Dr) : Dr := ⟨d.id, d.prog, d.tex, d.op, d.tris.take 34⟩
def smP (p : PS) : PS := ⟨p.w, p.h, p.k, p.vs.take 66, (p.ts.take 5).map smT, (p.ps.take 5).map smI, (p.ds.take 9).map smD⟩
theorem smP_ok {p : PS} (h : p.ok) : (smP p).ok := by
  refine ⟨h.w, h.h, h.k, fun v hv => h.vs v (List.mem_of_mem_take hv), fun t ht => ?_, fun l hl => ?_, fun d hd => ?_⟩
  · obtain ⟨t, hm, rfl⟩ := List.mem_map.1 ht
    have := h.ts t (List.mem_of_mem_take hm)
    exact ⟨this.1, this.2.1, fun c hc => this.2.2 c (List.mem_of_mem_take hc)⟩
  · obtain ⟨l, hm, rfl⟩ := List.mem_map.1 hl
    exact fun x hx => h.ps l (List.mem_of_mem_take hm) x (List.mem_of_mem_take hx)
  · obtain ⟨d, hm, rfl⟩ := List.mem_map.1 hd
    have := h.ds d (List.mem_of_mem_take hm)
    exact ⟨this.id, this.prog, this.tex, fun t ht => this.tris t (List.mem_of_mem_take ht)⟩
theorem take_le {α : Type} (l : List α) (n : Nat) : (l.take n).length ≤ n := by rw [List.length_take]; omega
theorem smP_few (p : PS) : (smP p).few := by
  refine ⟨?_, ?_, fun t ht => ?_, ?_, fun l hl => ?_, ?_, fun d hd => ?_⟩
  · exact Nat.le_trans (take_le _ _) (by omega)
  · show ((p.ts.take 5).map smT).length ≤ 100000
    rw [List.length_map]
    exact Nat.le_trans (take_le _ _) (by omega)
  · obtain ⟨t, hm, rfl⟩ := List.mem_map.1 ht
    exact Nat.le_trans (take_le _ _) (by omega)
  · show ((p.ps.take 5).map smI).length ≤ 100000
    rw [List.length_map]
    exact Nat.le_trans (take_le _ _) (by omega)
  · obtain ⟨l, hm, rfl⟩ := List.mem_map.1 hl
    exact Nat.le_trans (take_le _ _) (by omega)
  · show ((p.ds.take 9).map smD).length ≤ 100000
    rw [List.length_map]
    exact Nat.le_trans (take_le _ _) (by omega)
  · obtain ⟨d, hm, rfl⟩ := List.mem_map.1 hd
    exact Nat.le_trans (take_le _ _) (by omega)
end Go.Proofs.Ytfmmfaeognoleaa
