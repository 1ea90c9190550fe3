/-
  The contract of scene.Check.
-/
import Derived.Test.YtfmmfaeognoleaaM4
import Derived.Test.YtfmmfaeognoleaaM1
namespace Go.Proofs.Ytfmmfaeognoleaa
open Go.RowKit
attribute [local go_sem ↓] Go.wp_at_zero Go.wp_at_succ

theorem Es.pre {α : Type} {E : Elem α} {w : World} {B : Nat} {A : Option Addr} {xs ys : List α} (h : Es E w B A (xs ++ ys)) : Es E w B A xs := fun hne => by
  obtain ⟨b, off, e, hb, hc⟩ := h (by intro h; exact hne (List.append_eq_nil_iff.1 h).1)
  refine ⟨b, off, e, hb, fun j u hj => hc j u ?_⟩
  rw [List.getElem?_append_left (List.getElem?_eq_some_iff.1 hj).1]
  exact hj
theorem Es.takes {α : Type} {E : Elem α} {w : World} {B : Nat} {A : Option Addr} {xs : List α} (h : Es E w B A xs) (k : Nat) : Es E w B A (xs.take k) := by
  rw [← List.take_append_drop k xs] at h
  exact h.pre
theorem check_ways (s : Sc) :
    (inB s.w 1 64 = false → check s.p = 20) ∧ (inB s.w 1 64 = true → inB s.h 1 64 = false → check s.p = 20)
    ∧ (inB s.w 1 64 = true → inB s.h 1 64 = true → (rightB s.k = false → check s.p = 1)
      ∧ (rightB s.k = true → (manyB s.p = true → check s.p = 26)
        ∧ (manyB s.p = false → (s.vs.all U.rightB = false → check s.p = 21)
          ∧ (s.vs.all U.rightB = true → ((s.ts.all fun l => l.x.right) = false → check s.p = 22)
            ∧ ((s.ts.all fun l => l.x.right) = true → ((s.ps.all fun l => decide (C.chk l.x = 0)) = false → check s.p = 23)
              ∧ ((s.ps.all fun l => decide (C.chk l.x = 0)) = true → check s.p = firstE (errAt s.p) 0 s.ds.length)))))) := by
  have e1 : s.p.w = s.w := rfl
  have e2 : s.p.h = s.h := rfl
  have e3 : s.p.k = s.k := rfl
  have e4 : s.p.vs = s.vs := rfl
  have e5 : s.p.ts.all Tx.right = s.ts.all fun l => l.x.right := by show (s.ts.map Lo.x).all _ = _; rw [List.all_map]; rfl
  have e6 : (s.p.ps.all fun l => decide (C.chk l = 0)) = s.ps.all fun l => decide (C.chk l.x = 0) := by show (s.ps.map Lo.x).all _ = _; rw [List.all_map]; rfl
  have e7 : s.p.ds.length = s.ds.length := by show (s.ds.map Lo.x).length = _; rw [List.length_map]
  unfold check headE
  rw [e1, e2, e3, e4, e5, e6, e7]
  generalize inB s.w 1 64 = r1
  generalize inB s.h 1 64 = r2
  generalize rightB s.k = r3
  generalize manyB s.p = r4
  generalize s.vs.all U.rightB = r5
  generalize (s.ts.all fun l => l.x.right) = r6
  generalize (s.ps.all fun l => decide (C.chk l.x = 0)) = r7
  refine ⟨fun a => ?_, fun a b => ?_, fun a b => ⟨fun c => ?_, fun c => ⟨fun d => ?_, fun d => ⟨fun e => ?_, fun e => ⟨fun f => ?_, fun f => ⟨fun g => ?_, fun g => ?_⟩⟩⟩⟩⟩⟩ <;> subst_vars <;> simp
theorem errAt_sc {s : Sc} {j : Nat} {u : Lo Dr} (h : s.ds[j]? = some u) : errAt s.p j = drawE s.p ((s.ds.take j).map Lo.x) u.x := by
  have : s.p.ds[j]? = some u.x := by show (s.ds.map Lo.x)[j]? = _; rw [List.getElem?_map, h]; rfl
  rw [errAt_eq this]
  show drawE s.p ((s.ds.map Lo.x).take j) u.x = _
  rw [List.map_take]
theorem errs_sc {s : Sc} {j : Nat} (hj : j ≤ s.ds.length) (h : ∀ i, i < j → errAt s.p i = 0) : ((s.ds.take j).map fun x => x.x.id).Nodup := by
  have e : s.p.ds = s.ds.map Lo.x := rfl
  have := errs_nodup (s := s.p) (k := j) (by rw [e, List.length_map]; exact hj) h
  rw [e, ← List.map_take, List.map_map] at this
  exact this
/-- One draw, with those ahead of it. -/
theorem one_last (s : Sc) (hok : s.ok) (hf : s.few) {j : Nat} {u : Lo Dr} (hu : s.ds[j]? = some u) (herr : ∀ i, i < j → errAt s.p i = 0) (W : World) (ha : s.at W W.heap.size) :
    Calls Try.prog 40 #[.agg #[.int .i64 s.w, .int .i64 s.h, .int .u8 s.k.r, .int .u8 s.k.g, .int .u8 s.k.b, .int .u8 s.k.a, .slice s.vA s.vs.length s.vc, .slice s.tA s.ts.length s.tc, .slice s.pA s.ps.length s.pc, .slice s.dA s.ds.length s.dc], .slice s.dA (j + 1) (j + 1)] W fun e w' => e = .returned (.int .i64 (errAt s.p j)) ∧ Below W.heap.size W w' := by
  have hj := (List.getElem?_eq_some_iff.1 hu).1
  have hm := List.mem_of_getElem? hu
  have hl : (s.ds.take j).length = j := by rw [List.length_take]; omega
  have h := checkLast_any s s.dA (j + 1) (s.ds.take j) u W ha hok hf (by have := hf.ds; omega) (fun x hx => by rw [← take_snoc hu] at hx; exact (hok.ds x (List.mem_of_mem_take hx)).1.id) (fun t ht => ((hok.ds u hm).1.tris t ht).i) (hf.dx u hm) (ha.dx u hm) (by rw [← take_snoc hu]; exact ha.d.takes _) (errs_sc (by omega) herr)
  rw [hl, ← errAt_sc hu] at h
  exact h
set_option maxRecDepth 100000 in
set_option maxHeartbeats 8000000 in
theorem check_scene (s : Sc) (w : World) (ha : s.at w w.heap.size) (hok : s.ok) (hf : s.few) :
    Calls Try.prog 17 #[.agg #[.int .i64 s.w, .int .i64 s.h, .int .u8 s.k.r, .int .u8 s.k.g, .int .u8 s.k.b, .int .u8 s.k.a, .slice s.vA s.vs.length s.vc, .slice s.tA s.ts.length s.tc, .slice s.pA s.ps.length s.pc, .slice s.dA s.ds.length s.dc]] w fun e w' => e = .returned (.int .i64 (check s.p)) ∧ Below w.heap.size w w' := by
  have HK := Lib.hid (new_below w (.cells #[.int .i64 s.w, .int .i64 s.h, .int .u8 s.k.r, .int .u8 s.k.g, .int .u8 s.k.b, .int .u8 s.k.a, .slice s.vA s.vs.length s.vc, .slice s.tA s.ts.length s.tc, .slice s.pA s.ps.length s.pc, .slice s.dA s.ds.length s.dc] 33))
  have HG := Lib.hid (show (w.alloc (.cells #[.int .i64 s.w, .int .i64 s.h, .int .u8 s.k.r, .int .u8 s.k.g, .int .u8 s.k.b, .int .u8 s.k.a, .slice s.vA s.vs.length s.vc, .slice s.tA s.ts.length s.tc, .slice s.pA s.ps.length s.pc, .slice s.dA s.ds.length s.dc] 33)).heap[w.heap.size]? = some (scB s) from heap_alloc_new _ _)
  have H1 := Lib.hid (within_any s.w 1 64)
  have H2 := Lib.hid (within_any s.h 1 64)
  have H3 := Lib.hid (cright_any s.k)
  have H4 := Lib.hid (fun W (hb : Below w.heap.size w W) => tooMany_any s W ((ha.below hb).sharp))
  have H5 := Lib.hid (fun W (hb : Below w.heap.size w W) => all26_any U.rightB 35 #[] (fun args w => by go_simp) s.vs s.vA s.vc hf.vs W ((ha.v.below hb).sharp) (fun x _ W2 _ => U.right_any x W2))
  have H6 := Lib.hid (fun W (hb : Below w.heap.size w W) => all28_any (fun l => l.x.right) 37 #[] (fun args w => by go_simp) s.ts s.tA s.tc hf.ts W ((ha.t.below hb).sharp) (fun x _ W2 _ => right_any x.x x.A x.c W2))
  have H7 := Lib.hid (fun W (hb : Below w.heap.size w W) => all30_any (fun l => decide (C.chk l.x = 0)) 39 #[] (fun args w => by go_simp) s.ps s.pA s.pc hf.ps W ((ha.p.below hb).sharp) (fun x hx W2 hb2 => mayRun_any x.x x.A x.c (hok.ps x hx).1 W2 ((((ha.px x hx).below hb).sharp.below hb2).sharp)))
  have H8 := Lib.hid (fun (j : Nat) (u : Lo Dr) (hu : s.ds[j]? = some u) (herr : ∀ i, i < j → errAt s.p i = 0) W (hb : Below w.heap.size w W) => one_last s hok hf hu herr W ((ha.below hb).sharp))
  have HS := Lib.hid (fun (j : Nat) (u : Lo Dr) (hu : s.ds[j]? = some u) => ha.d.at hu)
  have HL := Lib.hid (fun (k : Nat) (h : k < s.ds.length) => get_lt (l := s.ds) h)
  have HGd := Lib.hid (fun h => errs_good (s := s.p) (n := s.ds.length) h)
  have HBd := Lib.hid (fun (j : Nat) (hj : j < s.ds.length) h1 h2 => errs_bad (s := s.p) (n := s.ds.length) (j := j) hj h1 h2)
  have HW := Lib.hid (check_ways s)
  have hdc := hok.dc
  have hds := hf.ds
  generalize check s.p = R at *
  generalize errAt s.p = er at *
  generalize firstE er 0 s.ds.length = F at *
  generalize inB s.w 1 64 = r1 at *
  generalize inB s.h 1 64 = r2 at *
  generalize rightB s.k = r3 at *
  generalize manyB s.p = r4 at *
  generalize s.vs.all U.rightB = r5 at *
  generalize (s.ts.all fun l => l.x.right) = r6 at *
  generalize (s.ps.all fun l => decide (C.chk l.x = 0)) = r7 at *
  obtain ⟨dA, hdA⟩ : ∃ a, s.dA = a := ⟨_, rfl⟩
  rw [hdA] at HK HG HS H8 ⊢
  replace hdA := Lib.hid hdA
  clear ha hok hf
  go_enter Try.func17, Try.ntmps17
  go_wp2_with fail
  with_reducible refine (H1.out _).mono ?_
  rintro e w2 ⟨rfl, rfl⟩
  cases r1
  · obtain rfl : R = 20 := HW.out.1 (by simp)
    go_wp2
    go_ret
    exact ⟨rfl, HK.out⟩
  go_wp2_with fail
  with_reducible refine (H2.out _).mono ?_
  rintro e w2 ⟨rfl, rfl⟩
  cases r2
  · obtain rfl : R = 20 := HW.out.2.1 (by simp) (by simp)
    go_wp2
    go_ret
    exact ⟨rfl, HK.out⟩
  have HW2 := Lib.hid (HW.out.2.2 (by simp) (by simp))
  clear HW H1 H2
  go_wp2_with fail
  with_reducible refine (H3.out _).mono ?_
  rintro e w3 ⟨rfl, hb⟩
  have B3 := Lib.hid (bstep HK.out HK.out.size hb)
  have G3 := Lib.hid (scB_keep HG.out hb (scB_lt HG.out))
  clear hb HK HG H3
  cases r3
  · obtain rfl : R = 1 := HW2.out.1 (by simp)
    go_wp2
    go_ret
    exact ⟨rfl, B3.out⟩
  have HW3 := Lib.hid (HW2.out.2 (by simp))
  clear HW2
  obtain ⟨c0, c1, c2, c3, c4, c5, c6, c7, c8, c9⟩ := scB_cell G3.out
  have hg3 := scB_lt G3.out
  go_wp2_with fail
  with_reducible refine (H4.out _ B3.out).mono ?_
  rintro e w4 ⟨rfl, hb⟩
  have B4 := Lib.hid (bstep B3.out B3.out.size hb)
  have G4 := Lib.hid (scB_keep G3.out hb (scB_lt G3.out))
  clear hb B3 G3 H4 c0 c1 c2 c3 c4 c5 c6 c7 c8 c9 hg3
  cases r4
  case true =>
    obtain rfl : R = 26 := HW3.out.1 (by simp)
    go_wp2
    go_ret
    exact ⟨rfl, B4.out⟩
  have HW4 := Lib.hid (HW3.out.2 (by simp))
  clear HW3
  obtain ⟨c0, c1, c2, c3, c4, c5, c6, c7, c8, c9⟩ := scB_cell G4.out
  have hg4 := scB_lt G4.out
  go_wp2_with fail
  with_reducible refine (H5.out _ B4.out).mono ?_
  rintro e w5 ⟨rfl, hb⟩
  have B5 := Lib.hid (bstep B4.out B4.out.size hb)
  have G5 := Lib.hid (scB_keep G4.out hb (scB_lt G4.out))
  clear hb B4 G4 H5 c0 c1 c2 c3 c4 c5 c6 c7 c8 c9 hg4
  cases r5
  · obtain rfl : R = 21 := HW4.out.1 (by simp)
    go_wp2
    go_ret
    exact ⟨rfl, B5.out⟩
  have HW5 := Lib.hid (HW4.out.2 (by simp))
  clear HW4
  obtain ⟨c0, c1, c2, c3, c4, c5, c6, c7, c8, c9⟩ := scB_cell G5.out
  have hg5 := scB_lt G5.out
  go_wp2_with fail
  with_reducible refine (H6.out _ B5.out).mono ?_
  rintro e w6 ⟨rfl, hb⟩
  have B6 := Lib.hid (bstep B5.out B5.out.size hb)
  have G6 := Lib.hid (scB_keep G5.out hb (scB_lt G5.out))
  clear hb B5 G5 H6 c0 c1 c2 c3 c4 c5 c6 c7 c8 c9 hg5
  cases r6
  · obtain rfl : R = 22 := HW5.out.1 (by simp)
    go_wp2
    go_ret
    exact ⟨rfl, B6.out⟩
  have HW6 := Lib.hid (HW5.out.2 (by simp))
  clear HW5
  obtain ⟨c0, c1, c2, c3, c4, c5, c6, c7, c8, c9⟩ := scB_cell G6.out
  have hg6 := scB_lt G6.out
  go_wp2_with fail
  with_reducible refine (H7.out _ B6.out).mono ?_
  rintro e w7 ⟨rfl, hb⟩
  have B7 := Lib.hid (bstep B6.out B6.out.size hb)
  have G7 := Lib.hid (scB_keep G6.out hb (scB_lt G6.out))
  clear hb B6 G6 H7 c0 c1 c2 c3 c4 c5 c6 c7 c8 c9 hg6
  cases r7
  · obtain rfl : R = 23 := HW6.out.1 (by simp)
    go_wp2
    go_ret
    exact ⟨rfl, B7.out⟩
  obtain rfl : R = F := HW6.out.2 (by simp)
  clear HW6
  obtain ⟨c0, c1, c2, c3, c4, c5, c6, c7, c8, c9⟩ := scB_cell G7.out
  have hg7 := scB_lt G7.out
  obtain ⟨n, hn⟩ : ∃ n, s.ds.length = n := ⟨_, rfl⟩
  rw [hn, hdA.out] at c9
  rw [hn] at HL HGd HBd hdc hds
  go_wp2_with fail
  clear c0 c1 c2 c3 c4 c5 c6 c7 c8 c9 hg7
  replace hn := Lib.hid hn
  go_loopw [42] (fun i wr => ∃ j : Nat, j ≤ n ∧ i = .int .i64 j ∧ (∀ i, i < j → er i = 0) ∧ Below w.heap.size w wr ∧ wr.heap[w.heap.size]? = some (scB s)) (fun i _ => n - (intOf i).toNat)
  case atStart => exact ⟨0, Nat.zero_le _, rfl, fun i h => absurd h (Nat.not_lt_zero _), B7.out, G7.out⟩
  case round =>
    obtain ⟨j, hk, rfl, hin, hb, hg⟩ := hrel
    have HB := Lib.hid hb
    have HI := Lib.hid hin
    have HG := Lib.hid hg
    clear hin hb hg
    by_cases hlt : j < n
    · obtain ⟨u, hu⟩ := HL.out j hlt
      obtain ⟨b, off, rfl, -, -⟩ := HS.out j u hu
      obtain ⟨c0, c1, c2, c3, c4, c5, c6, c7, c8, c9⟩ := scB_cell HG.out
      have HC := Lib.hid (fun W hW => H8.out j u hu HI.out W hW)
      rw [hn.out, hdA.out] at c9
      rw [hn.out] at HC
      have hg := scB_lt HG.out
      obtain ⟨x, hx⟩ : ∃ x, er j = x := ⟨_, rfl⟩
      rw [hx] at HC
      have HX := Lib.hid hx
      have w1 : IntKind.i64.wrap ((j : Int) + 1) = j + 1 := by rw [IntKind.wrap_i64]; omega
      clear hu hx
      go_wp2_with fail
      have k1 : (0 : Int) ≤ (j : Int) + 1 := by omega
      have k2 : (j : Int) + 1 ≤ s.dc := by omega
      have y0 : ∀ x : Grow wr, x.w.cell? ⟨w.heap.size, 0, none⟩ = _ := fun x => x.cell c0
      have y1 : ∀ x : Grow wr, x.w.cell? ⟨w.heap.size, 1, none⟩ = _ := fun x => x.cell c1
      have y2 : ∀ x : Grow wr, x.w.cell? ⟨w.heap.size, 2, none⟩ = _ := fun x => x.cell c2
      have y3 : ∀ x : Grow wr, x.w.cell? ⟨w.heap.size, 3, none⟩ = _ := fun x => x.cell c3
      have y4 : ∀ x : Grow wr, x.w.cell? ⟨w.heap.size, 4, none⟩ = _ := fun x => x.cell c4
      have y5 : ∀ x : Grow wr, x.w.cell? ⟨w.heap.size, 5, none⟩ = _ := fun x => x.cell c5
      have y6 : ∀ x : Grow wr, x.w.cell? ⟨w.heap.size, 6, none⟩ = _ := fun x => x.cell c6
      have y7 : ∀ x : Grow wr, x.w.cell? ⟨w.heap.size, 7, none⟩ = _ := fun x => x.cell c7
      have y8 : ∀ x : Grow wr, x.w.cell? ⟨w.heap.size, 8, none⟩ = _ := fun x => x.cell c8
      have y9 : ∀ x : Grow wr, x.w.cell? ⟨w.heap.size, 9, none⟩ = _ := fun x => x.cell c9
      refine wp_region_held_drew (S := fun w' => ∃ x : Grow wr, w' = x.w) (by kernel_rfl) ⟨⟨_, (Below.refl _ _).drew⟩, rfl⟩ (fun hS => ?_)
      have BD := Lib.hid (show Below w.heap.size w wr.drew from HB.out.drew)
      have GD := Lib.hid (show wr.drew.heap[w.heap.size]? = some (scB s) from HG.out)
      have DW := Lib.hid (show Below wr.heap.size wr wr.drew from (Below.refl _ _).drew)
      generalize wr.drew = Y at *
      refine wpAnyH_take (i := 0) (v := .agg #[.int .i64 s.w, .int .i64 s.h, .int .u8 s.k.r, .int .u8 s.k.g, .int .u8 s.k.b, .int .u8 s.k.a, .slice s.vA s.vs.length s.vc, .slice s.tA s.ts.length s.tc, .slice s.pA s.ps.length s.pc, .slice (some ⟨b, off, none⟩) n s.dc]) rfl (by kernel_rfl) (by kernel_rfl) (by kernel_rfl) (fun _ _ _ h => h) (Or.inl ⟨by rfl, fun w hw => by obtain ⟨x, rfl⟩ := hw; go_simp⟩) hS ?_
      try simp only [Act.put, List.setIfInBounds_toArray, List.set_cons_zero, List.set_cons_succ, List.getElem_toArray, List.getElem_cons_zero]
      refine wpAnyH_take (i := 1) (v := .pointer (some ⟨w.heap.size, 9, none⟩)) rfl (by kernel_rfl) (by kernel_rfl) (by kernel_rfl) (fun _ _ _ h => h) (Or.inl ⟨by rfl, fun w hw => by obtain ⟨x, rfl⟩ := hw; go_simp⟩) hS ?_
      try simp only [Act.put, List.setIfInBounds_toArray, List.set_cons_zero, List.set_cons_succ, List.getElem_toArray, List.getElem_cons_zero, List.getElem_cons_succ]
      refine wpAnyH_take (i := 2) (v := .slice (some ⟨b, off, none⟩) n s.dc) rfl (by kernel_rfl) (by kernel_rfl) (by kernel_rfl) (fun _ _ _ h => h) (Or.inl ⟨by rfl, fun w hw => by obtain ⟨x, rfl⟩ := hw; go_simp⟩) hS ?_
      try simp only [Act.put, List.setIfInBounds_toArray, List.set_cons_zero, List.set_cons_succ, List.getElem_toArray, List.getElem_cons_zero, List.getElem_cons_succ]
      refine wpAnyH_take (i := 3) (v := .int .i64 j) rfl (by kernel_rfl) (by kernel_rfl) (by kernel_rfl) (fun _ _ _ h => h) (Or.inl ⟨by rfl, fun w hw => by obtain ⟨x, rfl⟩ := hw; go_simp⟩) hS ?_
      try simp only [Act.put, List.setIfInBounds_toArray, List.set_cons_zero, List.set_cons_succ, List.getElem_toArray, List.getElem_cons_zero, List.getElem_cons_succ]
      refine wpAnyH_take (i := 4) (v := .int .i64 (j + 1)) rfl (by kernel_rfl) (by kernel_rfl) (by kernel_rfl) (fun _ _ _ h => h) (Or.inl ⟨by rfl, fun w hw => by obtain ⟨x, rfl⟩ := hw; go_simp⟩) hS ?_
      try simp only [Act.put, List.setIfInBounds_toArray, List.set_cons_zero, List.set_cons_succ, List.getElem_toArray, List.getElem_cons_zero, List.getElem_cons_succ]
      refine wpAnyH_take (i := 5) (v := .int .i64 j) rfl (by kernel_rfl) (by kernel_rfl) (by kernel_rfl) (fun _ _ _ h => h) (Or.inl ⟨by rfl, fun w hw => by obtain ⟨x, rfl⟩ := hw; go_simp⟩) hS ?_
      try simp only [Act.put, List.setIfInBounds_toArray, List.set_cons_zero, List.set_cons_succ, List.getElem_toArray, List.getElem_cons_zero, List.getElem_cons_succ]
      refine wpAnyH_take (i := 6) (v := .int .i64 (j + 1)) rfl (by kernel_rfl) (by kernel_rfl) (by kernel_rfl) (fun _ _ _ h => h) (Or.inl ⟨by rfl, fun w hw => by obtain ⟨x, rfl⟩ := hw; go_simp⟩) hS ?_
      try simp only [Act.put, List.setIfInBounds_toArray, List.set_cons_zero, List.set_cons_succ, List.getElem_toArray, List.getElem_cons_zero, List.getElem_cons_succ]
      refine wpAnyH_take (i := 7) (v := .slice (some ⟨b, off, none⟩) (j + 1) (j + 1)) rfl (by kernel_rfl) (by kernel_rfl) (by kernel_rfl) (fun _ _ _ h => h) (Or.inl ⟨by rfl, fun w hw => by obtain ⟨x, rfl⟩ := hw; go_simp⟩) hS ?_
      try simp only [Act.put, List.setIfInBounds_toArray, List.set_cons_zero, List.set_cons_succ, List.getElem_toArray, List.getElem_cons_zero, List.getElem_cons_succ]
      refine wpAnyH_ready (rs := [8]) (by kernel_rfl) (by simp) ?_
      refine AllReadyH.cons rfl (fun K hK => ?_) AllReadyH.nil
      go_simp
      with_reducible refine (HC.out _ BD.out).mono ?_
      rintro e w8 ⟨rfl, hb⟩
      have DW8 := Lib.hid (bstep DW.out DW.out.size hb)
      refine hK.out _ _ ⟨⟨_, DW8.out⟩, rfl⟩ (fun hS => ?_)
      clear hK K
      try simp only [Act.put, List.setIfInBounds_toArray, List.set_cons_zero, List.set_cons_succ, List.getElem_toArray, List.getElem_cons_zero, List.getElem_cons_succ]
      refine wpAnyH_take (i := 9) (v := .int .i64 x) rfl (by kernel_rfl) (by kernel_rfl) (by kernel_rfl) (fun _ _ _ h => h) (Or.inl ⟨by rfl, fun w hw => by obtain ⟨x, rfl⟩ := hw; go_simp⟩) hS ?_
      try simp only [Act.put, List.setIfInBounds_toArray, List.set_cons_zero, List.set_cons_succ, List.getElem_toArray, List.getElem_cons_zero, List.getElem_cons_succ]
      refine wpAnyH_done (by kernel_rfl) ?_ _
      have B8 := Lib.hid (bstep BD.out BD.out.size hb)
      have G8 := Lib.hid (scB_keep GD.out hb (scB_lt GD.out))
      clear hb BD GD HC c0 c1 c2 c3 c4 c5 c6 c7 c8 c9 hg y0 y1 y2 y3 y4 y5 y6 y7 y8 y9 DW DW8 hS
      by_cases x0 : x = 0
      · have d1 : (x == 0) = true := by simp [x0]
        have d2 : decide (x = 0) = true := by simp [x0]
        go_wp2_with fail
        go_roundw
        case rel =>
          refine ⟨j + 1, by omega, by go_num, fun i hi => ?_, B8.out, G8.out⟩
          rcases Nat.lt_or_ge i j with h | h
          · exact HI.out i h
          · obtain rfl : i = j := by omega
            rw [HX.out]
            exact x0
        case measure => simp [intOf]; omega
      · have d1 : (x == 0) = false := by simp [x0]
        have d2 : decide (x = 0) = false := by simp [x0]
        obtain rfl : R = x := by rw [HBd.out j hlt HI.out (by rw [HX.out]; exact x0), HX.out]
        go_wp2_with fail
        go_ret
        exact ⟨rfl, B8.out⟩
    · obtain rfl : j = n := by omega
      obtain rfl : R = 0 := HGd.out HI.out
      go_wp2
      go_ret
      exact ⟨rfl, HB.out⟩
end Go.Proofs.Ytfmmfaeognoleaa
/-
  Scenes of not too much of all (pure), and what of a scene's parts is fine.
-/
namespace Go.Proofs.Ytfmmfaeognoleaa

structure PS.ok (p : PS) : Prop where
  w : I64 p.w
  h : I64 p.h
  k : p.k.ok
  vs : ∀ v ∈ p.vs, v.i64
  ts : ∀ t ∈ p.ts, I64 t.w ∧ I64 t.h ∧ t.ok
  ps : ∀ l ∈ p.ps, ∀ x ∈ l, x.ok
  ds : ∀ d ∈ p.ds, d.ok
structure PS.few (p : PS) : Prop where
  vs : p.vs.length ≤ 100000
  ts : p.ts.length ≤ 100000
  tx : ∀ t ∈ p.ts, t.px.length ≤ 100000
  ps : p.ps.length ≤ 100000
  px : ∀ l ∈ p.ps, l.length ≤ 100000
  ds : p.ds.length ≤ 100000
  dx : ∀ d ∈ p.ds, d.tris.length ≤ 100000
/-- Its rows have room for what they have. -/
structure Sc.cap (s : Sc) : Prop where
  v : s.vs.length ≤ s.vc
  t : s.ts.length ≤ s.tc
  tx : ∀ l ∈ s.ts, l.x.px.length ≤ l.c
  p : s.ps.length ≤ s.pc
  px : ∀ l ∈ s.ps, l.x.length ≤ l.c
  d : s.ds.length ≤ s.dc
  dx : ∀ l ∈ s.ds, l.x.tris.length ≤ l.c
theorem ok_p {s : Sc} (h : s.ok) : s.p.ok := by
  refine ⟨h.w, h.h, h.k, h.vs, fun t ht => ?_, fun l hl => ?_, fun d hd => ?_⟩
  · obtain ⟨l, hl, rfl⟩ := List.mem_map.1 (show t ∈ s.ts.map Lo.x from ht)
    exact ⟨(h.ts l hl).1, (h.ts l hl).2.1, (h.ts l hl).2.2.1⟩
  · obtain ⟨x, hx, rfl⟩ := List.mem_map.1 (show l ∈ s.ps.map Lo.x from hl)
    exact (h.ps x hx).1
  · obtain ⟨x, hx, rfl⟩ := List.mem_map.1 (show d ∈ s.ds.map Lo.x from hd)
    exact (h.ds x hx).1
theorem ok_of {s : Sc} {p : PS} (e : s.p = p) (h : p.ok) (c : s.cap) : s.ok := by
  subst e
  exact ⟨h.w, h.h, h.k, h.vs, fun l hl => by
    have := h.ts l.x (List.mem_map.2 ⟨l, hl, rfl⟩)
    exact ⟨this.1, this.2.1, this.2.2, c.tx l hl⟩, fun l hl => ⟨h.ps l.x (List.mem_map.2 ⟨l, hl, rfl⟩), c.px l hl⟩, fun l hl => ⟨h.ds l.x (List.mem_map.2 ⟨l, hl, rfl⟩), c.dx l hl⟩, c.v, c.t, c.p, c.d⟩
theorem few_of {s : Sc} {p : PS} (e : s.p = p) (h : p.few) : s.few := by
  subst e
  exact ⟨h.vs, by have := h.ts; rwa [show s.p.ts.length = s.ts.length by show (s.ts.map Lo.x).length = _; rw [List.length_map]] at this, fun l hl => h.tx l.x (List.mem_map.2 ⟨l, hl, rfl⟩),
    by have := h.ps; rwa [show s.p.ps.length = s.ps.length by show (s.ps.map Lo.x).length = _; rw [List.length_map]] at this, fun l hl => h.px l.x (List.mem_map.2 ⟨l, hl, rfl⟩),
    by have := h.ds; rwa [show s.p.ds.length = s.ds.length by show (s.ds.map Lo.x).length = _; rw [List.length_map]] at this, fun l hl => h.dx l.x (List.mem_map.2 ⟨l, hl, rfl⟩)⟩
def smT (t : Tx) : Tx := ⟨t.w, t.h, t.px.take 260⟩
def smI (l : List C.In) : List C.In := l.take 34
def smD (d : Dr) : Dr := ⟨d.id, d.prog, d.tex, d.op, d.tris.take 34⟩
def smP (p : PS) : PS := ⟨p.w, p.h, p.k, p.vs.take 66, (p.ts.take 5).map smT, (p.ps.take 5).map smI, (p.ds.take 9).map smD⟩
theorem smP_ok {p : PS} (h : p.ok) : (smP p).ok := by
  refine ⟨h.w, h.h, h.k, fun v hv => h.vs v (List.mem_of_mem_take hv), fun t ht => ?_, fun l hl => ?_, fun d hd => ?_⟩
  · obtain ⟨t, hm, rfl⟩ := List.mem_map.1 ht
    have := h.ts t (List.mem_of_mem_take hm)
    exact ⟨this.1, this.2.1, fun c hc => this.2.2 c (List.mem_of_mem_take hc)⟩
  · obtain ⟨l, hm, rfl⟩ := List.mem_map.1 hl
    exact fun x hx => h.ps l (List.mem_of_mem_take hm) x (List.mem_of_mem_take hx)
  · obtain ⟨d, hm, rfl⟩ := List.mem_map.1 hd
    have := h.ds d (List.mem_of_mem_take hm)
    exact ⟨this.id, this.prog, this.tex, fun t ht => this.tris t (List.mem_of_mem_take ht)⟩
theorem take_le {α : Type} (l : List α) (n : Nat) : (l.take n).length ≤ n := by rw [List.length_take]; omega
theorem smP_few (p : PS) : (smP p).few := by
  refine ⟨?_, ?_, fun t ht => ?_, ?_, fun l hl => ?_, ?_, fun d hd => ?_⟩
  · exact Nat.le_trans (take_le _ _) (by omega)
  · show ((p.ts.take 5).map smT).length ≤ 100000
    rw [List.length_map]
    exact Nat.le_trans (take_le _ _) (by omega)
  · obtain ⟨t, hm, rfl⟩ := List.mem_map.1 ht
    exact Nat.le_trans (take_le _ _) (by omega)
  · show ((p.ps.take 5).map smI).length ≤ 100000
    rw [List.length_map]
    exact Nat.le_trans (take_le _ _) (by omega)
  · obtain ⟨l, hm, rfl⟩ := List.mem_map.1 hl
    exact Nat.le_trans (take_le _ _) (by omega)
  · show ((p.ds.take 9).map smD).length ≤ 100000
    rw [List.length_map]
    exact Nat.le_trans (take_le _ _) (by omega)
  · obtain ⟨d, hm, rfl⟩ := List.mem_map.1 hd
    exact Nat.le_trans (take_le _ _) (by omega)
end Go.Proofs.Ytfmmfaeognoleaa
/-
  Plain mathematics for WireBack and WireLeft: what a part of the bytes says.
-/
namespace Go.Proofs.Ytfmmfaeognoleaa.P

theorem nums_trues (q : List Int) : nums (q.map fun n => (n, true)) = q := by simp [nums, List.filter_map, Function.comp_def]
theorem flag_trues (q : List Int) : flag (q.map fun n => (n, true)) = false := by simp [flag]

theorem seq_all {l : List Int} (h : Ins l) : seq (put l) = l.map fun n => (n, true) := by
  have := seq_put h []
  rw [List.append_nil, seq_nil, List.append_nil] at this
  exact this

theorem seq_part {n : Int} (hn : In64 n) {k : Nat} (hk : k < (enc (fold n)).length) : nums (seq ((enc (fold n)).take k)) = [] := by
  by_cases he : (enc (fold n)).take k = []
  · rw [he, seq_nil]; rfl
  obtain ⟨x, s, hf⟩ : ∃ x s, first ((enc (fold n)).take k) = (x, s) := ⟨_, _, rfl⟩
  by_cases hs : s = 0
  · subst hs; rw [seq_bad he hf]; rfl
  exfalso
  obtain ⟨hx, hsl, happ, hle, _, _⟩ := first_inv ((enc_byt _).take k) hf hs
  have h1 := first_put hn []
  rw [List.append_nil] at h1
  have h2 : enc (fold n) = enc (fold x) ++ (((enc (fold n)).take k).drop s ++ (enc (fold n)).drop k) := by
    rw [← List.append_assoc, ← happ, List.take_append_drop]
  have h3 := first_put hx (((enc (fold n)).take k).drop s ++ (enc (fold n)).drop k)
  rw [← h2, h1] at h3
  have h4 := congrArg Prod.snd h3
  simp only at h4
  rw [List.length_take] at hle
  omega

theorem seq_cut : ∀ {l : List Int} (_ : Ins l) (k : Nat), k ≤ (put l).length → ∃ j, j ≤ l.length ∧ nums (seq ((put l).take k)) = l.take j ∧ (k < (put l).length → j < l.length) := by
  intro l
  induction l with
  | nil => intro _ k hk; exact ⟨0, by simp, by simp [put, seq_nil, nums], fun h => by simp [put] at h⟩
  | cons n l ih =>
    intro h k hk
    have hn := h n (by simp)
    have hl : Ins l := fun x hx => h x (List.mem_cons_of_mem _ hx)
    by_cases hkn : k < (enc (fold n)).length
    · refine ⟨0, by simp, ?_, fun _ => by simp⟩
      rw [put_cons, List.take_append_of_le_length (by omega), seq_part hn hkn]; rfl
    · rw [put_cons, List.length_append] at hk
      obtain ⟨j, hj, hjn, hjk⟩ := ih hl (k - (enc (fold n)).length) (by omega)
      refine ⟨j + 1, by simp; omega, ?_, fun hlt => ?_⟩
      · have e : (put (n :: l)).take k = put [n] ++ (put l).take (k - (enc (fold n)).length) := by
          rw [put_cons, put_cons, put_nil, List.append_nil, List.take_append, List.take_of_length_le (by omega)]
        rw [e, seq_put (fun x hx => by simp at hx; subst hx; exact hn)]
        show nums ((n, true) :: seq _) = _
        rw [show nums ((n, true) :: seq ((put l).take (k - (enc (fold n)).length))) = n :: nums (seq ((put l).take (k - (enc (fold n)).length))) by simp [nums], hjn]; rfl
      · rw [put_cons, List.length_append] at hlt
        have := hjk (by omega)
        simp; omega

theorem first_here {l : List Int} (h : Ins l) {i : Nat} (hi : i < l.length) {n : Int} (hn : l.getD i 0 = n) : first (put (l.drop i)) = (n, (enc (fold n)).length) ∧ (put (l.drop i)).drop (enc (fold n)).length = put (l.drop (i + 1)) := by
  have e : l.drop i = n :: l.drop (i + 1) := by
    rw [List.drop_eq_getElem_cons hi, ← hn, List.getD_eq_getElem?_getD, List.getElem?_eq_getElem hi]; rfl
  have hin : In64 n := by rw [← hn]; exact h.get i
  rw [e, put_cons]
  exact ⟨first_put hin _, by simp⟩
theorem Ins.drop {l : List Int} (h : Ins l) (k : Nat) : Ins (l.drop k) := fun n hn => h n (List.mem_of_mem_drop hn)
end Go.Proofs.Ytfmmfaeognoleaa.P
/-
  Scenes as numbers, and numbers as scenes (pure): what is said, and how it is read, as package codec reads it.
-/
namespace Go.Proofs.Ytfmmfaeognoleaa

def nC (c : Col) : List Int := [c.r, c.g, c.b, c.a]
def nV (v : U.V) : List Int := [v.x, v.y, v.z, v.w, v.a, v.b, v.c, v.d]
def nI (x : C.In) : List Int := [x.o, x.d, x.a, x.b, x.n]
def nR (t : Tr) : List Int := [t.i, t.a, t.b, t.c]
def nAll {α : Type} (g : α → List Int) (l : List α) : List Int := (l.length : Int) :: l.flatMap g
def nT (t : Tx) : List Int := t.w :: t.h :: nAll nC t.px
def nP (l : List C.In) : List Int := nAll nI l
def nB (b : Bool) : Int := if b then 1 else 0
def nD (d : Dr) : List Int := d.id :: d.prog :: d.tex :: nB d.op :: nAll nR d.tris
def nS (p : PS) : List Int := p.w :: p.h :: (nC p.k ++ (nAll nV p.vs ++ (nAll nT p.ts ++ (nAll nP p.ps ++ nAll nD p.ds))))

/-- What is left to be read, and whether it went bad. -/
structure St where
  l : List Int
  bad : Bool
def rNum (s : St) : Int × St := match s.l with
  | [] => (0, ⟨[], true⟩)
  | n :: r => (n, ⟨r, s.bad⟩)
def rUp (m : Int) (s : St) : Int × St := if (rNum s).1 < 0 ∨ m < (rNum s).1 then (0, ⟨(rNum s).2.l, true⟩) else rNum s
def rSm (s : St) : Int × St := rUp 255 s
def rSign (s : St) : Bool × St := (decide ((rUp 1 s).1 = 1), (rUp 1 s).2)
/-- So many, one behind the other. -/
def rRep {α : Type} (f : St → α × St) : Nat → St → List α × St
  | 0, s => ([], s)
  | k + 1, s => ((rRep f k s).1 ++ [(f (rRep f k s).2).1], (f (rRep f k s).2).2)
def rMany (s : St) : Int × St := rUp (s.l.length - 1) s
def rAll {α : Type} (f : St → α × St) (s : St) : List α × St := rRep f (rMany s).1.toNat (rMany s).2
def rC (s : St) : Col × St :=
  let a := rSm s; let b := rSm a.2; let c := rSm b.2; let d := rSm c.2
  (⟨a.1, b.1, c.1, d.1⟩, d.2)
def rV (s : St) : U.V × St :=
  let a := rNum s; let b := rNum a.2; let c := rNum b.2; let d := rNum c.2; let e := rNum d.2; let f := rNum e.2; let g := rNum f.2; let h := rNum g.2
  (⟨a.1, b.1, c.1, d.1, e.1, f.1, g.1, h.1⟩, h.2)
def rI (s : St) : C.In × St :=
  let a := rSm s; let b := rSm a.2; let c := rSm b.2; let d := rSm c.2; let e := rNum d.2
  (⟨a.1, b.1, c.1, d.1, e.1⟩, e.2)
def rR (s : St) : Tr × St :=
  let a := rNum s; let b := rNum a.2; let c := rNum b.2; let d := rNum c.2
  (⟨a.1, b.1, c.1, d.1⟩, d.2)
def rT (s : St) : Tx × St :=
  let a := rNum s; let b := rNum a.2; let c := rAll rC b.2
  (⟨a.1, b.1, c.1⟩, c.2)
def rP (s : St) : List C.In × St := rAll rI s
def rD (s : St) : Dr × St :=
  let a := rNum s; let b := rNum a.2; let c := rNum b.2; let d := rSign c.2; let e := rAll rR d.2
  (⟨a.1, b.1, c.1, d.1, e.1⟩, e.2)
def rS (s : St) : PS × St :=
  let a := rNum s; let b := rNum a.2; let c := rC b.2; let d := rAll rV c.2; let e := rAll rT d.2; let f := rAll rP e.2; let g := rAll rD f.2
  (⟨a.1, b.1, c.1, d.1, e.1, f.1, g.1⟩, g.2)

/-- A way to read goes with a way to say. -/
structure Goes {α : Type} (f : St → α × St) (g : α → List Int) (ok : α → Prop) : Prop where
  fwd : ∀ x r b, ok x → f ⟨g x ++ r, b⟩ = (x, ⟨r, b⟩)
  mono : ∀ s, (f s).2.bad = false → s.bad = false
  inv : ∀ s, (f s).2.bad = false → s.l = g (f s).1 ++ (f s).2.l
  ok : ∀ s, (f s).2.bad = false → P.Ins s.l → ok (f s).1
section
variable {α : Type} {f : St → α × St} {g : α → List Int} {ok : α → Prop}
theorem ins_right {a b : List Int} (h : P.Ins (a ++ b)) : P.Ins b := fun n hn => h n (List.mem_append_right _ hn)
theorem ins_left {a b : List Int} (h : P.Ins (a ++ b)) : P.Ins a := fun n hn => h n (List.mem_append_left _ hn)
theorem Goes.next (h : Goes f g ok) {s : St} (hb : (f s).2.bad = false) (hi : P.Ins s.l) : P.Ins (f s).2.l := by
  have := h.inv s hb
  rw [this] at hi
  exact ins_right hi
theorem num_goes : Goes rNum (fun n => [n]) I64 where
  fwd x r b _ := rfl
  mono s hb := by
    obtain ⟨l, b⟩ := s
    cases l with
    | nil => cases hb
    | cons n r => exact hb
  inv s hb := by
    obtain ⟨l, b⟩ := s
    cases l with
    | nil => cases hb
    | cons n r => rfl
  ok s hb hi := by
    obtain ⟨l, b⟩ := s
    cases l with
    | nil => cases hb
    | cons n r => exact hi n (by simp)
theorem up_of {m : Int} {s : St} (hb : (rUp m s).2.bad = false) : rUp m s = rNum s ∧ 0 ≤ (rNum s).1 ∧ (rNum s).1 ≤ m := by
  unfold rUp at hb ⊢
  split at hb
  · cases hb
  · rename_i hn
    rw [if_neg hn]
    exact ⟨rfl, by omega, by omega⟩
theorem up_goes (m : Int) : Goes (rUp m) (fun n => [n]) (fun n => 0 ≤ n ∧ n ≤ m) where
  fwd x r b h := by
    show (if x < 0 ∨ m < x then _ else _) = _
    rw [if_neg (by omega)]
    rfl
  mono s hb := by
    have e := (up_of hb).1
    rw [e] at hb
    exact num_goes.mono s hb
  inv s hb := by
    have e := (up_of hb).1
    rw [e] at hb ⊢
    exact num_goes.inv s hb
  ok s hb _ := by
    obtain ⟨e, h1, h2⟩ := up_of hb
    rw [e]
    exact ⟨h1, h2⟩
theorem sign_goes : Goes rSign (fun b => [nB b]) (fun _ => True) where
  fwd x r b _ := by
    unfold rSign
    cases x
    · rw [show ([nB false] ++ r : List Int) = [0] ++ r from rfl, (up_goes 1).fwd 0 r b (by omega)]
      rfl
    · rw [show ([nB true] ++ r : List Int) = [1] ++ r from rfl, (up_goes 1).fwd 1 r b (by omega)]
      rfl
  mono s hb := (up_goes 1).mono s hb
  inv s hb := by
    obtain ⟨e, h1, h2⟩ := up_of (s := s) (m := 1) hb
    have h3 := (up_goes 1).inv s hb
    rw [h3]
    unfold rSign
    rw [e]
    have : (rNum s).1 = 0 ∨ (rNum s).1 = 1 := by omega
    rcases this with e | e <;> rw [e] <;> rfl
  ok s _ _ := trivial
theorem rep_mono (h : Goes f g ok) : ∀ (k : Nat) (s : St), (rRep f k s).2.bad = false → s.bad = false
  | 0, _, hb => hb
  | k + 1, s, hb => rep_mono h k s (h.mono _ hb)
theorem rep_len : ∀ (k : Nat) (s : St), (rRep f k s).1.length = k
  | 0, _ => rfl
  | k + 1, s => by
    show ((rRep f k s).1 ++ [_]).length = _
    rw [List.length_append, rep_len k s]
    rfl
theorem rep_inv (h : Goes f g ok) : ∀ (k : Nat) (s : St), (rRep f k s).2.bad = false → s.l = (rRep f k s).1.flatMap g ++ (rRep f k s).2.l
  | 0, s, _ => rfl
  | k + 1, s, hb => by
    have e1 := rep_inv h k s (h.mono _ hb)
    have e2 := h.inv _ hb
    show _ = ((rRep f k s).1 ++ [_]).flatMap g ++ (f (rRep f k s).2).2.l
    rw [List.flatMap_append, List.append_assoc, e1]
    congr 1
    simpa using e2
theorem rep_ok (h : Goes f g ok) : ∀ (k : Nat) (s : St), (rRep f k s).2.bad = false → P.Ins s.l → ∀ x ∈ (rRep f k s).1, ok x
  | 0, s, _, _ => fun x hx => (by cases hx)
  | k + 1, s, hb, hi => fun x hx => by
    have e1 := rep_inv h k s (h.mono _ hb)
    rcases List.mem_append.1 (show x ∈ (rRep f k s).1 ++ [(f (rRep f k s).2).1] from hx) with hx | hx
    · exact rep_ok h k s (h.mono _ hb) hi x hx
    · obtain rfl : x = (f (rRep f k s).2).1 := by simpa using hx
      rw [e1] at hi
      exact h.ok _ hb (ins_right hi)
theorem rep_fwd (h : Goes f g ok) (l : List α) (r : List Int) (b : Bool) (ho : ∀ x ∈ l, ok x) : ∀ n, n ≤ l.length → rRep f n ⟨l.flatMap g ++ r, b⟩ = (l.take n, ⟨(l.drop n).flatMap g ++ r, b⟩)
  | 0, _ => rfl
  | n + 1, hn => by
    have e := rep_fwd h l r b ho n (by omega)
    have hx : l.drop n = l[n] :: l.drop (n + 1) := List.drop_eq_getElem_cons (by omega)
    show ((rRep f n _).1 ++ [(f (rRep f n _).2).1], (f (rRep f n _).2).2) = _
    rw [e]
    have e5 := h.fwd l[n] ((l.drop (n + 1)).flatMap g ++ r) b (ho _ (List.getElem_mem _))
    rw [hx, List.flatMap_cons, List.append_assoc, e5, List.take_succ_eq_append_getElem (by omega)]
theorem all_goes (h : Goes f g ok) (pos : ∀ x, 1 ≤ (g x).length) : Goes (rAll f) (nAll g) (fun l => ∀ x ∈ l, ok x) where
  fwd l r b ho := by
    have hm : rMany ⟨nAll g l ++ r, b⟩ = ((l.length : Int), ⟨l.flatMap g ++ r, b⟩) := by
      unfold rMany
      have hl : l.length ≤ (l.flatMap g).length := by
        clear ho
        induction l with
        | nil => simp
        | cons x l ih =>
          have := pos x
          rw [List.flatMap_cons, List.length_append, List.length_cons]
          omega
      refine (up_goes _).fwd (l.length : Int) (l.flatMap g ++ r) b ⟨by omega, ?_⟩
      show (l.length : Int) ≤ (((l.length : Int) :: l.flatMap g ++ r).length : Int) - 1
      simp only [List.cons_append, List.length_cons, List.length_append]
      omega
    unfold rAll
    rw [hm]
    have := rep_fwd h l r b ho l.length (Nat.le_refl _)
    simpa using this
  mono s hb := (up_goes _).mono s (rep_mono h _ _ hb)
  inv s hb := by
    have h1 : (rMany s).2.bad = false := rep_mono h _ _ hb
    obtain ⟨e, h2, h3⟩ := up_of (s := s) h1
    have h4 : s.l = [(rMany s).1] ++ (rMany s).2.l := (up_goes _).inv s h1
    have h5 : (rMany s).2.l = (rAll f s).1.flatMap g ++ (rAll f s).2.l := rep_inv h _ _ hb
    have h6 : (rAll f s).1.length = (rMany s).1.toNat := rep_len _ _
    have h7 : (rMany s).1 = ((rAll f s).1.length : Int) := by
      have h8 : rMany s = rNum s := e
      rw [h6, h8]
      omega
    rw [h4, h5, h7]
    rfl
  ok s hb hi := rep_ok h _ _ hb ((up_goes _).next (rep_mono h _ _ hb) hi)
theorem Goes.imp {ok' : α → Prop} (h : Goes f g ok) (h1 : ∀ x, ok' x → ok x) (h2 : ∀ x, ok x → ok' x) : Goes f g ok' := ⟨fun x r b hx => h.fwd x r b (h1 x hx), h.mono, h.inv, fun s hb hi => h2 _ (h.ok s hb hi)⟩
end
section
variable {α β : Type} {f1 : St → α × St} {g1 : α → List Int} {ok1 : α → Prop} {f2 : St → β × St} {g2 : β → List Int} {ok2 : β → Prop}
def rPair (f1 : St → α × St) (f2 : St → β × St) (s : St) : (α × β) × St := (((f1 s).1, (f2 (f1 s).2).1), (f2 (f1 s).2).2)
theorem pair_goes (h1 : Goes f1 g1 ok1) (h2 : Goes f2 g2 ok2) : Goes (rPair f1 f2) (fun x => g1 x.1 ++ g2 x.2) (fun x => ok1 x.1 ∧ ok2 x.2) where
  fwd x r b h := by
    unfold rPair
    rw [List.append_assoc, h1.fwd _ _ _ h.1]
    show (_, _) = _
    rw [h2.fwd _ _ _ h.2]
  mono s hb := h1.mono s (h2.mono _ hb)
  inv s hb := by
    have e1 := h1.inv s (h2.mono _ hb)
    have e2 := h2.inv _ hb
    show s.l = (g1 (f1 s).1 ++ g2 (f2 (f1 s).2).1) ++ (f2 (f1 s).2).2.l
    rw [List.append_assoc, ← e2, ← e1]
  ok s hb hi := ⟨h1.ok s (h2.mono _ hb) hi, h2.ok _ hb (h1.next (h2.mono _ hb) hi)⟩
theorem map_goes (h : Goes f1 g1 ok1) (e : α → β) (d : β → α) (he : ∀ y, e (d y) = y) (hd : ∀ x, d (e x) = x) : Goes (fun s => (e (f1 s).1, (f1 s).2)) (fun y => g1 (d y)) (fun y => ok1 (d y)) where
  fwd y r b h2 := by
    show (e (f1 ⟨g1 (d y) ++ r, b⟩).1, (f1 ⟨g1 (d y) ++ r, b⟩).2) = _
    rw [h.fwd _ _ _ h2, he]
  mono s hb := h.mono s hb
  inv s hb := by
    show s.l = g1 (d (e (f1 s).1)) ++ (f1 s).2.l
    rw [hd]
    exact h.inv s hb
  ok s hb hi := by
    show ok1 (d (e (f1 s).1))
    rw [hd]
    exact h.ok s hb hi
end
theorem sm_goes : Goes rSm (fun n => [n]) (fun n => 0 ≤ n ∧ n ≤ 255) := up_goes 255
theorem col_goes : Goes rC nC Col.ok := map_goes (pair_goes sm_goes (pair_goes sm_goes (pair_goes sm_goes sm_goes))) (fun x => (⟨x.1, x.2.1, x.2.2.1, x.2.2.2⟩ : Col)) (fun c => (c.r, c.g, c.b, c.a)) (fun _ => rfl) (fun _ => rfl)
theorem vert_goes : Goes rV nV U.V.i64 :=
  (map_goes (pair_goes num_goes (pair_goes num_goes (pair_goes num_goes (pair_goes num_goes (pair_goes num_goes (pair_goes num_goes (pair_goes num_goes num_goes))))))) (fun x => (⟨x.1, x.2.1, x.2.2.1, x.2.2.2.1, x.2.2.2.2.1, x.2.2.2.2.2.1, x.2.2.2.2.2.2.1, x.2.2.2.2.2.2.2⟩ : U.V))
    (fun v => (v.x, v.y, v.z, v.w, v.a, v.b, v.c, v.d)) (fun _ => rfl) (fun _ => rfl)).imp (fun _ h => ⟨h.x, h.y, h.z, h.w, h.a, h.b, h.c, h.d⟩) (fun _ h => ⟨h.1, h.2.1, h.2.2.1, h.2.2.2.1, h.2.2.2.2.1, h.2.2.2.2.2.1, h.2.2.2.2.2.2.1, h.2.2.2.2.2.2.2⟩)
theorem ins_goes : Goes rI nI C.In.ok :=
  (map_goes (pair_goes sm_goes (pair_goes sm_goes (pair_goes sm_goes (pair_goes sm_goes num_goes)))) (fun x => (⟨x.1, x.2.1, x.2.2.1, x.2.2.2.1, x.2.2.2.2⟩ : C.In)) (fun x => (x.o, x.d, x.a, x.b, x.n)) (fun _ => rfl) (fun _ => rfl)).imp
    (fun _ h => ⟨h.o, h.d, h.a, h.b, h.n⟩) (fun _ h => ⟨h.1, h.2.1, h.2.2.1, h.2.2.2.1, h.2.2.2.2⟩)
theorem tri_goes : Goes rR nR Tr.ok :=
  (map_goes (pair_goes num_goes (pair_goes num_goes (pair_goes num_goes num_goes))) (fun x => (⟨x.1, x.2.1, x.2.2.1, x.2.2.2⟩ : Tr)) (fun t => (t.i, t.a, t.b, t.c)) (fun _ => rfl) (fun _ => rfl)).imp
    (fun _ h => ⟨h.i, h.a, h.b, h.c⟩) (fun _ h => ⟨h.1, h.2.1, h.2.2.1, h.2.2.2⟩)
theorem tex_goes : Goes rT nT (fun t => I64 t.w ∧ I64 t.h ∧ t.ok) :=
  map_goes (pair_goes num_goes (pair_goes num_goes (all_goes col_goes (fun _ => by simp [nC])))) (fun x => (⟨x.1, x.2.1, x.2.2⟩ : Tx)) (fun t => (t.w, t.h, t.px)) (fun _ => rfl) (fun _ => rfl)
theorem prog_goes : Goes rP nP (fun l => ∀ x ∈ l, x.ok) := all_goes ins_goes (fun _ => by simp [nI])
theorem draw_goes : Goes rD nD Dr.ok :=
  (map_goes (pair_goes num_goes (pair_goes num_goes (pair_goes num_goes (pair_goes sign_goes (all_goes tri_goes (fun _ => by simp [nR])))))) (fun x => (⟨x.1, x.2.1, x.2.2.1, x.2.2.2.1, x.2.2.2.2⟩ : Dr)) (fun d => (d.id, d.prog, d.tex, d.op, d.tris)) (fun _ => rfl) (fun _ => rfl)).imp
    (fun _ h => ⟨h.id, h.prog, h.tex, trivial, h.tris⟩) (fun _ h => ⟨h.1, h.2.1, h.2.2.1, h.2.2.2.2⟩)
theorem scene_goes : Goes rS nS PS.ok :=
  (map_goes (pair_goes num_goes (pair_goes num_goes (pair_goes col_goes (pair_goes (all_goes vert_goes (fun _ => by simp [nV])) (pair_goes (all_goes tex_goes (fun _ => by simp [nT])) (pair_goes (all_goes prog_goes (fun _ => by simp [nP, nAll])) (all_goes draw_goes (fun _ => by simp [nD]))))))))
    (fun x => (⟨x.1, x.2.1, x.2.2.1, x.2.2.2.1, x.2.2.2.2.1, x.2.2.2.2.2.1, x.2.2.2.2.2.2⟩ : PS)) (fun p => (p.w, p.h, p.k, p.vs, p.ts, p.ps, p.ds)) (fun _ => rfl) (fun _ => rfl)).imp
    (fun _ h => ⟨h.w, h.h, h.k, h.vs, h.ts, h.ps, h.ds⟩) (fun _ h => ⟨h.1, h.2.1, h.2.2.1, h.2.2.2.1, h.2.2.2.2.1, h.2.2.2.2.2.1, h.2.2.2.2.2.2⟩)

/-- What numbers say that are all told. -/
def scanP (l : List Int) : Option PS := if (rS ⟨l, false⟩).2.bad = false ∧ (rS ⟨l, false⟩).2.l = [] then some (rS ⟨l, false⟩).1 else none
theorem scan_nS {p : PS} (h : p.ok) : scanP (nS p) = some p := by
  have e := scene_goes.fwd p [] false h
  rw [List.append_nil] at e
  unfold scanP
  rw [e]
  rfl
theorem scan_inv {l : List Int} {p : PS} (hi : P.Ins l) (h : scanP l = some p) : p.ok ∧ nS p = l := by
  unfold scanP at h
  split at h
  · rename_i hc
    obtain rfl : (rS ⟨l, false⟩).1 = p := by simpa using h
    have e := scene_goes.inv ⟨l, false⟩ hc.1
    rw [hc.2, List.append_nil] at e
    exact ⟨scene_goes.ok ⟨l, false⟩ hc.1 hi, e.symm⟩
  · cases h
/-- Numbers with more behind them, or fewer, are none. -/
theorem scan_cut {p q : PS} {l r : List Int} (hp : p.ok) (hi : P.Ins l) (he : nS p = l ++ r) (h : scanP l = some q) : r = [] := by
  obtain ⟨hq, e⟩ := scan_inv hi h
  have e1 := scene_goes.fwd q r false hq
  have e2 := scene_goes.fwd p [] false hp
  rw [List.append_nil, he, ← e, e1] at e2
  simpa using congrArg (fun x => x.2.l) e2
theorem scan_more {p q : PS} {r : List Int} (hp : p.ok) (hi : P.Ins (nS p ++ r)) (h : scanP (nS p ++ r) = some q) : r = [] := by
  obtain ⟨hq, e⟩ := scan_inv hi h
  have e1 := scene_goes.fwd p r false hp
  have e2 := scene_goes.fwd q [] false hq
  rw [List.append_nil, e, e1] at e2
  simpa using congrArg (fun x => x.2.l) e2
theorem goes_ins {α : Type} {g : α → List Int} {l : List α} (h : ∀ x ∈ l, P.Ins (g x)) (hl : l.length ≤ 100000) : P.Ins (nAll g l) := fun n hn => by
  rcases List.mem_cons.1 hn with rfl | hn
  · unfold P.In64; omega
  · obtain ⟨x, hx, hn⟩ := List.mem_flatMap.1 hn
    exact h x hx n hn
theorem ins_cons {n : Int} {l : List Int} (h : I64 n) (k : P.Ins l) : P.Ins (n :: l) := fun x hx => by
  rcases List.mem_cons.1 hx with rfl | hx
  · exact h
  · exact k x hx
theorem ins_nil : P.Ins [] := fun x hx => by cases hx
theorem ins_nC {c : Col} (h : c.ok) : P.Ins (nC c) := by
  obtain ⟨a, b, c, d⟩ := h
  exact ins_cons (by unfold I64; omega) (ins_cons (by unfold I64; omega) (ins_cons (by unfold I64; omega) (ins_cons (by unfold I64; omega) ins_nil)))
theorem ins_nV {v : U.V} (h : v.i64) : P.Ins (nV v) := ins_cons h.x (ins_cons h.y (ins_cons h.z (ins_cons h.w (ins_cons h.a (ins_cons h.b (ins_cons h.c (ins_cons h.d ins_nil)))))))
theorem ins_nI {x : C.In} (h : x.ok) : P.Ins (nI x) := by
  obtain ⟨a, b, c, d, e⟩ := h
  exact ins_cons (by unfold I64; omega) (ins_cons (by unfold I64; omega) (ins_cons (by unfold I64; omega) (ins_cons (by unfold I64; omega) (ins_cons e ins_nil))))
theorem ins_nR {t : Tr} (h : t.ok) : P.Ins (nR t) := ins_cons h.i (ins_cons h.a (ins_cons h.b (ins_cons h.c ins_nil)))
theorem ins_nT {t : Tx} (h : I64 t.w ∧ I64 t.h ∧ t.ok) (hl : t.px.length ≤ 100000) : P.Ins (nT t) := ins_cons h.1 (ins_cons h.2.1 (goes_ins (fun c hc => ins_nC (h.2.2 c hc)) hl))
theorem ins_nP {l : List C.In} (h : ∀ x ∈ l, x.ok) (hl : l.length ≤ 100000) : P.Ins (nP l) := goes_ins (fun x hx => ins_nI (h x hx)) hl
theorem ins_nD {d : Dr} (h : d.ok) (hl : d.tris.length ≤ 100000) : P.Ins (nD d) :=
  ins_cons h.id (ins_cons h.prog (ins_cons h.tex (ins_cons (by unfold nB I64; split <;> omega) (goes_ins (fun t ht => ins_nR (h.tris t ht)) hl))))
theorem ins_nS {p : PS} (h : p.ok) (f : p.few) : P.Ins (nS p) :=
  ins_cons h.w (ins_cons h.h ((ins_nC h.k).app ((goes_ins (fun v hv => ins_nV (h.vs v hv)) f.vs).app ((goes_ins (fun t ht => ins_nT (h.ts t ht) (f.tx t ht)) f.ts).app
    ((goes_ins (fun l hl => ins_nP (h.ps l hl) (f.px l hl)) f.ps).app (goes_ins (fun d hd => ins_nD (h.ds d hd) (f.dx d hd)) f.ds))))))

theorem few_p {s : Sc} (h : s.few) : s.p.few := by
  refine ⟨h.vs, ?_, fun t ht => ?_, ?_, fun l hl => ?_, ?_, fun d hd => ?_⟩
  · show (s.ts.map Lo.x).length ≤ _
    rw [List.length_map]
    exact h.ts
  · obtain ⟨l, hl, rfl⟩ := List.mem_map.1 (show t ∈ s.ts.map Lo.x from ht)
    exact h.tx l hl
  · show (s.ps.map Lo.x).length ≤ _
    rw [List.length_map]
    exact h.ps
  · obtain ⟨x, hx, rfl⟩ := List.mem_map.1 (show l ∈ s.ps.map Lo.x from hl)
    exact h.px x hx
  · show (s.ds.map Lo.x).length ≤ _
    rw [List.length_map]
    exact h.ds
  · obtain ⟨x, hx, rfl⟩ := List.mem_map.1 (show d ∈ s.ds.map Lo.x from hd)
    exact h.dx x hx
/-- What bytes say that are all told. -/
def readP (b : List Int) : Option PS := if P.flag (P.seq b) = true then none else scanP (P.nums (P.seq b))
theorem flag_put : ∀ (k : Nat) {b : List Int}, b.length ≤ k → P.Byt b → P.flag (P.seq b) = false → b = P.put (P.nums (P.seq b))
  | k, b, hk, hb, hf => by
    by_cases hne : b = []
    · subst hne
      rw [P.seq_nil]
      rfl
    obtain ⟨n, s, he⟩ : ∃ n s, P.first b = (n, s) := ⟨_, _, rfl⟩
    by_cases hs : s = 0
    · subst hs
      rw [P.seq_bad hne he] at hf
      cases hf
    · obtain ⟨-, e1, e2, e3, e4, -⟩ := P.first_inv hb he hs
      rw [P.seq_good hb he hs] at hf ⊢
      have hl := List.length_pos_iff.2 hne
      cases k with
      | zero => omega
      | succ k =>
        have ih := flag_put k (b := b.drop s) (by rw [List.length_drop]; omega) (hb.drop s) (by simpa [P.flag] using hf)
        show b = P.put (n :: P.nums (P.seq (b.drop s)))
        rw [P.put_cons, ← ih]
        exact e2
theorem read_some {b : List Int} {p : PS} (hb : P.Byt b) (h : readP b = some p) : p.ok ∧ P.put (nS p) = b ∧ P.nums (P.seq b) = nS p := by
  unfold readP at h
  split at h
  · cases h
  · rename_i hf
    obtain ⟨h1, h2⟩ := scan_inv (P.seq_len _ b (Nat.le_refl _) hb).2.1 h
    have h3 := flag_put _ (Nat.le_refl _) hb (by simpa using hf)
    exact ⟨h1, by rw [h2, ← h3], h2.symm⟩
theorem read_put {p : PS} (h : p.ok) (hf : p.few) : readP (P.put (nS p)) = some p := by
  unfold readP
  rw [P.seq_all (ins_nS h hf), P.flag_trues, P.nums_trues]
  exact scan_nS h
end Go.Proofs.Ytfmmfaeognoleaa
/-
  What a reader's, and a writer's, block holds, and what stays when they go on.
-/
namespace Go.Proofs.Ytfmmfaeognoleaa
open Go.RowKit
attribute [local go_sem ↓] Go.wp_at_zero Go.wp_at_succ

/-- But for block p, what lay lies as it lay. -/
structure But (p : Nat) (w w' : World) : Prop where
  b : Below p w w'
  f : Fx (p + 1) w.heap.size w w'
section
variable {p q g o B : Nat} {a b c w w' : World} {u : Value}
theorem But.refl (p : Nat) (w : World) : But p w w := ⟨Below.refl _ _, Fx.refl _ _ _⟩
theorem But.size (h : But p w w') : w.heap.size ≤ w'.heap.size := h.b.size
theorem But.trans (h : But p a b) (k : But p b c) : But p a c := ⟨h.b.trans k.b, fun i h1 h2 => (k.f i h1 (Nat.lt_of_lt_of_le h2 h.size)).trans (h.f i h1 h2)⟩
theorem But.block (h : But p w w') {k : Nat} (hk : k < w.heap.size) (hne : k ≠ p) : w'.heap[k]? = w.heap[k]? := by
  rcases Nat.lt_or_ge k p with h1 | h1
  · exact h.b.block k h1
  · exact h.f k (by omega) hk
theorem but_of (h : Below w.heap.size w w') (hp : p ≤ w.heap.size) : But p w w' := ⟨h.mono hp, Below.fx h⟩
theorem But.alloc (h : But p a b) (hp : p < a.heap.size) (o : Obj) : But p a (b.alloc o) :=
  h.trans (but_of (new_below b o) (by have := h.size; omega))
theorem But.set (h : But p a b) : But p a (b.setCell ⟨p, o, none⟩ u) := ⟨h.b.setCell (Nat.le_refl _) u, h.f.set (Nat.lt_succ_self p)⟩
theorem But.setNew (h : But p a b) (hp : p ≤ a.heap.size) (hg : a.heap.size ≤ g) : But p a (b.setCell ⟨g, o, none⟩ u) :=
  ⟨h.b.setCell (show p ≤ g by omega) u, fun k h1 h2 => by
    rw [heap_setCell_other _ _ _ _ (by simp; omega)]
    exact h.f k h1 h2⟩
theorem But.grown {j : Option Nat} (h : But p a b) (hp : p ≤ a.heap.size) (hg : b.grownBy c j) (hj : ∀ k, j = some k → a.heap.size ≤ k) : But p a c :=
  ⟨h.b.grown hg (by have := h.size; omega) fun k e => by have := hj k e; omega, fun k h1 h2 => (hg.block k (Nat.lt_of_lt_of_le h2 h.size) (fun e => by have := hj k e.symm; omega)).trans (h.f k h1 h2)⟩
theorem But.below (h : But p w w') (hB : B ≤ p) : Below B w w' := h.b.mono hB
theorem But.at (h : But p w w') {α : Type} {E : Elem α} {A : Option Addr} {xs : List α} (hE : Es E w p A xs) : Es E w' p A xs := hE.below h.b
theorem But.own (h : But p w w') {α : Type} {E : Elem α} {base : Nat} {v : Value} {xs : List α} (ho : OwnE E w base v xs) (hp : p < base) : OwnE E w' base v xs := ho.fx h.f (by omega) (Nat.le_refl _)
theorem But.ownN (h : But p w w') {α β : Type} {E : Elem (Lo α)} {F : Elem β} {inn : α → List β} {base : Nat} {v : Value} {xs : List (Lo α)} (ho : OwnN E F inn w base v xs) (hp : p < base) : OwnN E F inn w' base v xs := ho.fx h.f (by omega) (Nat.le_refl _)
end

theorem wpList_append_ln {α : Type} {E : Elem α} {T : TypeId} {w : World} {base B : Nat} {v : Value} {xs ys : List α} {A : Option Addr} {ops : Array Oper} {rest : List Oper} {o : Oper} {k : Act} {Q : Exit → Act → World → Prop} (hgd : o.guard = none) (R : Row E T) (s x : Operand) (c m : Nat) (hm : ys.length = m)
    (ho : o.op = .call { callee := .builtin .append, args := #[s, x], argTypes := #[T, T] }) (hs : k.eval s = v) (hx : k.eval x = .slice A m c)
    (hown : OwnE E w base v xs) (he : Es E w B A ys) (hn : xs.length ≤ 100000000) (hn2 : ys.length ≤ 100000000) (hbase : base ≤ w.heap.size)
    (h : ∀ v' w', w'.ownsRow base E.t E.size v' (xs.length + ys.length) (E.flat xs ++ E.flat ys) → w.grownBy w' v.ownBlock → (v'.ownBlock = v.ownBlock ∨ v'.ownBlock = some w.heap.size) → wpList Try.prog ops Q rest (k.put o.dst v') w') : wpList Try.prog ops Q (o :: rest) k w := by
  subst hm
  exact wpList_append_es hgd R s x c ho hs hx hown he hn hn2 hbase h
/-- A scene of two sides, and nothing else. -/
def flat0 (W H : Int) : Sc := ⟨W, H, zC, [], none, 0, [], none, 0, [], none, 0, [], none, 0⟩
/-- A reader's block. -/
def rdB (A : Option Addr) (n c : Nat) (bad : Bool) : Obj := .cells #[.slice A n c, .bool bad] 85 (0, 0)
section
variable {w w' : World} {p n c : Nat} {A : Option Addr} {bad : Bool}
theorem rdB_cell (h : w.heap[p]? = some (rdB A n c bad)) : w.cell? ⟨p, 0, none⟩ = some (.slice A n c) ∧ w.cell? ⟨p, 1, none⟩ = some (.bool bad) := by
  unfold rdB at h
  exact ⟨Joins.cell_of_block h 0, Joins.cell_of_block h 1⟩
theorem rdB_free (h : w.heap[p]? = some (rdB A n c bad)) : ∀ o, w.frozen? ⟨p, o, none⟩ = false := by
  unfold rdB at h
  intro o
  simp [World.frozen?, h]
theorem rdB_lt (h : w.heap[p]? = some (rdB A n c bad)) : p < w.heap.size := (Array.getElem?_eq_some_iff.1 h).1
theorem rdB_set0 {A' : Option Addr} {n' c' : Nat} (h : w.heap[p]? = some (rdB A n c bad)) : (w.setCell ⟨p, 0, none⟩ (.slice A' n' c')).heap[p]? = some (rdB A' n' c' bad) := by
  unfold rdB at h
  rw [heap_setCell_same _ _ _ _ _ _ h]
  simp [rdB]
theorem rdB_set1 {b' : Bool} (h : w.heap[p]? = some (rdB A n c bad)) : (w.setCell ⟨p, 1, none⟩ (.bool b')).heap[p]? = some (rdB A n c b') := by
  unfold rdB at h
  rw [heap_setCell_same _ _ _ _ _ _ h]
  simp [rdB]
end
/-- The reader at p: what is left, in a row that lies below it. -/
def Rd (w : World) (p : Nat) (s : St) : Prop := ∃ A c, w.heap[p]? = some (rdB A s.l.length c s.bad) ∧ s.l.length ≤ c ∧ Es EN w p A s.l
theorem Rd.lt {w : World} {p : Nat} {s : St} (h : Rd w p s) : p < w.heap.size := by
  obtain ⟨A, c, h1, -⟩ := h
  exact rdB_lt h1
theorem Rd.keep {w w' : World} {p : Nat} {s : St} (h : Rd w p s) (hb : Below w.heap.size w w') : Rd w' p s := by
  have hl := h.lt
  obtain ⟨A, c, h1, h2, h3⟩ := h
  exact ⟨A, c, (hb.block p hl).trans h1, h2, h3.below (hb.mono (by omega))⟩
theorem Rd.alloc {w : World} {p : Nat} {s : St} (h : Rd w p s) (o : Obj) : Rd (w.alloc o) p s := h.keep (new_below w o)
theorem Rd.setNew {w : World} {p g o : Nat} {u : Value} {s : St} (h : Rd w p s) (hg : p < g) : Rd (w.setCell ⟨g, o, none⟩ u) p s := by
  obtain ⟨A, c, h1, h2, h3⟩ := h
  refine ⟨A, c, ?_, h2, h3.below ((Below.refl p w).setCell (show p ≤ g by omega) u)⟩
  rw [heap_setCell_other _ _ _ _ (by simp; omega)]
  exact h1
theorem Rd.grown {w w' : World} {p B : Nat} {j : Option Nat} {s : St} (h : Rd w p s) (hg : w.grownBy w' j) (hj : ∀ k, j = some k → B ≤ k) (hB : p < B) : Rd w' p s := by
  have hl := h.lt
  obtain ⟨A, c, h1, h2, h3⟩ := h
  have hb : Below p w w' := (Below.refl p w).grown hg (by omega) fun k e => by have := hj k e; omega
  refine ⟨A, c, (hg.block p hl (fun e => by have := hj p e.symm; omega)).trans h1, h2, h3.below hb⟩
theorem es_tail {w : World} {B c : Nat} {A : Option Addr} {n : Int} {r : List Int} (h : Es EN w B A (n :: r)) (hc : r.length + 1 ≤ c) : Es EN w B (if c = 1 then A else A.map fun x => x.add 1) r := fun hne => by
  obtain ⟨b, off, rfl, hb, hr⟩ := h (by simp)
  have hl := List.length_pos_iff.2 hne
  rw [if_neg (by omega)]
  refine ⟨b, off + 1, by simp [Addr.add], hb, fun j u hj => ?_⟩
  have h2 := hr (j + 1) u (by simpa using hj)
  have e : off + 1 + j * EN.size = off + (j + 1) * EN.size := by
    rw [show EN.size = 1 from rfl]
    omega
  rw [e]
  exact h2
theorem slice_tail (A : Option Addr) (n c : Nat) (W : World) :
    (Instr.slice 22 (.slice A (n + 1) c) (some (.int .i64 1)) none none).run Try.prog W = .ok (.slice (if c = 1 then A else A.map fun x => x.add 1) n (c - 1)) W := by
  go_simp
  intro h
  omega

/-- The writer's block, and its row. -/
def wrB (A : Option Addr) (n c : Nat) : Obj := .cells #[.slice A n c] 77 (0, 0)
/-- The writer at q has said xs; its row is in a block j, if there is one, of its own, above it. -/
structure Wr (w : World) (q : Nat) (xs : List Int) (v : Value) : Prop where
  blk : w.heap[q]? = some (.cells #[v] 77 (0, 0))
  own : OwnE EN w (q + 1) v xs
/-- Those blocks lie as they lay that are neither the writer's nor its row's. -/
structure Wf (q : Nat) (v : Value) (w : World) (v' : Value) (w' : World) : Prop where
  b : Below q w w'
  f : ∀ k, k < w.heap.size → k ≠ q → v.ownBlock ≠ some k → w'.heap[k]? = w.heap[k]?
  row : v'.ownBlock = v.ownBlock ∨ ∃ k, v'.ownBlock = some k ∧ w.heap.size ≤ k
section
variable {q g o : Nat} {v v1 v2 : Value} {w w1 w2 w' : World} {xs : List Int} {u : Value}
theorem Wf.refl (q : Nat) (v : Value) (w : World) : Wf q v w v w := ⟨Below.refl _ _, fun _ _ _ _ => rfl, .inl rfl⟩
theorem Wf.size (h : Wf q v w v1 w1) : w.heap.size ≤ w1.heap.size := h.b.size
theorem Wf.trans (h : Wf q v w v1 w1) (k : Wf q v1 w1 v2 w2) : Wf q v w v2 w2 := by
  refine ⟨h.b.trans k.b, fun i h1 h2 h3 => (k.f i (Nat.lt_of_lt_of_le h1 h.size) h2 fun e => ?_).trans (h.f i h1 h2 h3), ?_⟩
  · rcases h.row with e1 | ⟨j, e1, e2⟩
    · exact h3 (e1 ▸ e)
    · rw [e1] at e
      cases e
      omega
  · rcases k.row with e1 | ⟨j, e1, e2⟩
    · rcases h.row with e2 | ⟨j, e2, e3⟩
      · exact .inl (e1.trans e2)
      · exact .inr ⟨j, e1.trans e2, e3⟩
    · exact .inr ⟨j, e1, by have := h.size; omega⟩
theorem Wr.lt (h : Wr w q xs v) : q < w.heap.size := (Array.getElem?_eq_some_iff.1 h.blk).1
theorem Wr.cell (h : Wr w q xs v) : w.cell? ⟨q, 0, none⟩ = some v := Joins.cell_of_block h.blk 0
theorem Wr.free (h : Wr w q xs v) : ∀ o, w.frozen? ⟨q, o, none⟩ = false := by
  intro o
  simp [World.frozen?, h.blk]
theorem Wr.keep (h : Wr w q xs v) (hb : Below w.heap.size w w') : Wr w' q xs v := ⟨(hb.block q h.lt).trans h.blk, h.own.keep hb⟩
theorem Wr.alloc (h : Wr w q xs v) (o : Obj) : Wr (w.alloc o) q xs v := h.keep (new_below w o)
theorem Wf.alloc (h : Wf q v w v1 w1) (hq : q < w.heap.size) (o : Obj) : Wf q v w v1 (w1.alloc o) :=
  ⟨h.b.alloc (by have := h.size; omega) o, fun k h1 h2 h3 => ((new_below w1 o).block k (Nat.lt_of_lt_of_le h1 h.size)).trans (h.f k h1 h2 h3), h.row⟩
theorem Wf.keep (h : Wf q v w v1 w1) (hq : q < w.heap.size) (hb : Below w1.heap.size w1 w2) : Wf q v w v1 w2 :=
  ⟨h.b.trans (hb.mono (by have := h.size; omega)), fun k h1 h2 h3 => (hb.block k (Nat.lt_of_lt_of_le h1 h.size)).trans (h.f k h1 h2 h3), h.row⟩
/-- A block that is neither: it stays. -/
theorem Wf.other (h : Wf q v w v1 w1) {O : Obj} (hO : w.heap[g]? = some O) (h1 : g ≠ q) (h2 : v.ownBlock ≠ some g) : w1.heap[g]? = some O := (h.f g (Array.getElem?_eq_some_iff.1 hO).1 h1 h2).trans hO
/-- One that is new when the row is not. -/
theorem Wf.not (h : Wf q v w v1 w1) (hg : g < w.heap.size) (h2 : v.ownBlock ≠ some g) : v1.ownBlock ≠ some g := fun e => by
  rcases h.row with e1 | ⟨j, e1, e2⟩
  · exact h2 (e1 ▸ e)
  · rw [e1] at e
    cases e
    omega
theorem Wr.new (h : Wr w q xs v) : v.ownBlock ≠ some w.heap.size := fun e => by
  have := ownE_lt h.own e
  omega
end
end Go.Proofs.Ytfmmfaeognoleaa
/-
  What a writer says: say, and what is said of one colour, vertex, instruction, triangle, sign.
-/
namespace Go.Proofs.Ytfmmfaeognoleaa
open Go.RowKit
attribute [local go_sem ↓] Go.wp_at_zero Go.wp_at_succ

set_option maxRecDepth 100000 in
theorem rowN : Nonempty (Row EN 22) := row_of Try.underlying22 (z := .int .i64 0) (b := 8) (by kernel_rfl) (by decide) (by kernel_rfl)

/-- What a call says: nothing is answered, the writer has said more. -/
def Says (q : Nat) (v : Value) (xs : List Int) (w : World) (e : Ending) (w' : World) : Prop := e = .returned (.tuple #[]) ∧ ∃ v', Wr w' q xs v' ∧ Wf q v w v' w'

set_option maxRecDepth 100000 in
set_option maxHeartbeats 1000000 in
theorem say_any {q : Nat} {v : Value} {xs : List Int} (ys : List Int) (A : Option Addr) (c B : Nat) (w : World) (h : Wr w q xs v) (hs : Es EN w B A ys) (hn : xs.length + ys.length ≤ 100000000) :
    Calls Try.prog 44 #[.pointer (some ⟨q, 0, none⟩), .slice A ys.length c] w (Says q v (xs ++ ys) w) := by
  obtain ⟨RN⟩ := rowN
  have hq := h.lt
  have hcell := h.cell
  have HO := Lib.hid h.own
  have HS := Lib.hid hs
  have HW := Lib.hid h
  clear h hs
  go_enter Try.func44, Try.ntmps44
  go_wp2_with (at_builtin; refine wpList_append_es rfl RN _ _ c rfl rfl rfl HO.out HS.out (by omega) (by omega) (by omega) ?_; intro v' w1 hown hg hat; obtain ⟨ho, hbl⟩ := ownE_app HO.out hown hg (by omega); have hq1 := (hbl.block q (by omega)).trans HW.out.blk; have hc1 : w1.cell? ⟨q, 0, none⟩ = some v := Joins.cell_of_block hq1 0; have hf1 : w1.frozen? ⟨q, 0, none⟩ = false := (by simp [World.frozen?, hq1]); obtain ⟨A', c', rfl⟩ := ho.form)
  go_end0
  refine ⟨rfl, _, ⟨?_, ho.setCell (Nat.lt_succ_self q)⟩, ⟨(hbl.mono (by omega)).setCell (Nat.le_refl q) _, fun k h1 h2 h3 => ?_, ?_⟩⟩
  · rw [heap_setCell_same _ _ _ _ _ _ hq1]
    simp
  · rw [heap_setCell_other _ _ _ _ (by simpa using h2)]
    exact hg.block k h1 (fun e => h3 e.symm)
  · rcases hat with e | e
    · exact .inl e
    · exact .inr ⟨_, e, Nat.le_refl _⟩
end Go.Proofs.Ytfmmfaeognoleaa
/-
  What a writer says of one colour, vertex, instruction, triangle; of a sign.
-/
namespace Go.Proofs.Ytfmmfaeognoleaa
open Go.RowKit
attribute [local go_sem ↓] Go.wp_at_zero Go.wp_at_succ

theorem es_new {w : World} (xs : List Int) (cs : Array Value) (h : cs.toList = xs.map (Value.int .i64)) : Es EN (w.alloc (.cells cs 3)) (w.heap.size + 1) (some ⟨w.heap.size, 0, none⟩) xs := fun _ => by
  refine ⟨w.heap.size, 0, rfl, Nat.lt_succ_self _, fun j u hj i y hy => ?_⟩
  have hi : i = 0 := by
    rcases Nat.eq_zero_or_pos i with e | e
    · exact e
    · rw [List.getElem?_eq_none (by show 1 ≤ i; omega)] at hy; cases hy
  subst hi
  obtain rfl : Value.int .i64 u = y := by simpa [EN] using hy
  rw [cell_of_row _ w.heap.size _ cs 3 (0, 0) (heap_alloc_new _ _), show 0 + j * EN.size + 0 = j by rw [show EN.size = 1 from rfl]; omega, ← Array.getElem?_toList, h, List.getElem?_map, hj]
  rfl
set_option maxRecDepth 100000 in
set_option maxHeartbeats 1000000 in
theorem wcol_any {q : Nat} {v : Value} {xs : List Int} (c : Col) (hc : c.ok) (w : World) (h : Wr w q xs v) (hn : xs.length + 4 ≤ 100000000) :
    Calls Try.prog 45 #[.pointer (some ⟨q, 0, none⟩), .agg #[.int .u8 c.r, .int .u8 c.g, .int .u8 c.b, .int .u8 c.a]] w (Says q v (xs ++ nC c) w) := by
  obtain ⟨⟨r0, r1⟩, ⟨g0, g1⟩, ⟨b0, b1⟩, ⟨a0, a1⟩⟩ := hc
  have hq := h.lt
  have HS := Lib.hid (fun t (ht : t = (w.alloc (.cells #[.int .u8 c.r, .int .u8 c.g, .int .u8 c.b, .int .u8 c.a] 27)).alloc (.cells #[.int .i64 c.r, .int .i64 c.g, .int .i64 c.b, .int .i64 c.a] 3)) => show Calls Try.prog 44 #[.pointer (some ⟨q, 0, none⟩), .slice (some ⟨w.heap.size + 1, 0, none⟩) 4 4] t (Says q v (xs ++ nC c) t) from by
    subst ht
    have hw := (h.alloc (.cells #[.int .u8 c.r, .int .u8 c.g, .int .u8 c.b, .int .u8 c.a] 27)).alloc (.cells #[.int .i64 c.r, .int .i64 c.g, .int .i64 c.b, .int .i64 c.a] 3)
    have he := es_new (w := w.alloc (.cells #[.int .u8 c.r, .int .u8 c.g, .int .u8 c.b, .int .u8 c.a] 27)) (nC c) #[.int .i64 c.r, .int .i64 c.g, .int .i64 c.b, .int .i64 c.a] rfl
    simp only [World.size_alloc] at he
    exact say_any (nC c) _ 4 _ _ hw he hn)
  have HF := Lib.hid (((Wf.refl q v w).alloc hq (.cells #[.int .u8 c.r, .int .u8 c.g, .int .u8 c.b, .int .u8 c.a] 27)).alloc hq (.cells #[.int .i64 c.r, .int .i64 c.g, .int .i64 c.b, .int .i64 c.a] 3))
  clear h hn
  go_enter Try.func45, Try.ntmps45
  go_wp2_with fail
  with_reducible refine (HS.out _ rfl).mono ?_
  rintro e w' ⟨rfl, v', hw', hf'⟩
  go_wp2
  go_end0
  exact ⟨rfl, v', hw', HF.out.trans hf'⟩
/-- Some cells of a block of their own, read as numbers. -/
theorem es_mid {w : World} {g t off : Nat} {cs : Array Value} (hg : w.heap[g]? = some (.cells cs t (0, 0))) (ys : List Int) (h : (cs.toList.drop off).take ys.length = ys.map (Value.int .i64)) : Es EN w (g + 1) (some ⟨g, off, none⟩) ys := fun _ => by
  refine ⟨g, off, rfl, Nat.lt_succ_self _, fun j u hj i y hy => ?_⟩
  have hjl : j < ys.length := (List.getElem?_eq_some_iff.1 hj).1
  have hi : i = 0 := by
    rcases Nat.eq_zero_or_pos i with e | e
    · exact e
    · rw [List.getElem?_eq_none (by show 1 ≤ i; omega)] at hy; cases hy
  subst hi
  obtain rfl : Value.int .i64 u = y := by simpa [EN] using hy
  rw [cell_of_row _ g _ cs t (0, 0) hg, show off + j * EN.size + 0 = off + j by rw [show EN.size = 1 from rfl]; omega, ← Array.getElem?_toList]
  have h2 : ((cs.toList.drop off).take ys.length)[j]? = (ys.map (Value.int .i64))[j]? := by rw [h]
  rw [List.getElem?_take_of_lt hjl, List.getElem?_drop, List.getElem?_map, hj] at h2
  exact h2
set_option maxRecDepth 100000 in
set_option maxHeartbeats 1000000 in
theorem wins_any {q : Nat} {v : Value} {xs : List Int} (x : C.In) (hx : x.ok) (w : World) (h : Wr w q xs v) (hn : xs.length + 5 ≤ 100000000) :
    Calls Try.prog 81 #[.pointer (some ⟨q, 0, none⟩), .agg #[.int .u8 x.o, .int .u8 x.d, .int .u8 x.a, .int .u8 x.b, .int .i64 x.n]] w (Says q v (xs ++ nI x) w) := by
  obtain ⟨⟨r0, r1⟩, ⟨g0, g1⟩, ⟨b0, b1⟩, ⟨a0, a1⟩, -⟩ := hx
  have hq := h.lt
  have HS := Lib.hid (fun t (ht : t = (w.alloc (.cells #[.int .u8 x.o, .int .u8 x.d, .int .u8 x.a, .int .u8 x.b, .int .i64 x.n] 70)).alloc (.cells #[.int .i64 x.o, .int .i64 x.d, .int .i64 x.a, .int .i64 x.b, .int .i64 x.n] 3)) => show Calls Try.prog 44 #[.pointer (some ⟨q, 0, none⟩), .slice (some ⟨w.heap.size + 1, 0, none⟩) 5 5] t (Says q v (xs ++ nI x) t) from by
    subst ht
    have hw := (h.alloc (.cells #[.int .u8 x.o, .int .u8 x.d, .int .u8 x.a, .int .u8 x.b, .int .i64 x.n] 70)).alloc (.cells #[.int .i64 x.o, .int .i64 x.d, .int .i64 x.a, .int .i64 x.b, .int .i64 x.n] 3)
    have he := es_new (w := w.alloc (.cells #[.int .u8 x.o, .int .u8 x.d, .int .u8 x.a, .int .u8 x.b, .int .i64 x.n] 70)) (nI x) #[.int .i64 x.o, .int .i64 x.d, .int .i64 x.a, .int .i64 x.b, .int .i64 x.n] rfl
    simp only [World.size_alloc] at he
    exact say_any (nI x) _ 5 _ _ hw he hn)
  have HF := Lib.hid (((Wf.refl q v w).alloc hq (.cells #[.int .u8 x.o, .int .u8 x.d, .int .u8 x.a, .int .u8 x.b, .int .i64 x.n] 70)).alloc hq (.cells #[.int .i64 x.o, .int .i64 x.d, .int .i64 x.a, .int .i64 x.b, .int .i64 x.n] 3))
  clear h hn
  go_enter Try.func81, Try.ntmps81
  go_wp2_with fail
  with_reducible refine (HS.out _ rfl).mono ?_
  rintro e w' ⟨rfl, v', hw', hf'⟩
  go_wp2
  go_end0
  exact ⟨rfl, v', hw', HF.out.trans hf'⟩
set_option maxRecDepth 100000 in
set_option maxHeartbeats 1000000 in
theorem wvec_any {q : Nat} {v : Value} {xs : List Int} (x : U.V) (w : World) (h : Wr w q xs v) (hn : xs.length + 8 ≤ 100000000) :
    Calls Try.prog 47 #[.pointer (some ⟨q, 0, none⟩), .agg #[.int .i64 x.x, .int .i64 x.y, .int .i64 x.z, .int .i64 x.w, .int .i64 x.a, .int .i64 x.b, .int .i64 x.c, .int .i64 x.d]] w (Says q v (xs ++ nV x) w) := by
  have hq := h.lt
  have hnw := h.new
  have HS := Lib.hid (fun t (ht : t = (w.alloc (.cells #[.int .i64 x.x, .int .i64 x.y, .int .i64 x.z, .int .i64 x.w, .int .i64 x.a, .int .i64 x.b, .int .i64 x.c, .int .i64 x.d] 43)).alloc (.cells #[.int .i64 x.x, .int .i64 x.y, .int .i64 x.z, .int .i64 x.w] 3)) => show Calls Try.prog 44 #[.pointer (some ⟨q, 0, none⟩), .slice (some ⟨w.heap.size + 1, 0, none⟩) 4 4] t (Says q v (xs ++ [x.x, x.y, x.z, x.w]) t) from by
    subst ht
    have hw := (h.alloc (.cells #[.int .i64 x.x, .int .i64 x.y, .int .i64 x.z, .int .i64 x.w, .int .i64 x.a, .int .i64 x.b, .int .i64 x.c, .int .i64 x.d] 43)).alloc (.cells #[.int .i64 x.x, .int .i64 x.y, .int .i64 x.z, .int .i64 x.w] 3)
    have he := es_new (w := w.alloc (.cells #[.int .i64 x.x, .int .i64 x.y, .int .i64 x.z, .int .i64 x.w, .int .i64 x.a, .int .i64 x.b, .int .i64 x.c, .int .i64 x.d] 43)) [x.x, x.y, x.z, x.w] #[.int .i64 x.x, .int .i64 x.y, .int .i64 x.z, .int .i64 x.w] rfl
    simp only [World.size_alloc] at he
    exact say_any [x.x, x.y, x.z, x.w] _ 4 _ _ hw he (by show xs.length + 4 ≤ _; omega))
  have HF := Lib.hid (((Wf.refl q v w).alloc hq (.cells #[.int .i64 x.x, .int .i64 x.y, .int .i64 x.z, .int .i64 x.w, .int .i64 x.a, .int .i64 x.b, .int .i64 x.c, .int .i64 x.d] 43)).alloc hq (.cells #[.int .i64 x.x, .int .i64 x.y, .int .i64 x.z, .int .i64 x.w] 3))
  have HG := Lib.hid (show ((w.alloc (.cells #[.int .i64 x.x, .int .i64 x.y, .int .i64 x.z, .int .i64 x.w, .int .i64 x.a, .int .i64 x.b, .int .i64 x.c, .int .i64 x.d] 43)).alloc (.cells #[.int .i64 x.x, .int .i64 x.y, .int .i64 x.z, .int .i64 x.w] 3)).heap[w.heap.size]? = some (.cells #[.int .i64 x.x, .int .i64 x.y, .int .i64 x.z, .int .i64 x.w, .int .i64 x.a, .int .i64 x.b, .int .i64 x.c, .int .i64 x.d] 43 (0, 0)) from (heap_alloc_old _ _ (by simp)).trans (heap_alloc_new _ _))
  have HN := Lib.hid (show xs.length + 8 ≤ 100000000 from hn)
  clear h hn
  go_enter Try.func47, Try.ntmps47
  go_wp2_with fail
  with_reducible refine (HS.out _ rfl).mono ?_
  rintro e w1 ⟨rfl, v1, hw1, hf1⟩
  have hg := hf1.other HG.out (by omega) hnw
  have HF1 := Lib.hid (HF.out.trans hf1)
  have H2 := Lib.hid (show Calls Try.prog 44 #[.pointer (some ⟨q, 0, none⟩), .slice (some ⟨w.heap.size, 4, none⟩) 4 4] w1 (Says q v1 (xs ++ nV x) w1) from by
    have := say_any [x.a, x.b, x.c, x.d] _ 4 _ _ hw1 (es_mid (off := 4) hg [x.a, x.b, x.c, x.d] rfl) (by have := HN.out; simp; omega)
    rw [List.append_assoc] at this
    exact this)
  clear hg hw1 hf1 HS HG HF
  go_wp2_with fail
  with_reducible refine (H2.out).mono ?_
  rintro e w2 ⟨rfl, v2, hw2, hf2⟩
  go_wp2
  go_end0
  exact ⟨rfl, v2, hw2, HF1.out.trans hf2⟩
set_option maxRecDepth 100000 in
set_option maxHeartbeats 1000000 in
theorem wtri_any {q : Nat} {v : Value} {xs : List Int} (x : Tr) (w : World) (h : Wr w q xs v) (hn : xs.length + 4 ≤ 100000000) :
    Calls Try.prog 84 #[.pointer (some ⟨q, 0, none⟩), .agg #[.int .i64 x.i, .int .i64 x.a, .int .i64 x.b, .int .i64 x.c]] w (Says q v (xs ++ nR x) w) := by
  have hq := h.lt
  have hnw := h.new
  have HS := Lib.hid (fun t (ht : t = (w.alloc (.cells #[.int .i64 x.i, .int .i64 x.a, .int .i64 x.b, .int .i64 x.c] 74)).alloc (.cells #[.int .i64 x.i] 3)) => show Calls Try.prog 44 #[.pointer (some ⟨q, 0, none⟩), .slice (some ⟨w.heap.size + 1, 0, none⟩) 1 1] t (Says q v (xs ++ [x.i]) t) from by
    subst ht
    have hw := (h.alloc (.cells #[.int .i64 x.i, .int .i64 x.a, .int .i64 x.b, .int .i64 x.c] 74)).alloc (.cells #[.int .i64 x.i] 3)
    have he := es_new (w := w.alloc (.cells #[.int .i64 x.i, .int .i64 x.a, .int .i64 x.b, .int .i64 x.c] 74)) [x.i] #[.int .i64 x.i] rfl
    simp only [World.size_alloc] at he
    exact say_any [x.i] _ 1 _ _ hw he (by show xs.length + 1 ≤ _; omega))
  have HF := Lib.hid (((Wf.refl q v w).alloc hq (.cells #[.int .i64 x.i, .int .i64 x.a, .int .i64 x.b, .int .i64 x.c] 74)).alloc hq (.cells #[.int .i64 x.i] 3))
  have HG := Lib.hid (show ((w.alloc (.cells #[.int .i64 x.i, .int .i64 x.a, .int .i64 x.b, .int .i64 x.c] 74)).alloc (.cells #[.int .i64 x.i] 3)).heap[w.heap.size]? = some (.cells #[.int .i64 x.i, .int .i64 x.a, .int .i64 x.b, .int .i64 x.c] 74 (0, 0)) from (heap_alloc_old _ _ (by simp)).trans (heap_alloc_new _ _))
  have HN := Lib.hid (show xs.length + 4 ≤ 100000000 from hn)
  clear h hn
  go_enter Try.func84, Try.ntmps84
  go_wp2_with fail
  with_reducible refine (HS.out _ rfl).mono ?_
  rintro e w1 ⟨rfl, v1, hw1, hf1⟩
  have hg := hf1.other HG.out (by omega) hnw
  have HF1 := Lib.hid (HF.out.trans hf1)
  have H2 := Lib.hid (show Calls Try.prog 44 #[.pointer (some ⟨q, 0, none⟩), .slice (some ⟨w.heap.size, 1, none⟩) 3 3] w1 (Says q v1 (xs ++ nR x) w1) from by
    have := say_any [x.a, x.b, x.c] _ 3 _ _ hw1 (es_mid (off := 1) hg [x.a, x.b, x.c] rfl) (by have := HN.out; simp; omega)
    rw [List.append_assoc] at this
    exact this)
  clear hg hw1 hf1 HS HG HF
  go_wp2_with fail
  with_reducible refine (H2.out).mono ?_
  rintro e w2 ⟨rfl, v2, hw2, hf2⟩
  go_wp2
  go_end0
  exact ⟨rfl, v2, hw2, HF1.out.trans hf2⟩
set_option maxRecDepth 100000 in
set_option maxHeartbeats 1000000 in
theorem wsign_any {q : Nat} {v : Value} {xs : List Int} (b : Bool) (w : World) (h : Wr w q xs v) (hn : xs.length + 1 ≤ 100000000) :
    Calls Try.prog 82 #[.pointer (some ⟨q, 0, none⟩), .bool b] w (Says q v (xs ++ [nB b]) w) := by
  have hq := h.lt
  have HS := Lib.hid (fun (n : Int) t (ht : t = w.alloc (.cells #[.int .i64 n] 3)) => show Calls Try.prog 44 #[.pointer (some ⟨q, 0, none⟩), .slice (some ⟨w.heap.size, 0, none⟩) 1 1] t (Says q v (xs ++ [n]) t) from by
    subst ht
    exact say_any [n] _ 1 _ _ (h.alloc (.cells #[.int .i64 n] 3)) (es_new [n] #[.int .i64 n] rfl) hn)
  have HF := Lib.hid (fun (n : Int) => (Wf.refl q v w).alloc hq (.cells #[.int .i64 n] 3))
  clear h hn
  cases b
  · show Calls Try.prog 82 #[.pointer (some ⟨q, 0, none⟩), .bool false] w (Says q v (xs ++ [0]) w)
    go_enter Try.func82, Try.ntmps82
    go_wp2_with fail
    with_reducible refine (HS.out _ _ rfl).mono ?_
    rintro e w' ⟨rfl, v', hw', hf'⟩
    go_wp2
    go_end0
    exact ⟨rfl, v', hw', (HF.out 0).trans hf'⟩
  · show Calls Try.prog 82 #[.pointer (some ⟨q, 0, none⟩), .bool true] w (Says q v (xs ++ [1]) w)
    go_enter Try.func82, Try.ntmps82
    go_wp2_with fail
    with_reducible refine (HS.out _ _ rfl).mono ?_
    rintro e w' ⟨rfl, v', hw', hf'⟩
    go_wp2
    first | go_end0 | go_ret
    exact ⟨rfl, v', hw', (HF.out 1).trans hf'⟩
end Go.Proofs.Ytfmmfaeognoleaa
