/-
  The contract of scene.Check.
-/
import Derived.Test.YtnpcmoeleigpoaaLast
namespace Go.Proofs.Ytnpcmoeleigpoaa
open Go.RowKit
attribute [local go_sem ↓] Go.wp_at_zero Go.wp_at_succ

theorem Es.pre {α : Type} {E : Elem α} {w : World} {B : Nat} {A : Option Addr} {xs ys : List α} (h : Es E w B A (xs ++ ys)) : Es E w B A xs := fun hne => by
  obtain ⟨b, off, e, hb, hc⟩ := h (by intro h; exact hne (List.append_eq_nil_iff.1 h).1)
  refine ⟨b, off, e, hb, fun j u hj => hc j u ?_⟩
  rw [List.getElem?_append_left (List.getElem?_eq_some_iff.1 hj).1]
  exact hj
theorem Es.takes {α : Type} {E : Elem α} {w : World} {B : Nat} {A : Option Addr} {xs : List α} (h : Es E w B A xs) (k : Nat) : Es E w B A (xs.take k) := by
  rw [← List.take_append_drop k xs] at h
  exact h.pre
theorem check_ways (s : Sc) :
    (inB s.w 1 64 = false → check s.p = 20) ∧ (inB s.w 1 64 = true → inB s.h 1 64 = false → check s.p = 20)
    ∧ (inB s.w 1 64 = true → inB s.h 1 64 = true → (rightB s.k = false → check s.p = 1)
      ∧ (rightB s.k = true → (manyB s.p = true → check s.p = 26)
        ∧ (manyB s.p = false → (s.vs.all U.rightB = false → check s.p = 21)
          ∧ (s.vs.all U.rightB = true → ((s.ts.all fun l => l.x.right) = false → check s.p = 22)
            ∧ ((s.ts.all fun l => l.x.right) = true → ((s.ps.all fun l => decide (C.chk l.x = 0)) = false → check s.p = 23)
              ∧ ((s.ps.all fun l => decide (C.chk l.x = 0)) = true → check s.p = firstE (errAt s.p) 0 s.ds.length)))))) := by
  have e1 : s.p.w = s.w := rfl
  have e2 : s.p.h = s.h := rfl
  have e3 : s.p.k = s.k := rfl
  have e4 : s.p.vs = s.vs := rfl
  have e5 : s.p.ts.all Tx.right = s.ts.all fun l => l.x.right := by show (s.ts.map Lo.x).all _ = _; rw [List.all_map]; rfl
  have e6 : (s.p.ps.all fun l => decide (C.chk l = 0)) = s.ps.all fun l => decide (C.chk l.x = 0) := by show (s.ps.map Lo.x).all _ = _; rw [List.all_map]; rfl
  have e7 : s.p.ds.length = s.ds.length := by show (s.ds.map Lo.x).length = _; rw [List.length_map]
  unfold check headE
  rw [e1, e2, e3, e4, e5, e6, e7]
  generalize inB s.w 1 64 = r1
  generalize inB s.h 1 64 = r2
  generalize rightB s.k = r3
  generalize manyB s.p = r4
  generalize s.vs.all U.rightB = r5
  generalize (s.ts.all fun l => l.x.right) = r6
  generalize (s.ps.all fun l => decide (C.chk l.x = 0)) = r7
  refine ⟨fun a => ?_, fun a b => ?_, fun a b => ⟨fun c => ?_, fun c => ⟨fun d => ?_, fun d => ⟨fun e => ?_, fun e => ⟨fun f => ?_, fun f => ⟨fun g => ?_, fun g => ?_⟩⟩⟩⟩⟩⟩ <;> subst_vars <;> simp
theorem errAt_sc {s : Sc} {j : Nat} {u : Lo Dr} (h : s.ds[j]? = some u) : errAt s.p j = drawE s.p ((s.ds.take j).map Lo.x) u.x := by
  have : s.p.ds[j]? = some u.x := by show (s.ds.map Lo.x)[j]? = _; rw [List.getElem?_map, h]; rfl
  rw [errAt_eq this]
  show drawE s.p ((s.ds.map Lo.x).take j) u.x = _
  rw [List.map_take]
theorem errs_sc {s : Sc} {j : Nat} (hj : j ≤ s.ds.length) (h : ∀ i, i < j → errAt s.p i = 0) : ((s.ds.take j).map fun x => x.x.id).Nodup := by
  have e : s.p.ds = s.ds.map Lo.x := rfl
  have := errs_nodup (s := s.p) (k := j) (by rw [e, List.length_map]; exact hj) h
  rw [e, ← List.map_take, List.map_map] at this
  exact this
/-- One draw, with those ahead of it. -/
theorem one_last (s : Sc) (hok : s.ok) (hf : s.few) {j : Nat} {u : Lo Dr} (hu : s.ds[j]? = some u) (herr : ∀ i, i < j → errAt s.p i = 0) (W : World) (ha : s.at W W.heap.size) :
    Calls Try.prog 32 #[.agg #[.int .i64 s.w, .int .i64 s.h, .int .u8 s.k.r, .int .u8 s.k.g, .int .u8 s.k.b, .int .u8 s.k.a, .slice s.vA s.vs.length s.vc, .slice s.tA s.ts.length s.tc, .slice s.pA s.ps.length s.pc, .slice s.dA s.ds.length s.dc], .slice s.dA (j + 1) (j + 1)] W fun e w' => e = .returned (.int .i64 (errAt s.p j)) ∧ Below W.heap.size W w' := by
  have hj := (List.getElem?_eq_some_iff.1 hu).1
  have hm := List.mem_of_getElem? hu
  have hl : (s.ds.take j).length = j := by rw [List.length_take]; omega
  have h := checkLast_any s s.dA (j + 1) (s.ds.take j) u W ha hok hf (by have := hf.ds; omega) (fun x hx => by rw [← take_snoc hu] at hx; exact (hok.ds x (List.mem_of_mem_take hx)).1.id) (fun t ht => ((hok.ds u hm).1.tris t ht).i) (hf.dx u hm) (ha.dx u hm) (by rw [← take_snoc hu]; exact ha.d.takes _) (errs_sc (by omega) herr)
  rw [hl, ← errAt_sc hu] at h
  exact h
set_option maxRecDepth 100000 in
set_option maxHeartbeats 8000000 in
theorem check_scene (s : Sc) (w : World) (ha : s.at w w.heap.size) (hok : s.ok) (hf : s.few) :
    Calls Try.prog 12 #[.agg #[.int .i64 s.w, .int .i64 s.h, .int .u8 s.k.r, .int .u8 s.k.g, .int .u8 s.k.b, .int .u8 s.k.a, .slice s.vA s.vs.length s.vc, .slice s.tA s.ts.length s.tc, .slice s.pA s.ps.length s.pc, .slice s.dA s.ds.length s.dc]] w fun e w' => e = .returned (.int .i64 (check s.p)) ∧ Below w.heap.size w w' := by
  have HK := Lib.hid (new_below w (.cells #[.int .i64 s.w, .int .i64 s.h, .int .u8 s.k.r, .int .u8 s.k.g, .int .u8 s.k.b, .int .u8 s.k.a, .slice s.vA s.vs.length s.vc, .slice s.tA s.ts.length s.tc, .slice s.pA s.ps.length s.pc, .slice s.dA s.ds.length s.dc] 29))
  have HG := Lib.hid (show (w.alloc (.cells #[.int .i64 s.w, .int .i64 s.h, .int .u8 s.k.r, .int .u8 s.k.g, .int .u8 s.k.b, .int .u8 s.k.a, .slice s.vA s.vs.length s.vc, .slice s.tA s.ts.length s.tc, .slice s.pA s.ps.length s.pc, .slice s.dA s.ds.length s.dc] 29)).heap[w.heap.size]? = some (scB s) from heap_alloc_new _ _)
  have H1 := Lib.hid (within_any s.w 1 64)
  have H2 := Lib.hid (within_any s.h 1 64)
  have H3 := Lib.hid (cright_any s.k)
  have H4 := Lib.hid (fun W (hb : Below w.heap.size w W) => tooMany_any s W ((ha.below hb).sharp))
  have H5 := Lib.hid (fun W (hb : Below w.heap.size w W) => all26_any U.rightB 27 #[] (fun args w => by go_simp) s.vs s.vA s.vc hf.vs W ((ha.v.below hb).sharp) (fun x _ W2 _ => U.right_any x W2))
  have H6 := Lib.hid (fun W (hb : Below w.heap.size w W) => all28_any (fun l => l.x.right) 29 #[] (fun args w => by go_simp) s.ts s.tA s.tc hf.ts W ((ha.t.below hb).sharp) (fun x _ W2 _ => right_any x.x x.A x.c W2))
  have H7 := Lib.hid (fun W (hb : Below w.heap.size w W) => all30_any (fun l => decide (C.chk l.x = 0)) 31 #[] (fun args w => by go_simp) s.ps s.pA s.pc hf.ps W ((ha.p.below hb).sharp) (fun x hx W2 hb2 => mayRun_any x.x x.A x.c (hok.ps x hx).1 W2 ((((ha.px x hx).below hb).sharp.below hb2).sharp)))
  have H8 := Lib.hid (fun (j : Nat) (u : Lo Dr) (hu : s.ds[j]? = some u) (herr : ∀ i, i < j → errAt s.p i = 0) W (hb : Below w.heap.size w W) => one_last s hok hf hu herr W ((ha.below hb).sharp))
  have HS := Lib.hid (fun (j : Nat) (u : Lo Dr) (hu : s.ds[j]? = some u) => ha.d.at hu)
  have HL := Lib.hid (fun (k : Nat) (h : k < s.ds.length) => get_lt (l := s.ds) h)
  have HGd := Lib.hid (fun h => errs_good (s := s.p) (n := s.ds.length) h)
  have HBd := Lib.hid (fun (j : Nat) (hj : j < s.ds.length) h1 h2 => errs_bad (s := s.p) (n := s.ds.length) (j := j) hj h1 h2)
  have HW := Lib.hid (check_ways s)
  have hdc := hok.dc
  have hds := hf.ds
  generalize check s.p = R at *
  generalize errAt s.p = er at *
  generalize firstE er 0 s.ds.length = F at *
  generalize inB s.w 1 64 = r1 at *
  generalize inB s.h 1 64 = r2 at *
  generalize rightB s.k = r3 at *
  generalize manyB s.p = r4 at *
  generalize s.vs.all U.rightB = r5 at *
  generalize (s.ts.all fun l => l.x.right) = r6 at *
  generalize (s.ps.all fun l => decide (C.chk l.x = 0)) = r7 at *
  obtain ⟨dA, hdA⟩ : ∃ a, s.dA = a := ⟨_, rfl⟩
  rw [hdA] at HK HG HS H8 ⊢
  replace hdA := Lib.hid hdA
  clear ha hok hf
  go_enter Try.func12, Try.ntmps12
  go_wp2_with fail
  with_reducible refine (H1.out _).mono ?_
  rintro e w2 ⟨rfl, rfl⟩
  cases r1
  · obtain rfl : R = 20 := HW.out.1 (by simp)
    go_wp2
    go_ret
    exact ⟨rfl, HK.out⟩
  go_wp2_with fail
  with_reducible refine (H2.out _).mono ?_
  rintro e w2 ⟨rfl, rfl⟩
  cases r2
  · obtain rfl : R = 20 := HW.out.2.1 (by simp) (by simp)
    go_wp2
    go_ret
    exact ⟨rfl, HK.out⟩
  have HW2 := Lib.hid (HW.out.2.2 (by simp) (by simp))
  clear HW H1 H2
  go_wp2_with fail
  with_reducible refine (H3.out _).mono ?_
  rintro e w3 ⟨rfl, hb⟩
  have B3 := Lib.hid (bstep HK.out HK.out.size hb)
  have G3 := Lib.hid (scB_keep HG.out hb (scB_lt HG.out))
  clear hb HK HG H3
  cases r3
  · obtain rfl : R = 1 := HW2.out.1 (by simp)
    go_wp2
    go_ret
    exact ⟨rfl, B3.out⟩
  have HW3 := Lib.hid (HW2.out.2 (by simp))
  clear HW2
  obtain ⟨c0, c1, c2, c3, c4, c5, c6, c7, c8, c9⟩ := scB_cell G3.out
  have hg3 := scB_lt G3.out
  go_wp2_with fail
  with_reducible refine (H4.out _ B3.out).mono ?_
  rintro e w4 ⟨rfl, hb⟩
  have B4 := Lib.hid (bstep B3.out B3.out.size hb)
  have G4 := Lib.hid (scB_keep G3.out hb (scB_lt G3.out))
  clear hb B3 G3 H4 c0 c1 c2 c3 c4 c5 c6 c7 c8 c9 hg3
  cases r4
  case true =>
    obtain rfl : R = 26 := HW3.out.1 (by simp)
    go_wp2
    go_ret
    exact ⟨rfl, B4.out⟩
  have HW4 := Lib.hid (HW3.out.2 (by simp))
  clear HW3
  obtain ⟨c0, c1, c2, c3, c4, c5, c6, c7, c8, c9⟩ := scB_cell G4.out
  have hg4 := scB_lt G4.out
  go_wp2_with fail
  with_reducible refine (H5.out _ B4.out).mono ?_
  rintro e w5 ⟨rfl, hb⟩
  have B5 := Lib.hid (bstep B4.out B4.out.size hb)
  have G5 := Lib.hid (scB_keep G4.out hb (scB_lt G4.out))
  clear hb B4 G4 H5 c0 c1 c2 c3 c4 c5 c6 c7 c8 c9 hg4
  cases r5
  · obtain rfl : R = 21 := HW4.out.1 (by simp)
    go_wp2
    go_ret
    exact ⟨rfl, B5.out⟩
  have HW5 := Lib.hid (HW4.out.2 (by simp))
  clear HW4
  obtain ⟨c0, c1, c2, c3, c4, c5, c6, c7, c8, c9⟩ := scB_cell G5.out
  have hg5 := scB_lt G5.out
  go_wp2_with fail
  with_reducible refine (H6.out _ B5.out).mono ?_
  rintro e w6 ⟨rfl, hb⟩
  have B6 := Lib.hid (bstep B5.out B5.out.size hb)
  have G6 := Lib.hid (scB_keep G5.out hb (scB_lt G5.out))
  clear hb B5 G5 H6 c0 c1 c2 c3 c4 c5 c6 c7 c8 c9 hg5
  cases r6
  · obtain rfl : R = 22 := HW5.out.1 (by simp)
    go_wp2
    go_ret
    exact ⟨rfl, B6.out⟩
  have HW6 := Lib.hid (HW5.out.2 (by simp))
  clear HW5
  obtain ⟨c0, c1, c2, c3, c4, c5, c6, c7, c8, c9⟩ := scB_cell G6.out
  have hg6 := scB_lt G6.out
  go_wp2_with fail
  with_reducible refine (H7.out _ B6.out).mono ?_
  rintro e w7 ⟨rfl, hb⟩
  have B7 := Lib.hid (bstep B6.out B6.out.size hb)
  have G7 := Lib.hid (scB_keep G6.out hb (scB_lt G6.out))
  clear hb B6 G6 H7 c0 c1 c2 c3 c4 c5 c6 c7 c8 c9 hg6
  cases r7
  · obtain rfl : R = 23 := HW6.out.1 (by simp)
    go_wp2
    go_ret
    exact ⟨rfl, B7.out⟩
  obtain rfl : R = F := HW6.out.2 (by simp)
  clear HW6
  obtain ⟨c0, c1, c2, c3, c4, c5, c6, c7, c8, c9⟩ := scB_cell G7.out
  have hg7 := scB_lt G7.out
  obtain ⟨n, hn⟩ : ∃ n, s.ds.length = n := ⟨_, rfl⟩
  rw [hn, hdA.out] at c9
  rw [hn] at HL HGd HBd hdc hds
  go_wp2_with fail
  clear c0 c1 c2 c3 c4 c5 c6 c7 c8 c9 hg7
  replace hn := Lib.hid hn
  go_loopw [42] (fun i wr => ∃ j : Nat, j ≤ n ∧ i = .int .i64 j ∧ (∀ i, i < j → er i = 0) ∧ Below w.heap.size w wr ∧ wr.heap[w.heap.size]? = some (scB s)) (fun i _ => n - (intOf i).toNat)
  case atStart => exact ⟨0, Nat.zero_le _, rfl, fun i h => absurd h (Nat.not_lt_zero _), B7.out, G7.out⟩
  case round =>
    obtain ⟨j, hk, rfl, hin, hb, hg⟩ := hrel
    have HB := Lib.hid hb
    have HI := Lib.hid hin
    have HG := Lib.hid hg
    clear hin hb hg
    by_cases hlt : j < n
    · obtain ⟨u, hu⟩ := HL.out j hlt
      obtain ⟨b, off, rfl, -, -⟩ := HS.out j u hu
      obtain ⟨c0, c1, c2, c3, c4, c5, c6, c7, c8, c9⟩ := scB_cell HG.out
      have HC := Lib.hid (fun W hW => H8.out j u hu HI.out W hW)
      rw [hn.out, hdA.out] at c9
      rw [hn.out] at HC
      have hg := scB_lt HG.out
      obtain ⟨x, hx⟩ : ∃ x, er j = x := ⟨_, rfl⟩
      rw [hx] at HC
      have HX := Lib.hid hx
      have w1 : IntKind.i64.wrap ((j : Int) + 1) = j + 1 := by rw [IntKind.wrap_i64]; omega
      clear hu hx
      go_wp2_with fail
      have k1 : (0 : Int) ≤ (j : Int) + 1 := by omega
      have k2 : (j : Int) + 1 ≤ s.dc := by omega
      have y0 : ∀ x : Grow wr, x.w.cell? ⟨w.heap.size, 0, none⟩ = _ := fun x => x.cell c0
      have y1 : ∀ x : Grow wr, x.w.cell? ⟨w.heap.size, 1, none⟩ = _ := fun x => x.cell c1
      have y2 : ∀ x : Grow wr, x.w.cell? ⟨w.heap.size, 2, none⟩ = _ := fun x => x.cell c2
      have y3 : ∀ x : Grow wr, x.w.cell? ⟨w.heap.size, 3, none⟩ = _ := fun x => x.cell c3
      have y4 : ∀ x : Grow wr, x.w.cell? ⟨w.heap.size, 4, none⟩ = _ := fun x => x.cell c4
      have y5 : ∀ x : Grow wr, x.w.cell? ⟨w.heap.size, 5, none⟩ = _ := fun x => x.cell c5
      have y6 : ∀ x : Grow wr, x.w.cell? ⟨w.heap.size, 6, none⟩ = _ := fun x => x.cell c6
      have y7 : ∀ x : Grow wr, x.w.cell? ⟨w.heap.size, 7, none⟩ = _ := fun x => x.cell c7
      have y8 : ∀ x : Grow wr, x.w.cell? ⟨w.heap.size, 8, none⟩ = _ := fun x => x.cell c8
      have y9 : ∀ x : Grow wr, x.w.cell? ⟨w.heap.size, 9, none⟩ = _ := fun x => x.cell c9
      refine wp_region_held_drew (S := fun w' => ∃ x : Grow wr, w' = x.w) (by kernel_rfl) ⟨⟨_, (Below.refl _ _).drew⟩, rfl⟩ (fun hS => ?_)
      have BD := Lib.hid (show Below w.heap.size w wr.drew from HB.out.drew)
      have GD := Lib.hid (show wr.drew.heap[w.heap.size]? = some (scB s) from HG.out)
      have DW := Lib.hid (show Below wr.heap.size wr wr.drew from (Below.refl _ _).drew)
      generalize wr.drew = Y at *
      refine wpAnyH_take (i := 0) (v := .agg #[.int .i64 s.w, .int .i64 s.h, .int .u8 s.k.r, .int .u8 s.k.g, .int .u8 s.k.b, .int .u8 s.k.a, .slice s.vA s.vs.length s.vc, .slice s.tA s.ts.length s.tc, .slice s.pA s.ps.length s.pc, .slice (some ⟨b, off, none⟩) n s.dc]) rfl (by kernel_rfl) (by kernel_rfl) (by kernel_rfl) (fun _ _ _ h => h) (Or.inl ⟨by rfl, fun w hw => by obtain ⟨x, rfl⟩ := hw; go_simp⟩) hS ?_
      try simp only [Act.put, List.setIfInBounds_toArray, List.set_cons_zero, List.set_cons_succ, List.getElem_toArray, List.getElem_cons_zero]
      refine wpAnyH_take (i := 1) (v := .pointer (some ⟨w.heap.size, 9, none⟩)) rfl (by kernel_rfl) (by kernel_rfl) (by kernel_rfl) (fun _ _ _ h => h) (Or.inl ⟨by rfl, fun w hw => by obtain ⟨x, rfl⟩ := hw; go_simp⟩) hS ?_
      try simp only [Act.put, List.setIfInBounds_toArray, List.set_cons_zero, List.set_cons_succ, List.getElem_toArray, List.getElem_cons_zero, List.getElem_cons_succ]
      refine wpAnyH_take (i := 2) (v := .slice (some ⟨b, off, none⟩) n s.dc) rfl (by kernel_rfl) (by kernel_rfl) (by kernel_rfl) (fun _ _ _ h => h) (Or.inl ⟨by rfl, fun w hw => by obtain ⟨x, rfl⟩ := hw; go_simp⟩) hS ?_
      try simp only [Act.put, List.setIfInBounds_toArray, List.set_cons_zero, List.set_cons_succ, List.getElem_toArray, List.getElem_cons_zero, List.getElem_cons_succ]
      refine wpAnyH_take (i := 3) (v := .int .i64 j) rfl (by kernel_rfl) (by kernel_rfl) (by kernel_rfl) (fun _ _ _ h => h) (Or.inl ⟨by rfl, fun w hw => by obtain ⟨x, rfl⟩ := hw; go_simp⟩) hS ?_
      try simp only [Act.put, List.setIfInBounds_toArray, List.set_cons_zero, List.set_cons_succ, List.getElem_toArray, List.getElem_cons_zero, List.getElem_cons_succ]
      refine wpAnyH_take (i := 4) (v := .int .i64 (j + 1)) rfl (by kernel_rfl) (by kernel_rfl) (by kernel_rfl) (fun _ _ _ h => h) (Or.inl ⟨by rfl, fun w hw => by obtain ⟨x, rfl⟩ := hw; go_simp⟩) hS ?_
      try simp only [Act.put, List.setIfInBounds_toArray, List.set_cons_zero, List.set_cons_succ, List.getElem_toArray, List.getElem_cons_zero, List.getElem_cons_succ]
      refine wpAnyH_take (i := 5) (v := .int .i64 j) rfl (by kernel_rfl) (by kernel_rfl) (by kernel_rfl) (fun _ _ _ h => h) (Or.inl ⟨by rfl, fun w hw => by obtain ⟨x, rfl⟩ := hw; go_simp⟩) hS ?_
      try simp only [Act.put, List.setIfInBounds_toArray, List.set_cons_zero, List.set_cons_succ, List.getElem_toArray, List.getElem_cons_zero, List.getElem_cons_succ]
      refine wpAnyH_take (i := 6) (v := .int .i64 (j + 1)) rfl (by kernel_rfl) (by kernel_rfl) (by kernel_rfl) (fun _ _ _ h => h) (Or.inl ⟨by rfl, fun w hw => by obtain ⟨x, rfl⟩ := hw; go_simp⟩) hS ?_
      try simp only [Act.put, List.setIfInBounds_toArray, List.set_cons_zero, List.set_cons_succ, List.getElem_toArray, List.getElem_cons_zero, List.getElem_cons_succ]
      refine wpAnyH_take (i := 7) (v := .slice (some ⟨b, off, none⟩) (j + 1) (j + 1)) rfl (by kernel_rfl) (by kernel_rfl) (by kernel_rfl) (fun _ _ _ h => h) (Or.inl ⟨by rfl, fun w hw => by obtain ⟨x, rfl⟩ := hw; go_simp⟩) hS ?_
      try simp only [Act.put, List.setIfInBounds_toArray, List.set_cons_zero, List.set_cons_succ, List.getElem_toArray, List.getElem_cons_zero, List.getElem_cons_succ]
      refine wpAnyH_ready (rs := [8]) (by kernel_rfl) (by simp) ?_
      refine AllReadyH.cons rfl (fun K hK => ?_) AllReadyH.nil
      go_simp
      with_reducible refine (HC.out _ BD.out).mono ?_
      rintro e w8 ⟨rfl, hb⟩
      have DW8 := Lib.hid (bstep DW.out DW.out.size hb)
      refine hK.out _ _ ⟨⟨_, DW8.out⟩, rfl⟩ (fun hS => ?_)
      clear hK K
      try simp only [Act.put, List.setIfInBounds_toArray, List.set_cons_zero, List.set_cons_succ, List.getElem_toArray, List.getElem_cons_zero, List.getElem_cons_succ]
      refine wpAnyH_take (i := 9) (v := .int .i64 x) rfl (by kernel_rfl) (by kernel_rfl) (by kernel_rfl) (fun _ _ _ h => h) (Or.inl ⟨by rfl, fun w hw => by obtain ⟨x, rfl⟩ := hw; go_simp⟩) hS ?_
      try simp only [Act.put, List.setIfInBounds_toArray, List.set_cons_zero, List.set_cons_succ, List.getElem_toArray, List.getElem_cons_zero, List.getElem_cons_succ]
      refine wpAnyH_done (by kernel_rfl) ?_ _
      have B8 := Lib.hid (bstep BD.out BD.out.size hb)
      have G8 := Lib.hid (scB_keep GD.out hb (scB_lt GD.out))
      clear hb BD GD HC c0 c1 c2 c3 c4 c5 c6 c7 c8 c9 hg y0 y1 y2 y3 y4 y5 y6 y7 y8 y9 DW DW8 hS
      by_cases x0 : x = 0
      · have d1 : (x == 0) = true := by simp [x0]
        have d2 : decide (x = 0) = true := by simp [x0]
        go_wp2_with fail
        go_roundw
        case rel =>
          refine ⟨j + 1, by omega, by go_num, fun i hi => ?_, B8.out, G8.out⟩
          rcases Nat.lt_or_ge i j with h | h
          · exact HI.out i h
          · obtain rfl : i = j := by omega
            rw [HX.out]
            exact x0
        case measure => simp [intOf]; omega
      · have d1 : (x == 0) = false := by simp [x0]
        have d2 : decide (x = 0) = false := by simp [x0]
        obtain rfl : R = x := by rw [HBd.out j hlt HI.out (by rw [HX.out]; exact x0), HX.out]
        go_wp2_with fail
        go_ret
        exact ⟨rfl, B8.out⟩
    · obtain rfl : j = n := by omega
      obtain rfl : R = 0 := HGd.out HI.out
      go_wp2
      go_ret
      exact ⟨rfl, HB.out⟩
end Go.Proofs.Ytnpcmoeleigpoaa
