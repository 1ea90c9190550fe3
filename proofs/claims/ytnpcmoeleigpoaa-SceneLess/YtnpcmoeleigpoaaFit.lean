/-
  The contract of the reference's Fit: a picture that may be, of any one.
-/
import Derived.Test.YtnpcmoeleigpoaaFew
namespace Go.Proofs.Ytnpcmoeleigpoaa
open Go.RowKit
attribute [local go_sem ↓] Go.wp_at_zero Go.wp_at_succ

/-- A block of two sides and a slice. -/
def fB (W H : Int) (v : Value) : Obj := .cells #[.int .i64 W, .int .i64 H, v] 53 (0, 0)
theorem fB_cell {w : World} {g : Nat} {W H : Int} {v : Value} (h : w.heap[g]? = some (fB W H v)) : w.cell? ⟨g, 0, none⟩ = some (.int .i64 W) ∧ w.cell? ⟨g, 1, none⟩ = some (.int .i64 H) ∧ w.cell? ⟨g, 2, none⟩ = some v := by
  unfold fB at h
  exact ⟨Joins.cell_of_block h 0, Joins.cell_of_block h 1, Joins.cell_of_block h 2⟩
theorem fB_free {w : World} {g : Nat} {W H : Int} {v : Value} (h : w.heap[g]? = some (fB W H v)) : w.frozen? ⟨g, 0, none⟩ = false ∧ w.frozen? ⟨g, 1, none⟩ = false ∧ w.frozen? ⟨g, 2, none⟩ = false := by
  unfold fB at h
  refine ⟨?_, ?_, ?_⟩ <;> simp [World.frozen?, h]
theorem fB_lt {w : World} {g : Nat} {W H : Int} {v : Value} (h : w.heap[g]? = some (fB W H v)) : g < w.heap.size := (Array.getElem?_eq_some_iff.1 h).1
theorem fB_keep {w w' : World} {B g : Nat} {W H : Int} {v : Value} (h : w.heap[g]? = some (fB W H v)) (k : Below B w w') (hg : g < B) : w'.heap[g]? = some (fB W H v) := (k.block _ hg).trans h
theorem fB_set2 {w : World} {g : Nat} {W H : Int} {v : Value} (u : Value) (h : w.heap[g]? = some (fB W H v)) : (w.setCell ⟨g, 2, none⟩ u).heap[g]? = some (fB W H u) := by
  unfold fB at h
  rw [heap_setCell_same _ _ _ _ _ _ h]
  simp [fB]
theorem fB_set3 {w : World} {g : Nat} {W H : Int} {v : Value} (X Y : Int) (u : Value) (h : w.heap[g]? = some (fB W H v)) : (((w.setCell ⟨g, 0, none⟩ (.int .i64 X)).setCell ⟨g, 1, none⟩ (.int .i64 Y)).setCell ⟨g, 2, none⟩ u).heap[g]? = some (fB X Y u) := by
  unfold fB at h
  rw [heap_setCell_same _ _ _ _ _ _ (heap_setCell_same _ _ _ _ _ _ (heap_setCell_same _ _ _ _ _ _ h))]
  simp [fB]
theorem OwnE.setCell {α : Type} {E : Elem α} {w : World} {base g o : Nat} {v u : Value} {xs : List α} (h : OwnE E w base v xs) (hg : g < base) : OwnE E (w.setCell ⟨g, o, none⟩ u) base v xs := by
  obtain ⟨hl, h2⟩ := h
  refine ⟨hl, ?_⟩
  rcases h2 with h2 | ⟨j, cap, cur, rfl, hj, hh, hr⟩
  · exact .inl h2
  · exact .inr ⟨j, cap, cur, rfl, hj, by rw [heap_setCell_other _ _ _ _ (by simp; omega)]; exact hh, hr⟩
theorem OwnE.up (w : World) {α : Type} {E : Elem α} {w' : World} {base : Nat} {v : Value} {xs : List α} (h : OwnE E w base v xs) (hb : Below w.heap.size w w') : OwnE E w' base v xs := h.keep hb
theorem Try.info23 : (Try.prog.info? 23).map (fun i => (i.zero, i.size, i.bytes)) = some (some (.agg (Array.replicate 4 (.int .u8 0))), 4, 4) := by kernel_rfl
theorem info_parts {t : TypeId} {x : Option Value} {s b : Nat} (h : (Try.prog.info? t).map (fun i => (i.zero, i.size, i.bytes)) = some (x, s, b)) : ∃ i, Try.prog.info? t = some i ∧ i.zero = x ∧ i.size = s ∧ i.bytes = b := by
  cases e : Try.prog.info? t with
  | none => rw [e] at h; cases h
  | some i => rw [e] at h; cases h; exact ⟨i, rfl, rfl, rfl, rfl⟩

/-- The colour that Fit puts at a place. -/
def fitC (px : List Col) (i : Nat) : Col := px.getD i ⟨((i : Int) * 16) % 256, (i : Int) % 256, 7, 255⟩
def fitT (t : Tx) : Tx := ⟨1 + t.w % 16, 1 + t.h % 16, (List.range ((1 + t.w % 16) * (1 + t.h % 16)).toNat).map (fitC t.px)⟩
theorem fitC_ok {px : List Col} (h : ∀ c ∈ px, c.ok) (i : Nat) : (fitC px i).ok := by
  unfold fitC
  rw [List.getD_eq_getElem?_getD]
  cases e : px[i]? with
  | none => unfold Col.ok; simp; omega
  | some c => exact h c (List.mem_of_getElem? e)
theorem fitT_ok {t : Tx} (h : t.ok) : (fitT t).ok := by
  intro c hc
  unfold fitT at hc
  obtain ⟨i, _, rfl⟩ := List.mem_map.1 hc
  exact fitC_ok h i
theorem fitT_sides (t : Tx) : 1 ≤ (fitT t).w ∧ (fitT t).w ≤ 16 ∧ 1 ≤ (fitT t).h ∧ (fitT t).h ≤ 16 := by
  unfold fitT
  dsimp only
  omega
theorem fitT_len (t : Tx) : ((fitT t).px.length : Int) = (fitT t).w * (fitT t).h := by
  obtain ⟨a, b, c, d⟩ := fitT_sides t
  have h := area_bd a b c d rfl
  unfold fitT at h ⊢
  dsimp only at h ⊢
  rw [List.length_map, List.length_range]
  omega
theorem fitT_right (t : Tx) : (fitT t).right = true := by
  obtain ⟨a, b, c, d⟩ := fitT_sides t
  exact Tx.right_of ⟨a, b, c, d, fitT_len t⟩
theorem new_keep {w : World} {g : Nat} {x : Obj} (o : Obj) (h : w.heap[g]? = some x) : (w.alloc o).heap[g]? = some x := by
  rw [Below.heap_alloc _ _ _ (Array.getElem?_eq_some_iff.1 h).1]
  exact h
theorem newC_at {w : World} {u : Col} {g : Nat} (hg : g = w.heap.size) : ∀ j x, (EC.cells u)[j]? = some x → (w.alloc (.cells #[.int .u8 u.r, .int .u8 u.g, .int .u8 u.b, .int .u8 u.a] 23)).cell? ((⟨g, 0, none⟩ : Addr).add j) = some x := by
  subst hg
  exact new_el (E := EC) w u _ rfl
theorem range_snoc (f : Nat → Col) (k : Nat) : (List.range (k + 1)).map f = (List.range k).map f ++ [f k] := by rw [List.range_succ, List.map_append]; rfl

set_option maxRecDepth 100000 in
set_option maxHeartbeats 4000000 in
theorem fit_any (t : Tx) (A : Option Addr) (c : Nat) (w : World) (hw : I64 t.w) (hh : I64 t.h) (he : Es EC w w.heap.size A t.px) :
    Calls Try.prog 21 #[.agg #[.int .i64 t.w, .int .i64 t.h, .slice A t.px.length c]] w fun e w' => ∃ A' c', e = .returned (.agg #[.int .i64 (fitT t).w, .int .i64 (fitT t).h, .slice A' (fitT t).px.length c']) ∧ (fitT t).px.length ≤ c' ∧ Es EC w' w'.heap.size A' (fitT t).px ∧ OwnE EC w' w.heap.size (.slice A' (fitT t).px.length c') (fitT t).px ∧ Below w.heap.size w w' := by
  obtain ⟨i0, hi, hz0, hz1, hz2⟩ := info_parts Try.info23
  have HI := Lib.hid hi
  have HZ := Lib.hid (And.intro hz0 (And.intro hz1 hz2))
  have HW := Lib.hid (rwrap_any t.w 16 hw (by decide) (by decide))
  have HH := Lib.hid (rwrap_any t.h 16 hh (by decide) (by decide))
  obtain ⟨a0, a1, b0, b1⟩ := fitT_sides t
  obtain ⟨n, hn⟩ : ∃ n, (fitT t).w * (fitT t).h = n := ⟨_, rfl⟩
  have hlen := fitT_len t
  obtain ⟨n0, n1⟩ := area_bd a0 a1 b0 b1 hn
  have HPX := Lib.hid (show (fitT t).px = (List.range n.toNat).map (fitC t.px) by rw [← hn]; rfl)
  have eW : 1 + t.w % 16 = (fitT t).w := rfl
  have eH : 1 + t.h % 16 = (fitT t).h := rfl
  rw [hn] at hlen
  have HE := Lib.hid he
  have HL := Lib.hid hlen
  generalize (fitT t).w = W at *
  generalize (fitT t).h = H at *
  generalize (fitT t).px = PX at *
  obtain ⟨p, hp⟩ : ∃ p, t.w % 16 = p := ⟨_, rfl⟩
  obtain ⟨q, hq⟩ : ∃ q, t.h % 16 = q := ⟨_, rfl⟩
  rw [hp] at HW eW
  rw [hq] at HH eH
  have wn : IntKind.i64.wrap (W * H) = n := by rw [hn, IntKind.wrap_i64]; omega
  have wp : IntKind.i64.wrap (1 + p) = W := by rw [IntKind.wrap_i64]; omega
  have wq : IntKind.i64.wrap (1 + q) = H := by rw [IntKind.wrap_i64]; omega
  clear hi hz0 hz1 hz2 hw hh hn hlen he hp hq eW eH
  go_enter Try.func21, Try.ntmps21
  go_wp2_with fail
  have h0 : Below w.heap.size w ((w.alloc (.cells #[.int .i64 t.w, .int .i64 t.h, .slice A t.px.length c] 53)).alloc (.cells #[.int .i64 0, .int .i64 0, .slice none 0 0] 53)) := ((Below.refl _ _).alloc (Nat.le_refl _) _).alloc (by simp) _
  have H0 := Lib.hid h0
  have TX := Lib.hid (show ((w.alloc (.cells #[.int .i64 t.w, .int .i64 t.h, .slice A t.px.length c] 53)).alloc (.cells #[.int .i64 0, .int .i64 0, .slice none 0 0] 53)).heap[w.heap.size]? = some (txB t A c) from new_at20 _ _ _)
  have ZX := Lib.hid (show ((w.alloc (.cells #[.int .i64 t.w, .int .i64 t.h, .slice A t.px.length c] 53)).alloc (.cells #[.int .i64 0, .int .i64 0, .slice none 0 0] 53)).heap[w.heap.size + 1]? = some (fB 0 0 (.slice none 0 0)) from new_at2 _ _ _)
  clear h0
  generalize (w.alloc (.cells #[.int .i64 t.w, .int .i64 t.h, .slice A t.px.length c] 53)).alloc (.cells #[.int .i64 0, .int .i64 0, .slice none 0 0] 53) = X at *
  go_cut [3] from 6 to 15 (fun s Xc => ∃ h, s = .pointer (some ⟨h, 0, none⟩) ∧ X.heap.size ≤ h ∧ Below X.heap.size X Xc ∧ Xc.heap[h]? = some (fB W H (.slice none 0 0)))
  case first =>
    have d0 := txB_cell TX.out
    have y0 : ∀ x : Grow X, x.w.cell? ⟨w.heap.size, 0, none⟩ = some (.int .i64 t.w) := fun x => x.cell d0.1
    have y1 : ∀ x : Grow X, x.w.cell? ⟨w.heap.size, 1, none⟩ = some (.int .i64 t.h) := fun x => x.cell d0.2.1
    refine wp_region_held_drew (S := fun w' => ∃ x : Grow X, w' = x.w) (by kernel_rfl) ⟨⟨_, (Below.refl _ _).drew⟩, rfl⟩ (fun hS => ?_)
    have BY := Lib.hid (show Below X.heap.size X X.drew from (Below.refl _ _).drew)
    generalize X.drew = Y at *
    clear d0
    refine wpAnyH_take (i := 0) (v := .pointer (some ⟨w.heap.size, 0, none⟩)) rfl (by kernel_rfl) (by kernel_rfl) (by kernel_rfl) (fun _ _ _ h => h) (Or.inl ⟨by rfl, fun w hw => by obtain ⟨x, rfl⟩ := hw; go_simp⟩) hS ?_
    try simp only [Act.put, List.setIfInBounds_toArray, List.set_cons_zero, List.set_cons_succ, List.getElem_toArray, List.getElem_cons_zero]
    refine wpAnyH_take (i := 1) (v := .int .i64 t.w) rfl (by kernel_rfl) (by kernel_rfl) (by kernel_rfl) (fun _ _ _ h => h) (Or.inl ⟨by rfl, fun w hw => by obtain ⟨x, rfl⟩ := hw; go_simp⟩) hS ?_
    try simp only [Act.put, List.setIfInBounds_toArray, List.set_cons_zero, List.set_cons_succ, List.getElem_toArray, List.getElem_cons_zero, List.getElem_cons_succ]
    refine wpAnyH_take (i := 4) (v := .pointer (some ⟨w.heap.size, 1, none⟩)) rfl (by kernel_rfl) (by kernel_rfl) (by kernel_rfl) (fun _ _ _ h => h) (Or.inl ⟨by rfl, fun w hw => by obtain ⟨x, rfl⟩ := hw; go_simp⟩) hS ?_
    try simp only [Act.put, List.setIfInBounds_toArray, List.set_cons_zero, List.set_cons_succ, List.getElem_toArray, List.getElem_cons_zero, List.getElem_cons_succ]
    refine wpAnyH_take (i := 5) (v := .int .i64 t.h) rfl (by kernel_rfl) (by kernel_rfl) (by kernel_rfl) (fun _ _ _ h => h) (Or.inl ⟨by rfl, fun w hw => by obtain ⟨x, rfl⟩ := hw; go_simp⟩) hS ?_
    try simp only [Act.put, List.setIfInBounds_toArray, List.set_cons_zero, List.set_cons_succ, List.getElem_toArray, List.getElem_cons_zero, List.getElem_cons_succ]
    refine wpAnyH_ready (rs := [2, 9]) (by kernel_rfl) (by simp) ?_
    refine AllReadyH.cons rfl (fun K hK => ?_) ?_
    · skip
      go_simp
      with_reducible refine (HW.out _).mono ?_
      rintro e t1 ⟨rfl, hb⟩
      have Bt1 := Lib.hid (bstep BY.out BY.out.size hb)
      clear hb
      refine hK.out _ _ ⟨⟨_, Bt1.out⟩, rfl⟩ (fun hS => ?_)
      clear hK K
      try simp only [Act.put, List.setIfInBounds_toArray, List.set_cons_zero, List.set_cons_succ, List.getElem_toArray, List.getElem_cons_zero, List.getElem_cons_succ]
      refine wpAnyH_take (i := 3) (v := .int .i64 W) rfl (by kernel_rfl) (by kernel_rfl) (by kernel_rfl) (fun _ _ _ h => h) (Or.inl ⟨by rfl, fun w hw => by obtain ⟨x, rfl⟩ := hw; go_simp⟩) hS ?_
      try simp only [Act.put, List.setIfInBounds_toArray, List.set_cons_zero, List.set_cons_succ, List.getElem_toArray, List.getElem_cons_zero, List.getElem_cons_succ]
      refine wpAnyH_ready (rs := [6, 9]) (by kernel_rfl) (by simp) ?_
      refine AllReadyH.cons rfl (fun K hK => ?_) ?_
      · skip
        go_simp
        with_reducible refine (HH.out _).mono ?_
        rintro e t2 ⟨rfl, hb⟩
        have Bt2 := Lib.hid (bstep Bt1.out Bt1.out.size hb)
        clear hb
        refine hK.out _ _ ⟨⟨_, Bt2.out⟩, rfl⟩ (fun hS => ?_)
        clear hK K
        try simp only [Act.put, List.setIfInBounds_toArray, List.set_cons_zero, List.set_cons_succ, List.getElem_toArray, List.getElem_cons_zero, List.getElem_cons_succ]
        refine wpAnyH_take (i := 7) (v := .int .i64 H) rfl (by kernel_rfl) (by kernel_rfl) (by kernel_rfl) (fun _ _ _ h => h) (Or.inl ⟨by rfl, fun w hw => by obtain ⟨x, rfl⟩ := hw; go_simp⟩) hS ?_
        try simp only [Act.put, List.setIfInBounds_toArray, List.set_cons_zero, List.set_cons_succ, List.getElem_toArray, List.getElem_cons_zero, List.getElem_cons_succ]
        refine wpAnyH_take (i := 8) (v := .agg #[.int .i64 W, .int .i64 H, .slice none 0 0]) rfl (by kernel_rfl) (by kernel_rfl) (by kernel_rfl) (fun _ _ _ h => h) (Or.inl ⟨by rfl, fun w hw => by obtain ⟨x, rfl⟩ := hw; go_simp⟩) hS ?_
        try simp only [Act.put, List.setIfInBounds_toArray, List.set_cons_zero, List.set_cons_succ, List.getElem_toArray, List.getElem_cons_zero, List.getElem_cons_succ]
        refine wpAnyH_ready (rs := [9]) (by kernel_rfl) (by simp) ?_
        refine AllReadyH.cons rfl (fun K hK => ?_) AllReadyH.nil
        go_simp
        refine hK.out _ _ ⟨⟨_, Bt2.out.alloc Bt2.out.size _⟩, rfl⟩ (fun hS => ?_)
        clear hK K hS
        try simp only [Act.put, List.setIfInBounds_toArray, List.set_cons_zero, List.set_cons_succ, List.getElem_toArray, List.getElem_cons_zero, List.getElem_cons_succ]
        obtain ⟨t3, ht⟩ : ∃ t, t = t2.alloc (fB 0 0 (.slice none 0 0)) := ⟨_, rfl⟩
        change wpAnyH _ _ _ _ _ _ _ _ (t2.alloc (fB 0 0 (.slice none 0 0)))
        rw [← ht]
        have Bt3 := Lib.hid (show Below X.heap.size X t3 by rw [ht]; exact Bt2.out.alloc Bt2.out.size _)
        have Gt3 := Lib.hid (show t3.heap[t2.heap.size]? = some (fB 0 0 (.slice none 0 0)) by rw [ht]; exact new_at1 _ _)
        have hge : X.heap.size ≤ t2.heap.size := Bt2.out.size
        have hS : ∃ x : Grow X, t3 = x.w := ⟨⟨t3, Bt3.out⟩, rfl⟩
        clear ht
        have ff := fB_cell Gt3.out
        have fg := fB_free Gt3.out
        obtain ⟨i0', i1, i2⟩ := ff
        obtain ⟨j0, j1, j2⟩ := fg
        have BL := Lib.hid (show Below X.heap.size X ((((t3.setCell ⟨t2.heap.size, 0, none⟩ (.int .i64 W)).setCell ⟨t2.heap.size, 1, none⟩ (.int .i64 H)).setCell ⟨t2.heap.size, 2, none⟩ (.slice none 0 0))) from (((Bt3.out.setCell hge _).setCell hge _).setCell hge _))
        have ZL := Lib.hid (fB_set3 W H (.slice none 0 0) Gt3.out)
        refine wpAnyH_ready (rs := [10]) (by kernel_rfl) (by simp) ?_
        refine AllReadyH.cons rfl (fun K hK => ?_) AllReadyH.nil
        go_simp
        refine hK.out _ _ ⟨⟨_, BL.out⟩, rfl⟩ (fun hS => ?_)
        clear hK K hS
        try simp only [Act.put, List.setIfInBounds_toArray, List.set_cons_zero, List.set_cons_succ, List.getElem_toArray, List.getElem_cons_zero, List.getElem_cons_succ]
        refine wpAnyH_done (by kernel_rfl) ?_ _
        go_wp2_with fail
        go_meet
        exact ⟨_, rfl, hge, BL.out, ZL.out⟩
      refine AllReadyH.cons rfl (fun K hK => ?_) ?_
      · skip
        go_simp
        refine hK.out _ _ ⟨⟨_, Bt1.out.alloc Bt1.out.size _⟩, rfl⟩ (fun hS => ?_)
        clear hK K hS
        try simp only [Act.put, List.setIfInBounds_toArray, List.set_cons_zero, List.set_cons_succ, List.getElem_toArray, List.getElem_cons_zero, List.getElem_cons_succ]
        obtain ⟨t4, ht⟩ : ∃ t, t = t1.alloc (fB 0 0 (.slice none 0 0)) := ⟨_, rfl⟩
        change wpAnyH _ _ _ _ _ _ _ _ (t1.alloc (fB 0 0 (.slice none 0 0)))
        rw [← ht]
        have Bt4 := Lib.hid (show Below X.heap.size X t4 by rw [ht]; exact Bt1.out.alloc Bt1.out.size _)
        have Gt4 := Lib.hid (show t4.heap[t1.heap.size]? = some (fB 0 0 (.slice none 0 0)) by rw [ht]; exact new_at1 _ _)
        have hge : X.heap.size ≤ t1.heap.size := Bt1.out.size
        have hS : ∃ x : Grow X, t4 = x.w := ⟨⟨t4, Bt4.out⟩, rfl⟩
        clear ht
        refine wpAnyH_ready (rs := [6]) (by kernel_rfl) (by simp) ?_
        refine AllReadyH.cons rfl (fun K hK => ?_) AllReadyH.nil
        go_simp
        with_reducible refine (HH.out _).mono ?_
        rintro e t5 ⟨rfl, hb⟩
        have Bt5 := Lib.hid (bstep Bt4.out Bt4.out.size hb)
        have Gt5 := Lib.hid ((hb.block _ (Array.getElem?_eq_some_iff.1 Gt4.out).1).trans Gt4.out)
        clear hb
        refine hK.out _ _ ⟨⟨_, Bt5.out⟩, rfl⟩ (fun hS => ?_)
        clear hK K
        try simp only [Act.put, List.setIfInBounds_toArray, List.set_cons_zero, List.set_cons_succ, List.getElem_toArray, List.getElem_cons_zero, List.getElem_cons_succ]
        refine wpAnyH_take (i := 7) (v := .int .i64 H) rfl (by kernel_rfl) (by kernel_rfl) (by kernel_rfl) (fun _ _ _ h => h) (Or.inl ⟨by rfl, fun w hw => by obtain ⟨x, rfl⟩ := hw; go_simp⟩) hS ?_
        try simp only [Act.put, List.setIfInBounds_toArray, List.set_cons_zero, List.set_cons_succ, List.getElem_toArray, List.getElem_cons_zero, List.getElem_cons_succ]
        refine wpAnyH_take (i := 8) (v := .agg #[.int .i64 W, .int .i64 H, .slice none 0 0]) rfl (by kernel_rfl) (by kernel_rfl) (by kernel_rfl) (fun _ _ _ h => h) (Or.inl ⟨by rfl, fun w hw => by obtain ⟨x, rfl⟩ := hw; go_simp⟩) hS ?_
        try simp only [Act.put, List.setIfInBounds_toArray, List.set_cons_zero, List.set_cons_succ, List.getElem_toArray, List.getElem_cons_zero, List.getElem_cons_succ]
        have ff := fB_cell Gt5.out
        have fg := fB_free Gt5.out
        obtain ⟨i0', i1, i2⟩ := ff
        obtain ⟨j0, j1, j2⟩ := fg
        have BL := Lib.hid (show Below X.heap.size X ((((t5.setCell ⟨t1.heap.size, 0, none⟩ (.int .i64 W)).setCell ⟨t1.heap.size, 1, none⟩ (.int .i64 H)).setCell ⟨t1.heap.size, 2, none⟩ (.slice none 0 0))) from (((Bt5.out.setCell hge _).setCell hge _).setCell hge _))
        have ZL := Lib.hid (fB_set3 W H (.slice none 0 0) Gt5.out)
        refine wpAnyH_ready (rs := [10]) (by kernel_rfl) (by simp) ?_
        refine AllReadyH.cons rfl (fun K hK => ?_) AllReadyH.nil
        go_simp
        refine hK.out _ _ ⟨⟨_, BL.out⟩, rfl⟩ (fun hS => ?_)
        clear hK K hS
        try simp only [Act.put, List.setIfInBounds_toArray, List.set_cons_zero, List.set_cons_succ, List.getElem_toArray, List.getElem_cons_zero, List.getElem_cons_succ]
        refine wpAnyH_done (by kernel_rfl) ?_ _
        go_wp2_with fail
        go_meet
        exact ⟨_, rfl, hge, BL.out, ZL.out⟩
      exact AllReadyH.nil
    refine AllReadyH.cons rfl (fun K hK => ?_) ?_
    · skip
      go_simp
      refine hK.out _ _ ⟨⟨_, BY.out.alloc BY.out.size _⟩, rfl⟩ (fun hS => ?_)
      clear hK K hS
      try simp only [Act.put, List.setIfInBounds_toArray, List.set_cons_zero, List.set_cons_succ, List.getElem_toArray, List.getElem_cons_zero, List.getElem_cons_succ]
      obtain ⟨t6, ht⟩ : ∃ t, t = Y.alloc (fB 0 0 (.slice none 0 0)) := ⟨_, rfl⟩
      change wpAnyH _ _ _ _ _ _ _ _ (Y.alloc (fB 0 0 (.slice none 0 0)))
      rw [← ht]
      have Bt6 := Lib.hid (show Below X.heap.size X t6 by rw [ht]; exact BY.out.alloc BY.out.size _)
      have Gt6 := Lib.hid (show t6.heap[Y.heap.size]? = some (fB 0 0 (.slice none 0 0)) by rw [ht]; exact new_at1 _ _)
      have hge : X.heap.size ≤ Y.heap.size := BY.out.size
      have hS : ∃ x : Grow X, t6 = x.w := ⟨⟨t6, Bt6.out⟩, rfl⟩
      clear ht
      refine wpAnyH_ready (rs := [2]) (by kernel_rfl) (by simp) ?_
      refine AllReadyH.cons rfl (fun K hK => ?_) AllReadyH.nil
      go_simp
      with_reducible refine (HW.out _).mono ?_
      rintro e t7 ⟨rfl, hb⟩
      have Bt7 := Lib.hid (bstep Bt6.out Bt6.out.size hb)
      have Gt7 := Lib.hid ((hb.block _ (Array.getElem?_eq_some_iff.1 Gt6.out).1).trans Gt6.out)
      clear hb
      refine hK.out _ _ ⟨⟨_, Bt7.out⟩, rfl⟩ (fun hS => ?_)
      clear hK K
      try simp only [Act.put, List.setIfInBounds_toArray, List.set_cons_zero, List.set_cons_succ, List.getElem_toArray, List.getElem_cons_zero, List.getElem_cons_succ]
      refine wpAnyH_take (i := 3) (v := .int .i64 W) rfl (by kernel_rfl) (by kernel_rfl) (by kernel_rfl) (fun _ _ _ h => h) (Or.inl ⟨by rfl, fun w hw => by obtain ⟨x, rfl⟩ := hw; go_simp⟩) hS ?_
      try simp only [Act.put, List.setIfInBounds_toArray, List.set_cons_zero, List.set_cons_succ, List.getElem_toArray, List.getElem_cons_zero, List.getElem_cons_succ]
      refine wpAnyH_ready (rs := [6]) (by kernel_rfl) (by simp) ?_
      refine AllReadyH.cons rfl (fun K hK => ?_) AllReadyH.nil
      go_simp
      with_reducible refine (HH.out _).mono ?_
      rintro e t8 ⟨rfl, hb⟩
      have Bt8 := Lib.hid (bstep Bt7.out Bt7.out.size hb)
      have Gt8 := Lib.hid ((hb.block _ (Array.getElem?_eq_some_iff.1 Gt7.out).1).trans Gt7.out)
      clear hb
      refine hK.out _ _ ⟨⟨_, Bt8.out⟩, rfl⟩ (fun hS => ?_)
      clear hK K
      try simp only [Act.put, List.setIfInBounds_toArray, List.set_cons_zero, List.set_cons_succ, List.getElem_toArray, List.getElem_cons_zero, List.getElem_cons_succ]
      refine wpAnyH_take (i := 7) (v := .int .i64 H) rfl (by kernel_rfl) (by kernel_rfl) (by kernel_rfl) (fun _ _ _ h => h) (Or.inl ⟨by rfl, fun w hw => by obtain ⟨x, rfl⟩ := hw; go_simp⟩) hS ?_
      try simp only [Act.put, List.setIfInBounds_toArray, List.set_cons_zero, List.set_cons_succ, List.getElem_toArray, List.getElem_cons_zero, List.getElem_cons_succ]
      refine wpAnyH_take (i := 8) (v := .agg #[.int .i64 W, .int .i64 H, .slice none 0 0]) rfl (by kernel_rfl) (by kernel_rfl) (by kernel_rfl) (fun _ _ _ h => h) (Or.inl ⟨by rfl, fun w hw => by obtain ⟨x, rfl⟩ := hw; go_simp⟩) hS ?_
      try simp only [Act.put, List.setIfInBounds_toArray, List.set_cons_zero, List.set_cons_succ, List.getElem_toArray, List.getElem_cons_zero, List.getElem_cons_succ]
      have ff := fB_cell Gt8.out
      have fg := fB_free Gt8.out
      obtain ⟨i0', i1, i2⟩ := ff
      obtain ⟨j0, j1, j2⟩ := fg
      have BL := Lib.hid (show Below X.heap.size X ((((t8.setCell ⟨Y.heap.size, 0, none⟩ (.int .i64 W)).setCell ⟨Y.heap.size, 1, none⟩ (.int .i64 H)).setCell ⟨Y.heap.size, 2, none⟩ (.slice none 0 0))) from (((Bt8.out.setCell hge _).setCell hge _).setCell hge _))
      have ZL := Lib.hid (fB_set3 W H (.slice none 0 0) Gt8.out)
      refine wpAnyH_ready (rs := [10]) (by kernel_rfl) (by simp) ?_
      refine AllReadyH.cons rfl (fun K hK => ?_) AllReadyH.nil
      go_simp
      refine hK.out _ _ ⟨⟨_, BL.out⟩, rfl⟩ (fun hS => ?_)
      clear hK K hS
      try simp only [Act.put, List.setIfInBounds_toArray, List.set_cons_zero, List.set_cons_succ, List.getElem_toArray, List.getElem_cons_zero, List.getElem_cons_succ]
      refine wpAnyH_done (by kernel_rfl) ?_ _
      go_wp2_with fail
      go_meet
      exact ⟨_, rfl, hge, BL.out, ZL.out⟩
    exact AllReadyH.nil
  case rest =>
  rename World => V
  obtain ⟨g, rfl, hge, BV, ZV⟩ := hcut
  have BV := Lib.hid BV
  have GV := Lib.hid ZV
  have glt := fB_lt ZV
  have TV := Lib.hid (txB_grow TX.out BV.out)
  have ZR := Lib.hid (fB_keep ZX.out BV.out (fB_lt ZX.out))
  have HV := Lib.hid (bstep H0.out H0.out.size BV.out)
  have l0 : w.heap.size + 1 < X.heap.size := fB_lt ZX.out
  clear BV ZV TX H0 HW HH ZX wp wq
  go_wp2_with fail
  go_loopw [4] (fun i wr => ∃ (k : Nat) (v : Value), (k : Int) ≤ n ∧ i = .int .i64 k ∧ V.heap.size ≤ wr.heap.size ∧ Below w.heap.size w wr ∧ wr.heap[w.heap.size]? = some (txB t A c) ∧ wr.heap[w.heap.size + 1]? = some (fB 0 0 (.slice none 0 0)) ∧ wr.heap[g]? = some (fB W H v) ∧ OwnE EC wr V.heap.size v ((List.range k).map (fitC t.px)))
    (fun i _ => n.toNat - (intOf i).toNat)
  case atStart => exact ⟨0, _, by omega, rfl, Nat.le_refl _, HV.out, TV.out, ZR.out, GV.out, OwnE.nil _ _⟩
  case round =>
    obtain ⟨k, v, hk, rfl, hsz, hB, hT, hR, hG, hO⟩ := hrel
    have HB := Lib.hid hB
    have HT := Lib.hid hT
    have HR := Lib.hid hR
    have HG := Lib.hid hG
    obtain ⟨A1, c1, rfl⟩ := hO.form
    have HO := Lib.hid hO
    obtain ⟨e0, e1, e2⟩ := fB_cell hG
    obtain ⟨f0, f1, f2⟩ := fB_free hG
    have hglt := fB_lt hG
    have l1 : w.heap.size < wr.heap.size := txB_lt hT
    have l2 : w.heap.size + 1 < wr.heap.size := fB_lt hR
    clear hB hT hR hG hO
    by_cases hlt : (k : Int) < n
    · obtain ⟨u, hu⟩ : ∃ u, fitC t.px k = u := ⟨_, rfl⟩
      have HS := Lib.hid (show (List.range (k + 1)).map (fitC t.px) = (List.range k).map (fitC t.px) ++ [u] by rw [range_snoc, hu])
      have hcl : ((List.range k).map (fitC t.px)).length = k := by simp
      generalize (List.range k).map (fitC t.px) = cs at *
      have HC := Lib.hid hcl
      have hc256 : cs.length ≤ 256 := by omega
      clear hcl
      obtain ⟨d0, d1, d2⟩ := txB_cell HT.out
      have g8 : IntKind.u8.wrap ((k : Int) * 16) = ((k : Int) * 16) % 256 := by rw [IntKind.wrap_u8]
      have g9 : IntKind.u8.wrap (k : Int) = (k : Int) % 256 := by rw [IntKind.wrap_u8]
      have O2 := Lib.hid (HO.out.alloc (.cells #[.int .u8 u.r, .int .u8 u.g, .int .u8 u.b, .int .u8 u.a] 23))
      by_cases hlp : (k : Int) < (t.px.length : Int)
      · have hpk : t.px[k]? = some u := by
          have h := List.getElem?_eq_getElem (l := t.px) (i := k) (by omega)
          rw [← hu]
          unfold fitC
          rw [List.getD_eq_getElem?_getD, h]
          rfl
        obtain ⟨b, off, rfl, hbB, hat⟩ := HE.out.at hpk
        obtain ⟨c0, c1', c2, c3⟩ := atC (show AtE EC wr b (off + k * 4) u from hat.below HB.out hbB)
        have hbw := Nat.lt_of_lt_of_le hbB HB.out.size
        clear hat hpk hu
        go_wp2_with (at_builtin; refine wpList_append_own _ rfl _ _ 51 rfl V.heap.size 23 i0 _ 4 4 Try.underlying51 HI.out HZ.out.1 HZ.out.2.1 HZ.out.2.2 (by kernel_rfl) (by decide) _ _ (EC.flat cs) rfl (O2.out.alloc _).row _ 1 1 (EC.cells u) rfl rfl (newC_at (by simp)) (EC.one _) (by unfold maxLen; omega) (by omega) (by simp; omega) ?_; intro v' w6 hown' hgrow _; obtain ⟨ho6, hb6⟩ := append_ofE (E := EC) (x := u) O2.out (by simp; omega) hown' hgrow; obtain ⟨A2, c2', rfl⟩ := ho6.form; have O6 := Lib.hid ho6; have B6 := Lib.hid hb6; have F6 := fB_free ((hb6.block g (by omega)).trans (new_keep _ HG.out)); obtain ⟨q0, q1, q2⟩ := F6; have E6 := fB_cell ((hb6.block g (by omega)).trans (new_keep _ HG.out)); obtain ⟨r0, r1, r2⟩ := E6; clear hown' hgrow ho6 hb6)
        go_roundw
        case rel =>
          have hWV : w.heap.size ≤ V.heap.size := HV.out.size
          have hg0 : w.heap.size + 1 < g := by omega
          refine ⟨k + 1, .slice A2 (cs.length + 1) c2', by omega, by go_num, by have := B6.out.size; simp at this ⊢; omega, ((HB.out.alloc HB.out.size _).trans (B6.out.mono hWV)).setCell (by simp; omega) _, ?_, ?_, ?_, ?_⟩
          · rw [heap_setCell_other _ _ _ _ (by simp; omega)]; exact (B6.out.block _ (by omega)).trans (new_keep _ HT.out)
          · rw [heap_setCell_other _ _ _ _ (by simp; omega)]; exact (B6.out.block _ (by omega)).trans (new_keep _ HR.out)
          · exact fB_set2 _ ((B6.out.block _ (by omega)).trans (new_keep _ HG.out))
          · rw [HS.out]; have h := O6.out; rw [List.length_append] at h; exact h.setCell glt
        case measure => simp [intOf]; omega
      · have hpk : u = ⟨((k : Int) * 16) % 256, (k : Int) % 256, 7, 255⟩ := by
          rw [← hu]
          unfold fitC
          rw [List.getD_eq_getElem?_getD, List.getElem?_eq_none (by omega)]
          rfl
        obtain ⟨ur, hur⟩ : ∃ ur, ((k : Int) * 16) % 256 = ur := ⟨_, rfl⟩
        obtain ⟨ug, hug⟩ : ∃ ug, (k : Int) % 256 = ug := ⟨_, rfl⟩
        rw [hur] at hpk g8
        rw [hug] at hpk g9
        have e3 : u.r = ur ∧ u.g = ug ∧ u.b = 7 ∧ u.a = 255 := by rw [hpk]; exact ⟨rfl, rfl, rfl, rfl⟩
        obtain ⟨er, eg, eb, ea⟩ := e3
        have O2 := Lib.hid (HO.out.alloc (.cells #[.int .u8 ur, .int .u8 ug, .int .u8 7, .int .u8 255] 23))
        have NC := Lib.hid (fun (w : World) (g : Nat) (hg : g = w.heap.size) => newC_at (u := u) hg)
        rw [er, eg, eb, ea] at NC
        clear hu hur hug hpk er eg eb ea
        go_wp2_with (at_builtin; refine wpList_append_own _ rfl _ _ 51 rfl V.heap.size 23 i0 _ 4 4 Try.underlying51 HI.out HZ.out.1 HZ.out.2.1 HZ.out.2.2 (by kernel_rfl) (by decide) _ _ (EC.flat cs) rfl (O2.out.alloc _).row _ 1 1 (EC.cells u) rfl rfl (NC.out _ _ (by simp)) (EC.one _) (by unfold maxLen; omega) (by omega) (by simp; omega) ?_; intro v' w6 hown' hgrow _; obtain ⟨ho6, hb6⟩ := append_ofE (E := EC) (x := u) O2.out (by simp; omega) hown' hgrow; obtain ⟨A2, c2', rfl⟩ := ho6.form; have O6 := Lib.hid ho6; have B6 := Lib.hid hb6; have F6 := fB_free ((hb6.block g (by omega)).trans (new_keep _ HG.out)); obtain ⟨q0, q1, q2⟩ := F6; have E6 := fB_cell ((hb6.block g (by omega)).trans (new_keep _ HG.out)); obtain ⟨r0, r1, r2⟩ := E6; clear hown' hgrow ho6 hb6)
        go_roundw
        case rel =>
          have hWV : w.heap.size ≤ V.heap.size := HV.out.size
          have hg0 : w.heap.size + 1 < g := by omega
          refine ⟨k + 1, .slice A2 (cs.length + 1) c2', by omega, by go_num, by have := B6.out.size; simp at this ⊢; omega, ((HB.out.alloc HB.out.size _).trans (B6.out.mono hWV)).setCell (by simp; omega) _, ?_, ?_, ?_, ?_⟩
          · rw [heap_setCell_other _ _ _ _ (by simp; omega)]; exact (B6.out.block _ (by omega)).trans (new_keep _ HT.out)
          · rw [heap_setCell_other _ _ _ _ (by simp; omega)]; exact (B6.out.block _ (by omega)).trans (new_keep _ HR.out)
          · exact fB_set2 _ ((B6.out.block _ (by omega)).trans (new_keep _ HG.out))
          · rw [HS.out]; have h := O6.out; rw [List.length_append] at h; exact h.setCell glt
        case measure => simp [intOf]; omega
    · obtain rfl : n = (k : Int) := by omega
      obtain ⟨k0, k1, k2⟩ := fB_cell HR.out
      obtain ⟨j0, j1, j2⟩ := fB_free HR.out
      have hcl : ((List.range k).map (fitC t.px)).length = k := by simp
      have hpx := HPX.out
      rw [Int.toNat_natCast] at hpx
      rw [← hpx] at HO e2
      have hzw : w.heap.size ≤ V.heap.size := HV.out.size
      have hzl : w.heap.size + 1 < V.heap.size := by omega
      clear hpx hcl
      go_wp2
      refine bodyPost_ret (v := .agg #[.int .i64 W, .int .i64 H, .slice A1 PX.length c1]) (by simp [results, Try.results21, go_sem, *]) rfl ⟨A1, c1, rfl, ?_, ?_, ?_, ?_⟩
      · obtain ⟨A', c', e, hl, -, -⟩ := HO.out.es
        cases e
        exact hl
      · obtain ⟨A', c', e, -, -, hs⟩ := (((HO.out.setCell (o := 0) (u := .int .i64 W) hzl).setCell (o := 1) (u := .int .i64 H) hzl).setCell (o := 2) (u := .slice A1 PX.length c1) hzl).es
        cases e
        exact hs
      · exact (((HO.out.setCell (o := 0) (u := .int .i64 W) hzl).setCell (o := 1) (u := .int .i64 H) hzl).setCell (o := 2) (u := .slice A1 PX.length c1) hzl).less hzw
      · exact ((HB.out.setCell (by simp) _).setCell (by simp) _).setCell (by simp) _
end Go.Proofs.Ytnpcmoeleigpoaa
