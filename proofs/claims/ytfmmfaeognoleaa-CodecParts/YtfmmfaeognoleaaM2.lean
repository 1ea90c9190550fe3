/-
  The contract of the reference's Fit: a picture that may be, of any one.
-/
import Derived.Test.YtfmmfaeognoleaaM1
import Derived.Lib.MinMax
namespace Go.Proofs.Ytfmmfaeognoleaa
open Go.RowKit
attribute [local go_sem ↓] Go.wp_at_zero Go.wp_at_succ

/-- A block of two sides and a slice. -/
def fB (W H : Int) (v : Value) : Obj := .cells #[.int .i64 W, .int .i64 H, v] 49 (0, 0)
theorem fB_cell {w : World} {g : Nat} {W H : Int} {v : Value} (h : w.heap[g]? = some (fB W H v)) : w.cell? ⟨g, 0, none⟩ = some (.int .i64 W) ∧ w.cell? ⟨g, 1, none⟩ = some (.int .i64 H) ∧ w.cell? ⟨g, 2, none⟩ = some v := by
  unfold fB at h
  exact ⟨Joins.cell_of_block h 0, Joins.cell_of_block h 1, Joins.cell_of_block h 2⟩
theorem fB_free {w : World} {g : Nat} {W H : Int} {v : Value} (h : w.heap[g]? = some (fB W H v)) : w.frozen? ⟨g, 0, none⟩ = false ∧ w.frozen? ⟨g, 1, none⟩ = false ∧ w.frozen? ⟨g, 2, none⟩ = false := by
  unfold fB at h
  refine ⟨?_, ?_, ?_⟩ <;> simp [World.frozen?, h]
theorem fB_lt {w : World} {g : Nat} {W H : Int} {v : Value} (h : w.heap[g]? = some (fB W H v)) : g < w.heap.size := (Array.getElem?_eq_some_iff.1 h).1
theorem fB_keep {w w' : World} {B g : Nat} {W H : Int} {v : Value} (h : w.heap[g]? = some (fB W H v)) (k : Below B w w') (hg : g < B) : w'.heap[g]? = some (fB W H v) := (k.block _ hg).trans h
theorem fB_set2 {w : World} {g : Nat} {W H : Int} {v : Value} (u : Value) (h : w.heap[g]? = some (fB W H v)) : (w.setCell ⟨g, 2, none⟩ u).heap[g]? = some (fB W H u) := by
  unfold fB at h
  rw [heap_setCell_same _ _ _ _ _ _ h]
  simp [fB]
theorem fB_set3 {w : World} {g : Nat} {W H : Int} {v : Value} (X Y : Int) (u : Value) (h : w.heap[g]? = some (fB W H v)) : (((w.setCell ⟨g, 0, none⟩ (.int .i64 X)).setCell ⟨g, 1, none⟩ (.int .i64 Y)).setCell ⟨g, 2, none⟩ u).heap[g]? = some (fB X Y u) := by
  unfold fB at h
  rw [heap_setCell_same _ _ _ _ _ _ (heap_setCell_same _ _ _ _ _ _ (heap_setCell_same _ _ _ _ _ _ h))]
  simp [fB]
theorem OwnE.setCell {α : Type} {E : Elem α} {w : World} {base g o : Nat} {v u : Value} {xs : List α} (h : OwnE E w base v xs) (hg : g < base) : OwnE E (w.setCell ⟨g, o, none⟩ u) base v xs := by
  obtain ⟨hl, h2⟩ := h
  refine ⟨hl, ?_⟩
  rcases h2 with h2 | ⟨j, cap, cur, rfl, hj, hh, hr⟩
  · exact .inl h2
  · exact .inr ⟨j, cap, cur, rfl, hj, by rw [heap_setCell_other _ _ _ _ (by simp; omega)]; exact hh, hr⟩
theorem OwnE.up (w : World) {α : Type} {E : Elem α} {w' : World} {base : Nat} {v : Value} {xs : List α} (h : OwnE E w base v xs) (hb : Below w.heap.size w w') : OwnE E w' base v xs := h.keep hb
theorem Try.info27 : (Try.prog.info? 27).map (fun i => (i.zero, i.size, i.bytes)) = some (some (.agg (Array.replicate 4 (.int .u8 0))), 4, 4) := by kernel_rfl
theorem info_parts {t : TypeId} {x : Option Value} {s b : Nat} (h : (Try.prog.info? t).map (fun i => (i.zero, i.size, i.bytes)) = some (x, s, b)) : ∃ i, Try.prog.info? t = some i ∧ i.zero = x ∧ i.size = s ∧ i.bytes = b := by
  cases e : Try.prog.info? t with
  | none => rw [e] at h; cases h
  | some i => rw [e] at h; cases h; exact ⟨i, rfl, rfl, rfl, rfl⟩

/-- The colour that Fit puts at a place. -/
def fitC (px : List Col) (i : Nat) : Col := px.getD i ⟨((i : Int) * 16) % 256, (i : Int) % 256, 7, 255⟩
def fitT (t : Tx) : Tx := ⟨1 + t.w % 16, 1 + t.h % 16, (List.range ((1 + t.w % 16) * (1 + t.h % 16)).toNat).map (fitC t.px)⟩
theorem fitC_ok {px : List Col} (h : ∀ c ∈ px, c.ok) (i : Nat) : (fitC px i).ok := by
  unfold fitC
  rw [List.getD_eq_getElem?_getD]
  cases e : px[i]? with
  | none => unfold Col.ok; simp; omega
  | some c => exact h c (List.mem_of_getElem? e)
theorem fitT_ok {t : Tx} (h : t.ok) : (fitT t).ok := by
  intro c hc
  unfold fitT at hc
  obtain ⟨i, _, rfl⟩ := List.mem_map.1 hc
  exact fitC_ok h i
theorem fitT_sides (t : Tx) : 1 ≤ (fitT t).w ∧ (fitT t).w ≤ 16 ∧ 1 ≤ (fitT t).h ∧ (fitT t).h ≤ 16 := by
  unfold fitT
  dsimp only
  omega
theorem fitT_len (t : Tx) : ((fitT t).px.length : Int) = (fitT t).w * (fitT t).h := by
  obtain ⟨a, b, c, d⟩ := fitT_sides t
  have h := area_bd a b c d rfl
  unfold fitT at h ⊢
  dsimp only at h ⊢
  rw [List.length_map, List.length_range]
  omega
theorem fitT_right (t : Tx) : (fitT t).right = true := by
  obtain ⟨a, b, c, d⟩ := fitT_sides t
  exact Tx.right_of ⟨a, b, c, d, fitT_len t⟩
theorem new_keep {w : World} {g : Nat} {x : Obj} (o : Obj) (h : w.heap[g]? = some x) : (w.alloc o).heap[g]? = some x := by
  rw [Below.heap_alloc _ _ _ (Array.getElem?_eq_some_iff.1 h).1]
  exact h
theorem newC_at {w : World} {u : Col} {g : Nat} (hg : g = w.heap.size) : ∀ j x, (EC.cells u)[j]? = some x → (w.alloc (.cells #[.int .u8 u.r, .int .u8 u.g, .int .u8 u.b, .int .u8 u.a] 27)).cell? ((⟨g, 0, none⟩ : Addr).add j) = some x := by
  subst hg
  exact new_el (E := EC) w u _ rfl
theorem range_snoc (f : Nat → Col) (k : Nat) : (List.range (k + 1)).map f = (List.range k).map f ++ [f k] := by rw [List.range_succ, List.map_append]; rfl

set_option maxRecDepth 100000 in
set_option maxHeartbeats 4000000 in
theorem fit_any (t : Tx) (A : Option Addr) (c : Nat) (w : World) (hw : I64 t.w) (hh : I64 t.h) (he : Es EC w w.heap.size A t.px) :
    Calls Try.prog 24 #[.agg #[.int .i64 t.w, .int .i64 t.h, .slice A t.px.length c]] w fun e w' => ∃ A' c', e = .returned (.agg #[.int .i64 (fitT t).w, .int .i64 (fitT t).h, .slice A' (fitT t).px.length c']) ∧ (fitT t).px.length ≤ c' ∧ Es EC w' w'.heap.size A' (fitT t).px ∧ OwnE EC w' w.heap.size (.slice A' (fitT t).px.length c') (fitT t).px ∧ Below w.heap.size w w' := by
  obtain ⟨i0, hi, hz0, hz1, hz2⟩ := info_parts Try.info27
  have HI := Lib.hid hi
  have HZ := Lib.hid (And.intro hz0 (And.intro hz1 hz2))
  have HW := Lib.hid (rwrap_any t.w 16 hw (by decide) (by decide))
  have HH := Lib.hid (rwrap_any t.h 16 hh (by decide) (by decide))
  obtain ⟨a0, a1, b0, b1⟩ := fitT_sides t
  obtain ⟨n, hn⟩ : ∃ n, (fitT t).w * (fitT t).h = n := ⟨_, rfl⟩
  have hlen := fitT_len t
  obtain ⟨n0, n1⟩ := area_bd a0 a1 b0 b1 hn
  have HPX := Lib.hid (show (fitT t).px = (List.range n.toNat).map (fitC t.px) by rw [← hn]; rfl)
  have eW : 1 + t.w % 16 = (fitT t).w := rfl
  have eH : 1 + t.h % 16 = (fitT t).h := rfl
  rw [hn] at hlen
  have HE := Lib.hid he
  have HL := Lib.hid hlen
  generalize (fitT t).w = W at *
  generalize (fitT t).h = H at *
  generalize (fitT t).px = PX at *
  obtain ⟨p, hp⟩ : ∃ p, t.w % 16 = p := ⟨_, rfl⟩
  obtain ⟨q, hq⟩ : ∃ q, t.h % 16 = q := ⟨_, rfl⟩
  rw [hp] at HW eW
  rw [hq] at HH eH
  have wn : IntKind.i64.wrap (W * H) = n := by rw [hn, IntKind.wrap_i64]; omega
  have wp : IntKind.i64.wrap (1 + p) = W := by rw [IntKind.wrap_i64]; omega
  have wq : IntKind.i64.wrap (1 + q) = H := by rw [IntKind.wrap_i64]; omega
  clear hi hz0 hz1 hz2 hw hh hn hlen he hp hq eW eH
  go_enter Try.func24, Try.ntmps24
  go_wp2_with fail
  have h0 : Below w.heap.size w ((w.alloc (.cells #[.int .i64 t.w, .int .i64 t.h, .slice A t.px.length c] 49)).alloc (.cells #[.int .i64 0, .int .i64 0, .slice none 0 0] 49)) := ((Below.refl _ _).alloc (Nat.le_refl _) _).alloc (by simp) _
  have H0 := Lib.hid h0
  have TX := Lib.hid (show ((w.alloc (.cells #[.int .i64 t.w, .int .i64 t.h, .slice A t.px.length c] 49)).alloc (.cells #[.int .i64 0, .int .i64 0, .slice none 0 0] 49)).heap[w.heap.size]? = some (txB t A c) from new_at20 _ _ _)
  have ZX := Lib.hid (show ((w.alloc (.cells #[.int .i64 t.w, .int .i64 t.h, .slice A t.px.length c] 49)).alloc (.cells #[.int .i64 0, .int .i64 0, .slice none 0 0] 49)).heap[w.heap.size + 1]? = some (fB 0 0 (.slice none 0 0)) from new_at2 _ _ _)
  clear h0
  generalize (w.alloc (.cells #[.int .i64 t.w, .int .i64 t.h, .slice A t.px.length c] 49)).alloc (.cells #[.int .i64 0, .int .i64 0, .slice none 0 0] 49) = X at *
  go_cut [3] from 6 to 15 (fun s Xc => ∃ h, s = .pointer (some ⟨h, 0, none⟩) ∧ X.heap.size ≤ h ∧ Below X.heap.size X Xc ∧ Xc.heap[h]? = some (fB W H (.slice none 0 0)))
  case first =>
    have d0 := txB_cell TX.out
    have y0 : ∀ x : Grow X, x.w.cell? ⟨w.heap.size, 0, none⟩ = some (.int .i64 t.w) := fun x => x.cell d0.1
    have y1 : ∀ x : Grow X, x.w.cell? ⟨w.heap.size, 1, none⟩ = some (.int .i64 t.h) := fun x => x.cell d0.2.1
    refine wp_region_held_drew (S := fun w' => ∃ x : Grow X, w' = x.w) (by kernel_rfl) ⟨⟨_, (Below.refl _ _).drew⟩, rfl⟩ (fun hS => ?_)
    have BY := Lib.hid (show Below X.heap.size X X.drew from (Below.refl _ _).drew)
    generalize X.drew = Y at *
    clear d0
    refine wpAnyH_take (i := 0) (v := .pointer (some ⟨w.heap.size, 0, none⟩)) rfl (by kernel_rfl) (by kernel_rfl) (by kernel_rfl) (fun _ _ _ h => h) (Or.inl ⟨by rfl, fun w hw => by obtain ⟨x, rfl⟩ := hw; go_simp⟩) hS ?_
    try simp only [Act.put, List.setIfInBounds_toArray, List.set_cons_zero, List.set_cons_succ, List.getElem_toArray, List.getElem_cons_zero]
    refine wpAnyH_take (i := 1) (v := .int .i64 t.w) rfl (by kernel_rfl) (by kernel_rfl) (by kernel_rfl) (fun _ _ _ h => h) (Or.inl ⟨by rfl, fun w hw => by obtain ⟨x, rfl⟩ := hw; go_simp⟩) hS ?_
    try simp only [Act.put, List.setIfInBounds_toArray, List.set_cons_zero, List.set_cons_succ, List.getElem_toArray, List.getElem_cons_zero, List.getElem_cons_succ]
    refine wpAnyH_take (i := 4) (v := .pointer (some ⟨w.heap.size, 1, none⟩)) rfl (by kernel_rfl) (by kernel_rfl) (by kernel_rfl) (fun _ _ _ h => h) (Or.inl ⟨by rfl, fun w hw => by obtain ⟨x, rfl⟩ := hw; go_simp⟩) hS ?_
    try simp only [Act.put, List.setIfInBounds_toArray, List.set_cons_zero, List.set_cons_succ, List.getElem_toArray, List.getElem_cons_zero, List.getElem_cons_succ]
    refine wpAnyH_take (i := 5) (v := .int .i64 t.h) rfl (by kernel_rfl) (by kernel_rfl) (by kernel_rfl) (fun _ _ _ h => h) (Or.inl ⟨by rfl, fun w hw => by obtain ⟨x, rfl⟩ := hw; go_simp⟩) hS ?_
    try simp only [Act.put, List.setIfInBounds_toArray, List.set_cons_zero, List.set_cons_succ, List.getElem_toArray, List.getElem_cons_zero, List.getElem_cons_succ]
    refine wpAnyH_ready (rs := [2, 9]) (by kernel_rfl) (by simp) ?_
    refine AllReadyH.cons rfl (fun K hK => ?_) ?_
    · skip
      go_simp
      with_reducible refine (HW.out _).mono ?_
      rintro e t1 ⟨rfl, hb⟩
      have Bt1 := Lib.hid (bstep BY.out BY.out.size hb)
      clear hb
      refine hK.out _ _ ⟨⟨_, Bt1.out⟩, rfl⟩ (fun hS => ?_)
      clear hK K
      try simp only [Act.put, List.setIfInBounds_toArray, List.set_cons_zero, List.set_cons_succ, List.getElem_toArray, List.getElem_cons_zero, List.getElem_cons_succ]
      refine wpAnyH_take (i := 3) (v := .int .i64 W) rfl (by kernel_rfl) (by kernel_rfl) (by kernel_rfl) (fun _ _ _ h => h) (Or.inl ⟨by rfl, fun w hw => by obtain ⟨x, rfl⟩ := hw; go_simp⟩) hS ?_
      try simp only [Act.put, List.setIfInBounds_toArray, List.set_cons_zero, List.set_cons_succ, List.getElem_toArray, List.getElem_cons_zero, List.getElem_cons_succ]
      refine wpAnyH_ready (rs := [6, 9]) (by kernel_rfl) (by simp) ?_
      refine AllReadyH.cons rfl (fun K hK => ?_) ?_
      · skip
        go_simp
        with_reducible refine (HH.out _).mono ?_
        rintro e t2 ⟨rfl, hb⟩
        have Bt2 := Lib.hid (bstep Bt1.out Bt1.out.size hb)
        clear hb
        refine hK.out _ _ ⟨⟨_, Bt2.out⟩, rfl⟩ (fun hS => ?_)
        clear hK K
        try simp only [Act.put, List.setIfInBounds_toArray, List.set_cons_zero, List.set_cons_succ, List.getElem_toArray, List.getElem_cons_zero, List.getElem_cons_succ]
        refine wpAnyH_take (i := 7) (v := .int .i64 H) rfl (by kernel_rfl) (by kernel_rfl) (by kernel_rfl) (fun _ _ _ h => h) (Or.inl ⟨by rfl, fun w hw => by obtain ⟨x, rfl⟩ := hw; go_simp⟩) hS ?_
        try simp only [Act.put, List.setIfInBounds_toArray, List.set_cons_zero, List.set_cons_succ, List.getElem_toArray, List.getElem_cons_zero, List.getElem_cons_succ]
        refine wpAnyH_take (i := 8) (v := .agg #[.int .i64 W, .int .i64 H, .slice none 0 0]) rfl (by kernel_rfl) (by kernel_rfl) (by kernel_rfl) (fun _ _ _ h => h) (Or.inl ⟨by rfl, fun w hw => by obtain ⟨x, rfl⟩ := hw; go_simp⟩) hS ?_
        try simp only [Act.put, List.setIfInBounds_toArray, List.set_cons_zero, List.set_cons_succ, List.getElem_toArray, List.getElem_cons_zero, List.getElem_cons_succ]
        refine wpAnyH_ready (rs := [9]) (by kernel_rfl) (by simp) ?_
        refine AllReadyH.cons rfl (fun K hK => ?_) AllReadyH.nil
        go_simp
        refine hK.out _ _ ⟨⟨_, Bt2.out.alloc Bt2.out.size _⟩, rfl⟩ (fun hS => ?_)
        clear hK K hS
        try simp only [Act.put, List.setIfInBounds_toArray, List.set_cons_zero, List.set_cons_succ, List.getElem_toArray, List.getElem_cons_zero, List.getElem_cons_succ]
        obtain ⟨t3, ht⟩ : ∃ t, t = t2.alloc (fB 0 0 (.slice none 0 0)) := ⟨_, rfl⟩
        change wpAnyH _ _ _ _ _ _ _ _ (t2.alloc (fB 0 0 (.slice none 0 0)))
        rw [← ht]
        have Bt3 := Lib.hid (show Below X.heap.size X t3 by rw [ht]; exact Bt2.out.alloc Bt2.out.size _)
        have Gt3 := Lib.hid (show t3.heap[t2.heap.size]? = some (fB 0 0 (.slice none 0 0)) by rw [ht]; exact new_at1 _ _)
        have hge : X.heap.size ≤ t2.heap.size := Bt2.out.size
        have hS : ∃ x : Grow X, t3 = x.w := ⟨⟨t3, Bt3.out⟩, rfl⟩
        clear ht
        have ff := fB_cell Gt3.out
        have fg := fB_free Gt3.out
        obtain ⟨i0', i1, i2⟩ := ff
        obtain ⟨j0, j1, j2⟩ := fg
        have BL := Lib.hid (show Below X.heap.size X ((((t3.setCell ⟨t2.heap.size, 0, none⟩ (.int .i64 W)).setCell ⟨t2.heap.size, 1, none⟩ (.int .i64 H)).setCell ⟨t2.heap.size, 2, none⟩ (.slice none 0 0))) from (((Bt3.out.setCell hge _).setCell hge _).setCell hge _))
        have ZL := Lib.hid (fB_set3 W H (.slice none 0 0) Gt3.out)
        refine wpAnyH_ready (rs := [10]) (by kernel_rfl) (by simp) ?_
        refine AllReadyH.cons rfl (fun K hK => ?_) AllReadyH.nil
        go_simp
        refine hK.out _ _ ⟨⟨_, BL.out⟩, rfl⟩ (fun hS => ?_)
        clear hK K hS
        try simp only [Act.put, List.setIfInBounds_toArray, List.set_cons_zero, List.set_cons_succ, List.getElem_toArray, List.getElem_cons_zero, List.getElem_cons_succ]
        refine wpAnyH_done (by kernel_rfl) ?_ _
        go_wp2_with fail
        go_meet
        exact ⟨_, rfl, hge, BL.out, ZL.out⟩
      refine AllReadyH.cons rfl (fun K hK => ?_) ?_
      · skip
        go_simp
        refine hK.out _ _ ⟨⟨_, Bt1.out.alloc Bt1.out.size _⟩, rfl⟩ (fun hS => ?_)
        clear hK K hS
        try simp only [Act.put, List.setIfInBounds_toArray, List.set_cons_zero, List.set_cons_succ, List.getElem_toArray, List.getElem_cons_zero, List.getElem_cons_succ]
        obtain ⟨t4, ht⟩ : ∃ t, t = t1.alloc (fB 0 0 (.slice none 0 0)) := ⟨_, rfl⟩
        change wpAnyH _ _ _ _ _ _ _ _ (t1.alloc (fB 0 0 (.slice none 0 0)))
        rw [← ht]
        have Bt4 := Lib.hid (show Below X.heap.size X t4 by rw [ht]; exact Bt1.out.alloc Bt1.out.size _)
        have Gt4 := Lib.hid (show t4.heap[t1.heap.size]? = some (fB 0 0 (.slice none 0 0)) by rw [ht]; exact new_at1 _ _)
        have hge : X.heap.size ≤ t1.heap.size := Bt1.out.size
        have hS : ∃ x : Grow X, t4 = x.w := ⟨⟨t4, Bt4.out⟩, rfl⟩
        clear ht
        refine wpAnyH_ready (rs := [6]) (by kernel_rfl) (by simp) ?_
        refine AllReadyH.cons rfl (fun K hK => ?_) AllReadyH.nil
        go_simp
        with_reducible refine (HH.out _).mono ?_
        rintro e t5 ⟨rfl, hb⟩
        have Bt5 := Lib.hid (bstep Bt4.out Bt4.out.size hb)
        have Gt5 := Lib.hid ((hb.block _ (Array.getElem?_eq_some_iff.1 Gt4.out).1).trans Gt4.out)
        clear hb
        refine hK.out _ _ ⟨⟨_, Bt5.out⟩, rfl⟩ (fun hS => ?_)
        clear hK K
        try simp only [Act.put, List.setIfInBounds_toArray, List.set_cons_zero, List.set_cons_succ, List.getElem_toArray, List.getElem_cons_zero, List.getElem_cons_succ]
        refine wpAnyH_take (i := 7) (v := .int .i64 H) rfl (by kernel_rfl) (by kernel_rfl) (by kernel_rfl) (fun _ _ _ h => h) (Or.inl ⟨by rfl, fun w hw => by obtain ⟨x, rfl⟩ := hw; go_simp⟩) hS ?_
        try simp only [Act.put, List.setIfInBounds_toArray, List.set_cons_zero, List.set_cons_succ, List.getElem_toArray, List.getElem_cons_zero, List.getElem_cons_succ]
        refine wpAnyH_take (i := 8) (v := .agg #[.int .i64 W, .int .i64 H, .slice none 0 0]) rfl (by kernel_rfl) (by kernel_rfl) (by kernel_rfl) (fun _ _ _ h => h) (Or.inl ⟨by rfl, fun w hw => by obtain ⟨x, rfl⟩ := hw; go_simp⟩) hS ?_
        try simp only [Act.put, List.setIfInBounds_toArray, List.set_cons_zero, List.set_cons_succ, List.getElem_toArray, List.getElem_cons_zero, List.getElem_cons_succ]
        have ff := fB_cell Gt5.out
        have fg := fB_free Gt5.out
        obtain ⟨i0', i1, i2⟩ := ff
        obtain ⟨j0, j1, j2⟩ := fg
        have BL := Lib.hid (show Below X.heap.size X ((((t5.setCell ⟨t1.heap.size, 0, none⟩ (.int .i64 W)).setCell ⟨t1.heap.size, 1, none⟩ (.int .i64 H)).setCell ⟨t1.heap.size, 2, none⟩ (.slice none 0 0))) from (((Bt5.out.setCell hge _).setCell hge _).setCell hge _))
        have ZL := Lib.hid (fB_set3 W H (.slice none 0 0) Gt5.out)
        refine wpAnyH_ready (rs := [10]) (by kernel_rfl) (by simp) ?_
        refine AllReadyH.cons rfl (fun K hK => ?_) AllReadyH.nil
        go_simp
        refine hK.out _ _ ⟨⟨_, BL.out⟩, rfl⟩ (fun hS => ?_)
        clear hK K hS
        try simp only [Act.put, List.setIfInBounds_toArray, List.set_cons_zero, List.set_cons_succ, List.getElem_toArray, List.getElem_cons_zero, List.getElem_cons_succ]
        refine wpAnyH_done (by kernel_rfl) ?_ _
        go_wp2_with fail
        go_meet
        exact ⟨_, rfl, hge, BL.out, ZL.out⟩
      exact AllReadyH.nil
    refine AllReadyH.cons rfl (fun K hK => ?_) ?_
    · skip
      go_simp
      refine hK.out _ _ ⟨⟨_, BY.out.alloc BY.out.size _⟩, rfl⟩ (fun hS => ?_)
      clear hK K hS
      try simp only [Act.put, List.setIfInBounds_toArray, List.set_cons_zero, List.set_cons_succ, List.getElem_toArray, List.getElem_cons_zero, List.getElem_cons_succ]
      obtain ⟨t6, ht⟩ : ∃ t, t = Y.alloc (fB 0 0 (.slice none 0 0)) := ⟨_, rfl⟩
      change wpAnyH _ _ _ _ _ _ _ _ (Y.alloc (fB 0 0 (.slice none 0 0)))
      rw [← ht]
      have Bt6 := Lib.hid (show Below X.heap.size X t6 by rw [ht]; exact BY.out.alloc BY.out.size _)
      have Gt6 := Lib.hid (show t6.heap[Y.heap.size]? = some (fB 0 0 (.slice none 0 0)) by rw [ht]; exact new_at1 _ _)
      have hge : X.heap.size ≤ Y.heap.size := BY.out.size
      have hS : ∃ x : Grow X, t6 = x.w := ⟨⟨t6, Bt6.out⟩, rfl⟩
      clear ht
      refine wpAnyH_ready (rs := [2]) (by kernel_rfl) (by simp) ?_
      refine AllReadyH.cons rfl (fun K hK => ?_) AllReadyH.nil
      go_simp
      with_reducible refine (HW.out _).mono ?_
      rintro e t7 ⟨rfl, hb⟩
      have Bt7 := Lib.hid (bstep Bt6.out Bt6.out.size hb)
      have Gt7 := Lib.hid ((hb.block _ (Array.getElem?_eq_some_iff.1 Gt6.out).1).trans Gt6.out)
      clear hb
      refine hK.out _ _ ⟨⟨_, Bt7.out⟩, rfl⟩ (fun hS => ?_)
      clear hK K
      try simp only [Act.put, List.setIfInBounds_toArray, List.set_cons_zero, List.set_cons_succ, List.getElem_toArray, List.getElem_cons_zero, List.getElem_cons_succ]
      refine wpAnyH_take (i := 3) (v := .int .i64 W) rfl (by kernel_rfl) (by kernel_rfl) (by kernel_rfl) (fun _ _ _ h => h) (Or.inl ⟨by rfl, fun w hw => by obtain ⟨x, rfl⟩ := hw; go_simp⟩) hS ?_
      try simp only [Act.put, List.setIfInBounds_toArray, List.set_cons_zero, List.set_cons_succ, List.getElem_toArray, List.getElem_cons_zero, List.getElem_cons_succ]
      refine wpAnyH_ready (rs := [6]) (by kernel_rfl) (by simp) ?_
      refine AllReadyH.cons rfl (fun K hK => ?_) AllReadyH.nil
      go_simp
      with_reducible refine (HH.out _).mono ?_
      rintro e t8 ⟨rfl, hb⟩
      have Bt8 := Lib.hid (bstep Bt7.out Bt7.out.size hb)
      have Gt8 := Lib.hid ((hb.block _ (Array.getElem?_eq_some_iff.1 Gt7.out).1).trans Gt7.out)
      clear hb
      refine hK.out _ _ ⟨⟨_, Bt8.out⟩, rfl⟩ (fun hS => ?_)
      clear hK K
      try simp only [Act.put, List.setIfInBounds_toArray, List.set_cons_zero, List.set_cons_succ, List.getElem_toArray, List.getElem_cons_zero, List.getElem_cons_succ]
      refine wpAnyH_take (i := 7) (v := .int .i64 H) rfl (by kernel_rfl) (by kernel_rfl) (by kernel_rfl) (fun _ _ _ h => h) (Or.inl ⟨by rfl, fun w hw => by obtain ⟨x, rfl⟩ := hw; go_simp⟩) hS ?_
      try simp only [Act.put, List.setIfInBounds_toArray, List.set_cons_zero, List.set_cons_succ, List.getElem_toArray, List.getElem_cons_zero, List.getElem_cons_succ]
      refine wpAnyH_take (i := 8) (v := .agg #[.int .i64 W, .int .i64 H, .slice none 0 0]) rfl (by kernel_rfl) (by kernel_rfl) (by kernel_rfl) (fun _ _ _ h => h) (Or.inl ⟨by rfl, fun w hw => by obtain ⟨x, rfl⟩ := hw; go_simp⟩) hS ?_
      try simp only [Act.put, List.setIfInBounds_toArray, List.set_cons_zero, List.set_cons_succ, List.getElem_toArray, List.getElem_cons_zero, List.getElem_cons_succ]
      have ff := fB_cell Gt8.out
      have fg := fB_free Gt8.out
      obtain ⟨i0', i1, i2⟩ := ff
      obtain ⟨j0, j1, j2⟩ := fg
      have BL := Lib.hid (show Below X.heap.size X ((((t8.setCell ⟨Y.heap.size, 0, none⟩ (.int .i64 W)).setCell ⟨Y.heap.size, 1, none⟩ (.int .i64 H)).setCell ⟨Y.heap.size, 2, none⟩ (.slice none 0 0))) from (((Bt8.out.setCell hge _).setCell hge _).setCell hge _))
      have ZL := Lib.hid (fB_set3 W H (.slice none 0 0) Gt8.out)
      refine wpAnyH_ready (rs := [10]) (by kernel_rfl) (by simp) ?_
      refine AllReadyH.cons rfl (fun K hK => ?_) AllReadyH.nil
      go_simp
      refine hK.out _ _ ⟨⟨_, BL.out⟩, rfl⟩ (fun hS => ?_)
      clear hK K hS
      try simp only [Act.put, List.setIfInBounds_toArray, List.set_cons_zero, List.set_cons_succ, List.getElem_toArray, List.getElem_cons_zero, List.getElem_cons_succ]
      refine wpAnyH_done (by kernel_rfl) ?_ _
      go_wp2_with fail
      go_meet
      exact ⟨_, rfl, hge, BL.out, ZL.out⟩
    exact AllReadyH.nil
  case rest =>
  rename World => V
  obtain ⟨g, rfl, hge, BV, ZV⟩ := hcut
  have BV := Lib.hid BV
  have GV := Lib.hid ZV
  have glt := fB_lt ZV
  have TV := Lib.hid (txB_grow TX.out BV.out)
  have ZR := Lib.hid (fB_keep ZX.out BV.out (fB_lt ZX.out))
  have HV := Lib.hid (bstep H0.out H0.out.size BV.out)
  have l0 : w.heap.size + 1 < X.heap.size := fB_lt ZX.out
  clear BV ZV TX H0 HW HH ZX wp wq
  go_wp2_with fail
  go_loopw [4] (fun i wr => ∃ (k : Nat) (v : Value), (k : Int) ≤ n ∧ i = .int .i64 k ∧ V.heap.size ≤ wr.heap.size ∧ Below w.heap.size w wr ∧ wr.heap[w.heap.size]? = some (txB t A c) ∧ wr.heap[w.heap.size + 1]? = some (fB 0 0 (.slice none 0 0)) ∧ wr.heap[g]? = some (fB W H v) ∧ OwnE EC wr V.heap.size v ((List.range k).map (fitC t.px)))
    (fun i _ => n.toNat - (intOf i).toNat)
  case atStart => exact ⟨0, _, by omega, rfl, Nat.le_refl _, HV.out, TV.out, ZR.out, GV.out, OwnE.nil _ _⟩
  case round =>
    obtain ⟨k, v, hk, rfl, hsz, hB, hT, hR, hG, hO⟩ := hrel
    have HB := Lib.hid hB
    have HT := Lib.hid hT
    have HR := Lib.hid hR
    have HG := Lib.hid hG
    obtain ⟨A1, c1, rfl⟩ := hO.form
    have HO := Lib.hid hO
    obtain ⟨e0, e1, e2⟩ := fB_cell hG
    obtain ⟨f0, f1, f2⟩ := fB_free hG
    have hglt := fB_lt hG
    have l1 : w.heap.size < wr.heap.size := txB_lt hT
    have l2 : w.heap.size + 1 < wr.heap.size := fB_lt hR
    clear hB hT hR hG hO
    by_cases hlt : (k : Int) < n
    · obtain ⟨u, hu⟩ : ∃ u, fitC t.px k = u := ⟨_, rfl⟩
      have HS := Lib.hid (show (List.range (k + 1)).map (fitC t.px) = (List.range k).map (fitC t.px) ++ [u] by rw [range_snoc, hu])
      have hcl : ((List.range k).map (fitC t.px)).length = k := by simp
      generalize (List.range k).map (fitC t.px) = cs at *
      have HC := Lib.hid hcl
      have hc256 : cs.length ≤ 256 := by omega
      clear hcl
      obtain ⟨d0, d1, d2⟩ := txB_cell HT.out
      have g8 : IntKind.u8.wrap ((k : Int) * 16) = ((k : Int) * 16) % 256 := by rw [IntKind.wrap_u8]
      have g9 : IntKind.u8.wrap (k : Int) = (k : Int) % 256 := by rw [IntKind.wrap_u8]
      have O2 := Lib.hid (HO.out.alloc (.cells #[.int .u8 u.r, .int .u8 u.g, .int .u8 u.b, .int .u8 u.a] 27))
      by_cases hlp : (k : Int) < (t.px.length : Int)
      · have hpk : t.px[k]? = some u := by
          have h := List.getElem?_eq_getElem (l := t.px) (i := k) (by omega)
          rw [← hu]
          unfold fitC
          rw [List.getD_eq_getElem?_getD, h]
          rfl
        obtain ⟨b, off, rfl, hbB, hat⟩ := HE.out.at hpk
        obtain ⟨c0, c1', c2, c3⟩ := atC (show AtE EC wr b (off + k * 4) u from hat.below HB.out hbB)
        have hbw := Nat.lt_of_lt_of_le hbB HB.out.size
        clear hat hpk hu
        go_wp2_with (at_builtin; refine wpList_append_own _ rfl _ _ 47 rfl V.heap.size 27 i0 _ 4 4 Try.underlying47 HI.out HZ.out.1 HZ.out.2.1 HZ.out.2.2 (by kernel_rfl) (by decide) _ _ (EC.flat cs) rfl (O2.out.alloc _).row _ 1 1 (EC.cells u) rfl rfl (newC_at (by simp)) (EC.one _) (by unfold maxLen; omega) (by omega) (by simp; omega) ?_; intro v' w6 hown' hgrow _; obtain ⟨ho6, hb6⟩ := append_ofE (E := EC) (x := u) O2.out (by simp; omega) hown' hgrow; obtain ⟨A2, c2', rfl⟩ := ho6.form; have O6 := Lib.hid ho6; have B6 := Lib.hid hb6; have F6 := fB_free ((hb6.block g (by omega)).trans (new_keep _ HG.out)); obtain ⟨q0, q1, q2⟩ := F6; have E6 := fB_cell ((hb6.block g (by omega)).trans (new_keep _ HG.out)); obtain ⟨r0, r1, r2⟩ := E6; clear hown' hgrow ho6 hb6)
        go_roundw
        case rel =>
          have hWV : w.heap.size ≤ V.heap.size := HV.out.size
          have hg0 : w.heap.size + 1 < g := by omega
          refine ⟨k + 1, .slice A2 (cs.length + 1) c2', by omega, by go_num, by have := B6.out.size; simp at this ⊢; omega, ((HB.out.alloc HB.out.size _).trans (B6.out.mono hWV)).setCell (by simp; omega) _, ?_, ?_, ?_, ?_⟩
          · rw [heap_setCell_other _ _ _ _ (by simp; omega)]; exact (B6.out.block _ (by omega)).trans (new_keep _ HT.out)
          · rw [heap_setCell_other _ _ _ _ (by simp; omega)]; exact (B6.out.block _ (by omega)).trans (new_keep _ HR.out)
          · exact fB_set2 _ ((B6.out.block _ (by omega)).trans (new_keep _ HG.out))
          · rw [HS.out]; have h := O6.out; rw [List.length_append] at h; exact h.setCell glt
        case measure => simp [intOf]; omega
      · have hpk : u = ⟨((k : Int) * 16) % 256, (k : Int) % 256, 7, 255⟩ := by
          rw [← hu]
          unfold fitC
          rw [List.getD_eq_getElem?_getD, List.getElem?_eq_none (by omega)]
          rfl
        obtain ⟨ur, hur⟩ : ∃ ur, ((k : Int) * 16) % 256 = ur := ⟨_, rfl⟩
        obtain ⟨ug, hug⟩ : ∃ ug, (k : Int) % 256 = ug := ⟨_, rfl⟩
        rw [hur] at hpk g8
        rw [hug] at hpk g9
        have e3 : u.r = ur ∧ u.g = ug ∧ u.b = 7 ∧ u.a = 255 := by rw [hpk]; exact ⟨rfl, rfl, rfl, rfl⟩
        obtain ⟨er, eg, eb, ea⟩ := e3
        have O2 := Lib.hid (HO.out.alloc (.cells #[.int .u8 ur, .int .u8 ug, .int .u8 7, .int .u8 255] 27))
        have NC := Lib.hid (fun (w : World) (g : Nat) (hg : g = w.heap.size) => newC_at (u := u) hg)
        rw [er, eg, eb, ea] at NC
        clear hu hur hug hpk er eg eb ea
        go_wp2_with (at_builtin; refine wpList_append_own _ rfl _ _ 47 rfl V.heap.size 27 i0 _ 4 4 Try.underlying47 HI.out HZ.out.1 HZ.out.2.1 HZ.out.2.2 (by kernel_rfl) (by decide) _ _ (EC.flat cs) rfl (O2.out.alloc _).row _ 1 1 (EC.cells u) rfl rfl (NC.out _ _ (by simp)) (EC.one _) (by unfold maxLen; omega) (by omega) (by simp; omega) ?_; intro v' w6 hown' hgrow _; obtain ⟨ho6, hb6⟩ := append_ofE (E := EC) (x := u) O2.out (by simp; omega) hown' hgrow; obtain ⟨A2, c2', rfl⟩ := ho6.form; have O6 := Lib.hid ho6; have B6 := Lib.hid hb6; have F6 := fB_free ((hb6.block g (by omega)).trans (new_keep _ HG.out)); obtain ⟨q0, q1, q2⟩ := F6; have E6 := fB_cell ((hb6.block g (by omega)).trans (new_keep _ HG.out)); obtain ⟨r0, r1, r2⟩ := E6; clear hown' hgrow ho6 hb6)
        go_roundw
        case rel =>
          have hWV : w.heap.size ≤ V.heap.size := HV.out.size
          have hg0 : w.heap.size + 1 < g := by omega
          refine ⟨k + 1, .slice A2 (cs.length + 1) c2', by omega, by go_num, by have := B6.out.size; simp at this ⊢; omega, ((HB.out.alloc HB.out.size _).trans (B6.out.mono hWV)).setCell (by simp; omega) _, ?_, ?_, ?_, ?_⟩
          · rw [heap_setCell_other _ _ _ _ (by simp; omega)]; exact (B6.out.block _ (by omega)).trans (new_keep _ HT.out)
          · rw [heap_setCell_other _ _ _ _ (by simp; omega)]; exact (B6.out.block _ (by omega)).trans (new_keep _ HR.out)
          · exact fB_set2 _ ((B6.out.block _ (by omega)).trans (new_keep _ HG.out))
          · rw [HS.out]; have h := O6.out; rw [List.length_append] at h; exact h.setCell glt
        case measure => simp [intOf]; omega
    · obtain rfl : n = (k : Int) := by omega
      obtain ⟨k0, k1, k2⟩ := fB_cell HR.out
      obtain ⟨j0, j1, j2⟩ := fB_free HR.out
      have hcl : ((List.range k).map (fitC t.px)).length = k := by simp
      have hpx := HPX.out
      rw [Int.toNat_natCast] at hpx
      rw [← hpx] at HO e2
      have hzw : w.heap.size ≤ V.heap.size := HV.out.size
      have hzl : w.heap.size + 1 < V.heap.size := by omega
      clear hpx hcl
      go_wp2
      refine bodyPost_ret (v := .agg #[.int .i64 W, .int .i64 H, .slice A1 PX.length c1]) (by simp [results, Try.results24, go_sem, *]) rfl ⟨A1, c1, rfl, ?_, ?_, ?_, ?_⟩
      · obtain ⟨A', c', e, hl, -, -⟩ := HO.out.es
        cases e
        exact hl
      · obtain ⟨A', c', e, -, -, hs⟩ := (((HO.out.setCell (o := 0) (u := .int .i64 W) hzl).setCell (o := 1) (u := .int .i64 H) hzl).setCell (o := 2) (u := .slice A1 PX.length c1) hzl).es
        cases e
        exact hs
      · exact (((HO.out.setCell (o := 0) (u := .int .i64 W) hzl).setCell (o := 1) (u := .int .i64 H) hzl).setCell (o := 2) (u := .slice A1 PX.length c1) hzl).less hzw
      · exact ((HB.out.setCell (by simp) _).setCell (by simp) _).setCell (by simp) _
end Go.Proofs.Ytfmmfaeognoleaa
/-
  Instructions; what an Op uses, and the contracts of the program's usesOf, most and numbers.
-/
namespace Go.Proofs.Ytfmmfaeognoleaa.C
open Go.RowKit
attribute [local go_sem ↓] Go.wp_at_zero Go.wp_at_succ

abbrev I64 (n : Int) : Prop := -9223372036854775808 ≤ n ∧ n ≤ 9223372036854775807
structure In where
  o : Int
  d : Int
  a : Int
  b : Int
  n : Int
structure In.ok (x : In) : Prop where
  o : 0 ≤ x.o ∧ x.o ≤ 255
  d : 0 ≤ x.d ∧ x.d ≤ 255
  a : 0 ≤ x.a ∧ x.a ≤ 255
  b : 0 ≤ x.b ∧ x.b ≤ 255
  n : I64 x.n
def EI : Elem In where
  t := 70
  size := 5
  cells x := [.int .u8 x.o, .int .u8 x.d, .int .u8 x.a, .int .u8 x.b, .int .i64 x.n]
  pos := by decide
  len _ := rfl
  one x u hu := by
    simp only [List.mem_cons, List.not_mem_nil, or_false] at hu
    rcases hu with rfl | rfl | rfl | rfl | rfl <;> rfl

/-- What an Op uses, a bit each. -/
def us (o : Int) : Int := if o = 0 then 1 else if o = 1 ∨ o = 9 ∨ o = 10 then 3 else if (2 ≤ o ∧ o ≤ 8) ∨ o = 11 then 7 else if o = 12 then 2 else if o = 13 ∨ o = 14 then 15 else 0
theorem ops {o : Int} (h0 : 0 ≤ o) : o = 0 ∨ o = 1 ∨ o = 2 ∨ o = 3 ∨ o = 4 ∨ o = 5 ∨ o = 6 ∨ o = 7 ∨ o = 8 ∨ o = 9 ∨ o = 10 ∨ o = 11 ∨ o = 12 ∨ o = 13 ∨ o = 14 ∨ 14 < o := by omega
set_option maxHeartbeats 1000000 in
theorem uses_any (o : Int) (h0 : 0 ≤ o) (w : World) :
    Calls Try.prog 106 #[.int .u8 o] w fun e w' => e = .returned (.int .u8 (us o)) ∧ w = w' := by
  rcases ops h0 with rfl | rfl | rfl | rfl | rfl | rfl | rfl | rfl | rfl | rfl | rfl | rfl | rfl | rfl | rfl | h
  all_goals try (go_enter Try.func106, Try.ntmps106; go_wp2; go_ret; exact ⟨rfl, rfl⟩)
  have e : us o = 0 := by unfold us; rw [if_neg (by omega), if_neg (by omega), if_neg (by omega), if_neg (by omega), if_neg (by omega)]
  rw [e]
  have k0 : ¬ o = 0 := by omega
  have k1 : ¬ o = 1 := by omega
  have k2 : ¬ o = 2 := by omega
  have k3 : ¬ o = 3 := by omega
  have k4 : ¬ o = 4 := by omega
  have k5 : ¬ o = 5 := by omega
  have k6 : ¬ o = 6 := by omega
  have k7 : ¬ o = 7 := by omega
  have k8 : ¬ o = 8 := by omega
  have k9 : ¬ o = 9 := by omega
  have k10 : ¬ o = 10 := by omega
  have k11 : ¬ o = 11 := by omega
  have k12 : ¬ o = 12 := by omega
  have k13 : ¬ o = 13 := by omega
  have k14 : ¬ o = 14 := by omega
  clear h h0 e
  go_enter Try.func106, Try.ntmps106
  go_wp2
  go_ret
  exact ⟨rfl, rfl⟩

/-- The greatest of a register. -/
def ms (u r : Int) : Int := if r = 1 then (if u = 15 then 4 else if u = 2 then 0 else 7) else if r = 2 then (if u = 1 then 0 else 7) else (if u = 7 ∨ u = 15 then 7 else 0)
set_option maxHeartbeats 1000000 in
theorem most_any (u r : Int) (hu : u = 1 ∨ u = 2 ∨ u = 3 ∨ u = 7 ∨ u = 15) (hr : r = 1 ∨ r = 2 ∨ r = 4) (w : World) :
    Calls Try.prog 108 #[.int .u8 u, .int .u8 r] w fun e w' => e = .returned (.int .u8 (ms u r)) ∧ w = w' := by
  rcases hu with rfl | rfl | rfl | rfl | rfl <;> rcases hr with rfl | rfl | rfl
  all_goals (go_enter Try.func108, Try.ntmps108; go_wp2; go_ret; exact ⟨rfl, rfl⟩)

/-- The least and the greatest N. -/
def lo (o : Int) : Int := if o = 0 then -2147483648 else 0
def hi (o k : Int) : Int := if o = 0 then 2147483647 else if o = 9 ∨ o = 10 then 31 else if o = 12 then k else 0
set_option maxHeartbeats 1000000 in
theorem numbers_any (o k : Int) (w : World) :
    Calls Try.prog 107 #[.int .u8 o, .int .i64 k] w fun e w' => e = .returned (.tuple #[.int .i64 (lo o), .int .i64 (hi o k)]) ∧ w = w' := by
  by_cases k0 : o = 0
  · subst k0
    go_enter Try.func107, Try.ntmps107
    go_wp2
    go_ret2
    exact ⟨rfl, rfl⟩
  by_cases k1 : o = 9
  · subst k1
    go_enter Try.func107, Try.ntmps107
    go_wp2
    go_ret2
    exact ⟨rfl, rfl⟩
  by_cases k2 : o = 10
  · subst k2
    go_enter Try.func107, Try.ntmps107
    go_wp2
    go_ret2
    exact ⟨rfl, rfl⟩
  by_cases k3 : o = 12
  · subst k3
    go_enter Try.func107, Try.ntmps107
    go_wp2
    go_ret2
    exact ⟨rfl, rfl⟩
  have e : lo o = 0 := by unfold lo; rw [if_neg k0]
  have e' : hi o k = 0 := by unfold hi; rw [if_neg k0, if_neg (by omega), if_neg k3]
  rw [e, e']
  clear e e'
  go_enter Try.func107, Try.ntmps107
  go_wp2
  go_ret2
  exact ⟨rfl, rfl⟩
end Go.Proofs.Ytfmmfaeognoleaa.C
/-
  The contract of the program's One.
-/
namespace Go.Proofs.Ytfmmfaeognoleaa.C
open Go.RowKit
attribute [local go_sem ↓] Go.wp_at_zero Go.wp_at_succ

theorem Grow.same {P : Program} {f : FuncId} {args : Array Value} {w : World} {x : Grow w} {v : Value}
    (h : Calls P f args x.w fun e w' => e = .returned v ∧ x.w = w') : Calls P f args x.w fun e w'' => e = .returned v ∧ ∃ y : Grow w, w'' = y.w :=
  h.mono fun _ _ ⟨he, hb⟩ => ⟨he, x, hb.symm⟩
theorem new_at1 (w : World) (o : Obj) : (w.alloc o).heap[w.heap.size]? = some o := heap_alloc_new _ _
theorem new_below (w : World) (o : Obj) : Below w.heap.size w (w.alloc o) := (Below.refl _ _).alloc (Nat.le_refl _) _
abbrev inB (x : In) : Obj := .cells #[.int .u8 x.o, .int .u8 x.d, .int .u8 x.a, .int .u8 x.b, .int .i64 x.n] 70
theorem inB_cell {w : World} {g : Nat} {x : In} (h : w.heap[g]? = some (inB x)) : w.cell? ⟨g, 0, none⟩ = some (.int .u8 x.o) ∧ w.cell? ⟨g, 1, none⟩ = some (.int .u8 x.d) ∧ w.cell? ⟨g, 2, none⟩ = some (.int .u8 x.a) ∧ w.cell? ⟨g, 3, none⟩ = some (.int .u8 x.b) ∧ w.cell? ⟨g, 4, none⟩ = some (.int .i64 x.n) := by
  refine ⟨?_, ?_, ?_, ?_, ?_⟩ <;> (rw [cell_of_row w g _ _ 70 (0, 0) h]; rfl)

def oneB (x : In) (at' n : Int) : Bool := decide (us x.o ≠ 0 ∧ 0 ≤ at' ∧ at' < n ∧ x.d ≤ ms (us x.o) 1 ∧ x.a ≤ ms (us x.o) 2 ∧ x.b ≤ ms (us x.o) 4 ∧ lo x.o ≤ x.n ∧ x.n ≤ hi x.o (n - at' - 1))
theorem us_in (o : Int) (h : us o ≠ 0) : us o = 1 ∨ us o = 2 ∨ us o = 3 ∨ us o = 7 ∨ us o = 15 := by
  unfold us at h ⊢
  split
  · simp
  · split
    · simp
    · split
      · simp
      · split
        · simp
        · split
          · simp
          · rename_i h1 h2 h3 h4 h5
            rw [if_neg h1, if_neg h2, if_neg h3, if_neg h4, if_neg h5] at h
            exact absurd rfl h

set_option maxRecDepth 100000 in
set_option maxHeartbeats 4000000 in
theorem one_any (x : In) (i n : Int) (hx : x.ok) (hi' : I64 i) (hn : I64 n) (w : World) :
    Calls Try.prog 96 #[.agg #[.int .u8 x.o, .int .u8 x.d, .int .u8 x.a, .int .u8 x.b, .int .i64 x.n], .int .i64 i, .int .i64 n] w fun e w' => e = .returned (.bool (oneB x i n)) ∧ Below w.heap.size w w' := by
  have HU := Lib.hid (uses_any x.o hx.o.1)
  have hN := numbers_any x.o (n - i - 1)
  have hM := most_any (us x.o)
  have hin := us_in x.o
  unfold oneB
  generalize us x.o = U at *
  obtain ⟨L, hL⟩ : ∃ L, lo x.o = L := ⟨_, rfl⟩
  obtain ⟨H, hH⟩ : ∃ H, hi x.o (n - i - 1) = H := ⟨_, rfl⟩
  rw [hL, hH] at hN ⊢
  clear hL hH hx
  have HB := Lib.hid (new_below w (inB x))
  have HG := Lib.hid (new_at1 w (inB x))
  by_cases hU : U = 0
  · rw [decide_eq_false (by omega)]
    subst hU
    go_enter Try.func96, Try.ntmps96
    go_wp2_with fail
    have d0 := inB_cell HG.out
    obtain ⟨c0, c1, c2, c3, c4⟩ := d0
    go_wp2_with (go_at_call 106; (with_reducible refine (HU.out _).mono ?_); rintro e w' ⟨rfl, rfl⟩)
    go_ret
    exact ⟨rfl, HB.out⟩
  replace hM := fun r => hM r (hin hU)
  clear hin
  by_cases h0 : i < 0
  · rw [decide_eq_false (by omega)]
    go_enter Try.func96, Try.ntmps96
    go_wp2_with fail
    have d0 := inB_cell HG.out
    obtain ⟨c0, c1, c2, c3, c4⟩ := d0
    go_wp2_with (go_at_call 106; (with_reducible refine (HU.out _).mono ?_); rintro e w' ⟨rfl, rfl⟩)
    go_ret
    exact ⟨rfl, HB.out⟩
  by_cases h1 : n ≤ i
  · rw [decide_eq_false (by omega)]
    go_enter Try.func96, Try.ntmps96
    go_wp2_with fail
    have d0 := inB_cell HG.out
    obtain ⟨c0, c1, c2, c3, c4⟩ := d0
    go_wp2_with (go_at_call 106; (with_reducible refine (HU.out _).mono ?_); rintro e w' ⟨rfl, rfl⟩)
    go_ret
    exact ⟨rfl, HB.out⟩
  have f0 : (U == 0) = false := by simpa using hU
  have f1 : decide (i < 0) = false := decide_eq_false h0
  have f2 : decide (n ≤ i) = false := decide_eq_false h1
  obtain ⟨k, hk⟩ : ∃ k, n - i = k := ⟨_, rfl⟩
  obtain ⟨j, hj⟩ : ∃ j, k - 1 = j := ⟨_, rfl⟩
  have g1 : IntKind.i64.wrap (n - i) = k := by rw [hk, IntKind.wrap_i64]; omega
  have g2 : IntKind.i64.wrap (k - 1) = j := by rw [hj, IntKind.wrap_i64]; omega
  have e0 : n - i - 1 = j := by omega
  rw [e0] at hN
  have M1 := hM 1 (by simp)
  have M2 := hM 2 (by simp)
  have M4 := hM 4 (by simp)
  clear hM hi' hn
  generalize ms U 1 = D at *
  generalize ms U 2 = A at *
  generalize ms U 4 = B at *
  obtain ⟨r, hr⟩ : ∃ r, decide (U ≠ 0 ∧ 0 ≤ i ∧ i < n ∧ x.d ≤ D ∧ x.a ≤ A ∧ x.b ≤ B ∧ L ≤ x.n ∧ x.n ≤ H) = r := ⟨_, rfl⟩
  rw [hr]
  have ways : (decide (x.d ≤ D) = false ∧ r = false) ∨ (decide (x.d ≤ D) = true ∧ decide (x.a ≤ A) = false ∧ r = false) ∨ (decide (x.d ≤ D) = true ∧ decide (x.a ≤ A) = true ∧ decide (x.b ≤ B) = false ∧ r = false) ∨ (decide (x.d ≤ D) = true ∧ decide (x.a ≤ A) = true ∧ decide (x.b ≤ B) = true ∧ decide (L ≤ x.n) = false ∧ r = false) ∨ (decide (x.d ≤ D) = true ∧ decide (x.a ≤ A) = true ∧ decide (x.b ≤ B) = true ∧ decide (L ≤ x.n) = true ∧ decide (x.n ≤ H) = false ∧ r = false) ∨ (decide (x.d ≤ D) = true ∧ decide (x.a ≤ A) = true ∧ decide (x.b ≤ B) = true ∧ decide (L ≤ x.n) = true ∧ decide (x.n ≤ H) = true ∧ r = true) := by
    subst hr
    simp only [decide_eq_true_eq, decide_eq_false_iff_not]
    omega
  replace hr := Lib.hid hr
  replace hN := Lib.hid hN
  replace hk := Lib.hid hk
  replace hj := Lib.hid hj
  replace M1 := Lib.hid M1
  replace M2 := Lib.hid M2
  replace M4 := Lib.hid M4
  clear e0 hk hj hr
  replace ways := Lib.hid ways
  go_enter Try.func96, Try.ntmps96
  go_wp2_with fail
  have d0 := inB_cell HG.out
  obtain ⟨c0, c1, c2, c3, c4⟩ := d0
  go_wp2_with (first | (go_at_call 106; (with_reducible refine (HU.out _).mono ?_); rintro e w' ⟨rfl, rfl⟩) | (go_at_call 107; (with_reducible refine (hN.out _).mono ?_); rintro e w' ⟨rfl, rfl⟩))
  have ne1 := Grow.ne (w.alloc (inB x))
  have y1 : ∀ z : Grow (w.alloc (inB x)), z.w.cell? ⟨w.heap.size, 1, none⟩ = some (.int .u8 x.d) := fun z => z.cell c1
  have y2 : ∀ z : Grow (w.alloc (inB x)), z.w.cell? ⟨w.heap.size, 2, none⟩ = some (.int .u8 x.a) := fun z => z.cell c2
  have y3 : ∀ z : Grow (w.alloc (inB x)), z.w.cell? ⟨w.heap.size, 3, none⟩ = some (.int .u8 x.b) := fun z => z.cell c3
  have y4 : ∀ z : Grow (w.alloc (inB x)), z.w.cell? ⟨w.heap.size, 4, none⟩ = some (.int .i64 x.n) := fun z => z.cell c4
  have B0 : Below w.heap.size w (w.alloc (inB x)) := HB.out
  have HB0 := Lib.hid B0
  clear c0 c1 c2 c3 c4 g1 g2 HU hN HG HB B0
  generalize w.alloc (inB x) = X at *
  obtain ⟨h, rfl⟩ | ⟨h, h', rfl⟩ | ⟨h, h', h2, rfl⟩ | ⟨h, h', h2, h3, rfl⟩ | ⟨h, h', h2, h3, h4, rfl⟩ | ⟨h, h', h2, h3, h4, rfl⟩ := ways.out
  all_goals
    clear ways
    refine wp_region_grow (by kernel_rfl) (by kernel_rfl) ?_
    repeat (first | go_big_quiet_skip | go_big_quiet_step (first | (go_at_call 108; with_reducible exact Grow.same (M1.out _)) | (go_at_call 108; with_reducible exact Grow.same (M2.out _)) | (go_at_call 108; with_reducible exact Grow.same (M4.out _))))
    refine wpQuiet_nil ?_
    rintro _ ⟨z, rfl⟩
    have B7 := Lib.hid (bstep HB0.out HB0.out.size z.below)
    clear y1 y2 y3 y4 ne1 M1 M2 M4
    generalize z.w = Y at *
    clear z
    go_wp2_with fail
    go_ret
    exact ⟨rfl, B7.out⟩
end Go.Proofs.Ytfmmfaeognoleaa.C
/-
  The contract of the reference's One: it is the program's.
-/
namespace Go.Proofs.Ytfmmfaeognoleaa.C
open Go.RowKit
attribute [local go_sem ↓] Go.wp_at_zero Go.wp_at_succ

theorem ms_le (u : Int) : ms u 1 ≤ 7 ∧ ms u 2 ≤ 7 ∧ ms u 4 ≤ 7 := by
  unfold ms
  refine ⟨?_, ?_, ?_⟩ <;> simp <;> omega
def th (o : Int) : Bool := decide ((2 ≤ o ∧ o ≤ 8) ∨ o = 11 ∨ o = 13 ∨ o = 14)
end Go.Proofs.Ytfmmfaeognoleaa.C
/-
  The contracts of Check, Samples and Target, of the program and of the reference.
-/
namespace Go.Proofs.Ytfmmfaeognoleaa.C
open Go.RowKit
attribute [local go_sem ↓] Go.wp_at_zero Go.wp_at_succ

def fine (l : List In) : Bool := (List.range l.length).all fun i => (l[i]?).all fun x => oneB x i l.length
theorem fine_iff {l : List In} : fine l = true ↔ ∀ (i : Nat) x, l[i]? = some x → oneB x i l.length = true := by
  unfold fine
  rw [List.all_eq_true]
  constructor
  · intro h i x hi
    have := h i (by rw [List.mem_range]; exact (List.getElem?_eq_some_iff.1 hi).1)
    rw [hi] at this
    simpa using this
  · intro h i _
    cases e : l[i]? with
    | none => rfl
    | some x => simpa using h i x e
def chk (l : List In) : Int := if l.length < 1 ∨ 32 < l.length then 23 else if fine l = true then 0 else 23
theorem atI {w : World} {b o : Nat} {x : In} (h : AtE EI w b o x) : w.cell? ⟨b, o, none⟩ = some (.int .u8 x.o) ∧ w.cell? ⟨b, o + 1, none⟩ = some (.int .u8 x.d) ∧ w.cell? ⟨b, o + 2, none⟩ = some (.int .u8 x.a) ∧ w.cell? ⟨b, o + 3, none⟩ = some (.int .u8 x.b) ∧ w.cell? ⟨b, o + 4, none⟩ = some (.int .i64 x.n) :=
  ⟨h 0 _ rfl, h 1 _ rfl, h 2 _ rfl, h 3 _ rfl, h 4 _ rfl⟩
theorem get_lt {l : List In} {k : Nat} (h : k < l.length) : ∃ u, l[k]? = some u := ⟨_, List.getElem?_eq_getElem h⟩
theorem chk_bad {l : List In} {k : Nat} {u : In} (h : l[k]? = some u) (hr : oneB u k l.length = false) : chk l = 23 := by
  unfold chk
  split
  · rfl
  · rw [if_neg fun hf => ?_]
    have := fine_iff.1 hf k u h
    rw [hr] at this
    cases this
theorem chk_good {l : List In} (h1 : ¬ l.length < 1) (h2 : ¬ 32 < l.length) (h : ∀ (i : Nat) x, l[i]? = some x → oneB x i l.length = true) : chk l = 0 := by
  unfold chk
  rw [if_neg (by omega), if_pos (fine_iff.2 h)]

set_option maxRecDepth 100000 in
set_option maxHeartbeats 4000000 in
theorem check_any (l : List In) (A : Option Addr) (c : Nat) (hok : ∀ x ∈ l, x.ok) (w : World) (he : Es EI w w.heap.size A l) :
    Calls Try.prog 71 #[.slice A l.length c] w fun e w' => e = .returned (.int .i64 (chk l)) ∧ Below w.heap.size w w' := by
  by_cases h1 : l.length < 1
  · have e : chk l = 23 := by unfold chk; rw [if_pos (Or.inl h1)]
    rw [e]
    generalize l.length = n at *
    have h2 : (n : Int) < 1 := by omega
    clear e h1 he
    go_enter Try.func71, Try.ntmps71
    go_wp2_with fail
    go_ret
    exact ⟨rfl, Below.refl _ _⟩
  by_cases h2 : 32 < l.length
  · have e : chk l = 23 := by unfold chk; rw [if_pos (Or.inr h2)]
    rw [e]
    generalize l.length = n at *
    have h3 : ¬ (n : Int) < 1 := by omega
    have h4 : (32 : Int) < n := by omega
    clear e h1 h2 he
    go_enter Try.func71, Try.ntmps71
    go_wp2_with fail
    go_ret
    exact ⟨rfl, Below.refl _ _⟩
  have HGd := Lib.hid (chk_good h1 h2)
  have HBd := Lib.hid (fun (k : Nat) (u : In) (h : l[k]? = some u) (hr : oneB u k l.length = false) => chk_bad h hr)
  have HL := Lib.hid (fun (k : Nat) (h : k < l.length) => get_lt h)
  generalize chk l = R at *
  obtain ⟨n, hn⟩ : ∃ n, l.length = n := ⟨_, rfl⟩
  rw [hn] at HGd HBd HL h1 h2 ⊢
  have h3 : ¬ (n : Int) < 1 := by omega
  have h4 : ¬ (32 : Int) < n := by omega
  have hn32 : n ≤ 32 := by omega
  have HE := Lib.hid he
  have HO := Lib.hid (fun x (h : x ∈ l) => hok x h)
  replace hn := Lib.hid hn
  clear h1 h2 he hok
  go_enter Try.func71, Try.ntmps71
  go_wp2_with fail
  go_loopw [15] (fun i wr => ∃ k : Nat, k ≤ n ∧ i = .int .i64 k ∧ (∀ (j : Nat) x, j < k → l[j]? = some x → oneB x j n = true) ∧ Below w.heap.size w wr) (fun i _ => n - (intOf i).toNat)
  case atStart => exact ⟨0, Nat.zero_le _, rfl, fun j x h => absurd h (Nat.not_lt_zero _), Below.refl _ _⟩
  case round =>
    obtain ⟨k, hk, rfl, hin, hb⟩ := hrel
    have HB := Lib.hid hb
    have HI := Lib.hid hin
    clear hin hb
    by_cases hlt : k < n
    · obtain ⟨u, hu⟩ := HL.out k hlt
      obtain ⟨b, off, rfl, hbB, hat⟩ := HE.out.at hu
      obtain ⟨c0, c1, c2, c3, c4⟩ := atI (show AtE EI wr b (off + k * 5) u from hat.below HB.out hbB)
      have hbw := Nat.lt_of_lt_of_le hbB HB.out.size
      have HU := Lib.hid (show ∀ w', Calls Try.prog 96 #[.agg #[.int .u8 u.o, .int .u8 u.d, .int .u8 u.a, .int .u8 u.b, .int .i64 u.n], .int .i64 k, .int .i64 n] w' fun e w'' => e = .returned (.bool (oneB u k n)) ∧ Below w'.heap.size w' w'' from fun w' => one_any u k n (HO.out u (List.mem_of_getElem? hu)) ⟨by omega, by omega⟩ ⟨by omega, by omega⟩ w')
      replace hu := Lib.hid hu
      obtain ⟨r, hr⟩ : ∃ r, oneB u k n = r := ⟨_, rfl⟩
      rw [hr] at HU
      replace hr := Lib.hid hr
      clear hat
      go_wp2_with fail
      have hs := new_below wr (inB u)
      have B2 := Lib.hid (bstep HB.out HB.out.size hs)
      clear hs
      with_reducible refine (HU.out _).mono ?_
      rintro e w2 ⟨rfl, hb2⟩
      have B3 := Lib.hid (bstep B2.out B2.out.size hb2)
      clear hb2 B2 HU c0 c1 c2 c3 c4
      cases r
      · obtain rfl : R = 23 := HBd.out k u hu.out hr.out
        go_wp2_with fail
        go_ret
        exact ⟨rfl, B3.out⟩
      · go_wp2_with fail
        go_roundw
        case rel =>
          refine ⟨k + 1, by omega, by go_num, fun j x hj hx => ?_, B3.out⟩
          rcases Nat.lt_or_ge j k with h | h
          · exact HI.out j x h hx
          · obtain rfl : j = k := by omega
            have h5 := hu.out
            rw [hx] at h5
            cases h5
            exact hr.out
        case measure => simp [intOf]; omega
    · obtain rfl : k = n := by omega
      obtain rfl : R = 0 := HGd.out fun i x hx => HI.out i x (by have := (List.getElem?_eq_some_iff.1 hx).1; rw [hn.out] at this; exact this) hx
      go_wp2_with fail
      go_ret
      exact ⟨rfl, HB.out⟩
end Go.Proofs.Ytfmmfaeognoleaa.C
/-
  The contracts of the reference's mod and fit.
-/
namespace Go.Proofs.Ytfmmfaeognoleaa.C
open Go.RowKit
attribute [local go_sem ↓] Go.wp_at_zero Go.wp_at_succ

theorem emod_ways (n b : Int) (hb : 0 < b) : (n.tmod b < 0 ∧ n % b = n.tmod b + b) ∨ (¬ n.tmod b < 0 ∧ n % b = n.tmod b) := by
  have h := Int.tmod_eq_emod (a := n) (b := b)
  have h0 := Int.emod_nonneg n (show b ≠ 0 by omega)
  have h1 := Int.emod_lt_of_pos n hb
  split at h
  · omega
  · omega
set_option maxHeartbeats 1000000 in
theorem mod_any (n b : Int) (hn : I64 n) (hb : 0 < b) (hb2 : b ≤ 4611686018427387904) (w : World) :
    Calls Try.prog 78 #[.int .i64 n, .int .i64 b] w fun e w' => e = .returned (.int .i64 (n % b)) ∧ w = w' := by
  have hw := emod_ways n b hb
  have hp := Int.lt_tmod_of_pos n hb
  have hq := Int.tmod_lt_of_pos n hb
  obtain ⟨k, hk⟩ : ∃ k, n.tmod b = k := ⟨_, rfl⟩
  rw [hk] at hw hp hq
  have g0 : IntKind.i64.wrap k = k := by rw [IntKind.wrap_i64]; omega
  have g1 : IntKind.i64.wrap (k + b) = k + b := by rw [IntKind.wrap_i64]; omega
  have hb0 : ¬ b = 0 := by omega
  have HN := Lib.hid hn
  clear hn
  rcases hw with ⟨h, e⟩ | ⟨h, e⟩
  · rw [e]
    clear e hp hq hb hb2
    go_enter Try.func78, Try.ntmps78
    go_wp2_with fail
    go_ret
    exact ⟨rfl, rfl⟩
  · rw [e]
    clear e hp hq hb hb2
    go_enter Try.func78, Try.ntmps78
    go_wp2_with fail
    go_ret
    exact ⟨rfl, rfl⟩
end Go.Proofs.Ytfmmfaeognoleaa.C
/-
  The contract of the reference's fit: an instruction that may stand at a place, of any one.
-/
namespace Go.Proofs.Ytfmmfaeognoleaa.C
open Go.RowKit
attribute [local go_sem ↓] Go.wp_at_zero Go.wp_at_succ

set_option maxRecDepth 100000 in
set_option maxHeartbeats 4000000 in
theorem fit_0 (x : In) (i n d m : Int) (q0 : x.o.tmod 15 = 0) (qd : x.d.tmod 8 = d) (gm : IntKind.i64.wrap (m - 2147483648) = m - 2147483648) (HM : Hid (∀ w, Calls Try.prog 78 #[.int .i64 x.n, .int .i64 4294967296] w fun e w' => e = .returned (.int .i64 m) ∧ w = w')) (w : World) :
    Calls Try.prog 43 #[.agg #[.int .u8 x.o, .int .u8 x.d, .int .u8 x.a, .int .u8 x.b, .int .i64 x.n], .int .i64 i, .int .i64 n, .bool false] w fun e w' => e = .returned (.agg #[.int .u8 0, .int .u8 d, .int .u8 0, .int .u8 0, .int .i64 (m - 2147483648)]) ∧ Below w.heap.size w w' := by
  have HB := Lib.hid (fun o o' o'' => ((new_below w o).alloc (by simp) o').alloc (by simp; omega) o'')
  go_enter Try.func43, Try.ntmps43
  go_wp2_with (go_at_call 78; (with_reducible refine (HM.out _).mono ?_); rintro e w' ⟨rfl, rfl⟩)
  refine bodyPost_ret (v := .agg #[.int .u8 0, .int .u8 d, .int .u8 0, .int .u8 0, .int .i64 (m - 2147483648)]) (by simp [results, Try.results43, go_sem, *]) rfl ⟨rfl, ?_⟩
  repeat (first | exact HB.out _ _ _ | refine Below.setCell ?_ (by simp <;> omega) _)

set_option maxRecDepth 100000 in
set_option maxHeartbeats 4000000 in
theorem fit_1 (x : In) (i n d a : Int) (q0 : x.o.tmod 15 = 1) (qd : x.d.tmod 8 = d) (qa : x.a.tmod 8 = a) (w : World) :
    Calls Try.prog 43 #[.agg #[.int .u8 x.o, .int .u8 x.d, .int .u8 x.a, .int .u8 x.b, .int .i64 x.n], .int .i64 i, .int .i64 n, .bool false] w fun e w' => e = .returned (.agg #[.int .u8 1, .int .u8 d, .int .u8 a, .int .u8 0, .int .i64 (0)]) ∧ Below w.heap.size w w' := by
  have HB := Lib.hid (fun o o' o'' => ((new_below w o).alloc (by simp) o').alloc (by simp; omega) o'')
  go_enter Try.func43, Try.ntmps43
  go_wp2_with fail
  refine bodyPost_ret (v := .agg #[.int .u8 1, .int .u8 d, .int .u8 a, .int .u8 0, .int .i64 (0)]) (by simp [results, Try.results43, go_sem, *]) rfl ⟨rfl, ?_⟩
  repeat (first | exact HB.out _ _ _ | refine Below.setCell ?_ (by simp <;> omega) _)

set_option maxRecDepth 100000 in
set_option maxHeartbeats 4000000 in
theorem fit_2 (x : In) (i n d a b : Int) (q0 : x.o.tmod 15 = 2) (qd : x.d.tmod 8 = d) (qa : x.a.tmod 8 = a) (qb : x.b.tmod 8 = b) (w : World) :
    Calls Try.prog 43 #[.agg #[.int .u8 x.o, .int .u8 x.d, .int .u8 x.a, .int .u8 x.b, .int .i64 x.n], .int .i64 i, .int .i64 n, .bool false] w fun e w' => e = .returned (.agg #[.int .u8 2, .int .u8 d, .int .u8 a, .int .u8 b, .int .i64 (0)]) ∧ Below w.heap.size w w' := by
  have HB := Lib.hid (fun o o' o'' => ((new_below w o).alloc (by simp) o').alloc (by simp; omega) o'')
  go_enter Try.func43, Try.ntmps43
  go_wp2_with fail
  refine bodyPost_ret (v := .agg #[.int .u8 2, .int .u8 d, .int .u8 a, .int .u8 b, .int .i64 (0)]) (by simp [results, Try.results43, go_sem, *]) rfl ⟨rfl, ?_⟩
  repeat (first | exact HB.out _ _ _ | refine Below.setCell ?_ (by simp <;> omega) _)

set_option maxRecDepth 100000 in
set_option maxHeartbeats 4000000 in
theorem fit_3 (x : In) (i n d a b : Int) (q0 : x.o.tmod 15 = 3) (qd : x.d.tmod 8 = d) (qa : x.a.tmod 8 = a) (qb : x.b.tmod 8 = b) (w : World) :
    Calls Try.prog 43 #[.agg #[.int .u8 x.o, .int .u8 x.d, .int .u8 x.a, .int .u8 x.b, .int .i64 x.n], .int .i64 i, .int .i64 n, .bool false] w fun e w' => e = .returned (.agg #[.int .u8 3, .int .u8 d, .int .u8 a, .int .u8 b, .int .i64 (0)]) ∧ Below w.heap.size w w' := by
  have HB := Lib.hid (fun o o' o'' => ((new_below w o).alloc (by simp) o').alloc (by simp; omega) o'')
  go_enter Try.func43, Try.ntmps43
  go_wp2_with fail
  refine bodyPost_ret (v := .agg #[.int .u8 3, .int .u8 d, .int .u8 a, .int .u8 b, .int .i64 (0)]) (by simp [results, Try.results43, go_sem, *]) rfl ⟨rfl, ?_⟩
  repeat (first | exact HB.out _ _ _ | refine Below.setCell ?_ (by simp <;> omega) _)

set_option maxRecDepth 100000 in
set_option maxHeartbeats 4000000 in
theorem fit_4 (x : In) (i n d a b : Int) (q0 : x.o.tmod 15 = 4) (qd : x.d.tmod 8 = d) (qa : x.a.tmod 8 = a) (qb : x.b.tmod 8 = b) (w : World) :
    Calls Try.prog 43 #[.agg #[.int .u8 x.o, .int .u8 x.d, .int .u8 x.a, .int .u8 x.b, .int .i64 x.n], .int .i64 i, .int .i64 n, .bool false] w fun e w' => e = .returned (.agg #[.int .u8 4, .int .u8 d, .int .u8 a, .int .u8 b, .int .i64 (0)]) ∧ Below w.heap.size w w' := by
  have HB := Lib.hid (fun o o' o'' => ((new_below w o).alloc (by simp) o').alloc (by simp; omega) o'')
  go_enter Try.func43, Try.ntmps43
  go_wp2_with fail
  refine bodyPost_ret (v := .agg #[.int .u8 4, .int .u8 d, .int .u8 a, .int .u8 b, .int .i64 (0)]) (by simp [results, Try.results43, go_sem, *]) rfl ⟨rfl, ?_⟩
  repeat (first | exact HB.out _ _ _ | refine Below.setCell ?_ (by simp <;> omega) _)

set_option maxRecDepth 100000 in
set_option maxHeartbeats 4000000 in
theorem fit_5 (x : In) (i n d a b : Int) (q0 : x.o.tmod 15 = 5) (qd : x.d.tmod 8 = d) (qa : x.a.tmod 8 = a) (qb : x.b.tmod 8 = b) (w : World) :
    Calls Try.prog 43 #[.agg #[.int .u8 x.o, .int .u8 x.d, .int .u8 x.a, .int .u8 x.b, .int .i64 x.n], .int .i64 i, .int .i64 n, .bool false] w fun e w' => e = .returned (.agg #[.int .u8 5, .int .u8 d, .int .u8 a, .int .u8 b, .int .i64 (0)]) ∧ Below w.heap.size w w' := by
  have HB := Lib.hid (fun o o' o'' => ((new_below w o).alloc (by simp) o').alloc (by simp; omega) o'')
  go_enter Try.func43, Try.ntmps43
  go_wp2_with fail
  refine bodyPost_ret (v := .agg #[.int .u8 5, .int .u8 d, .int .u8 a, .int .u8 b, .int .i64 (0)]) (by simp [results, Try.results43, go_sem, *]) rfl ⟨rfl, ?_⟩
  repeat (first | exact HB.out _ _ _ | refine Below.setCell ?_ (by simp <;> omega) _)

set_option maxRecDepth 100000 in
set_option maxHeartbeats 4000000 in
theorem fit_6 (x : In) (i n d a b : Int) (q0 : x.o.tmod 15 = 6) (qd : x.d.tmod 8 = d) (qa : x.a.tmod 8 = a) (qb : x.b.tmod 8 = b) (w : World) :
    Calls Try.prog 43 #[.agg #[.int .u8 x.o, .int .u8 x.d, .int .u8 x.a, .int .u8 x.b, .int .i64 x.n], .int .i64 i, .int .i64 n, .bool false] w fun e w' => e = .returned (.agg #[.int .u8 6, .int .u8 d, .int .u8 a, .int .u8 b, .int .i64 (0)]) ∧ Below w.heap.size w w' := by
  have HB := Lib.hid (fun o o' o'' => ((new_below w o).alloc (by simp) o').alloc (by simp; omega) o'')
  go_enter Try.func43, Try.ntmps43
  go_wp2_with fail
  refine bodyPost_ret (v := .agg #[.int .u8 6, .int .u8 d, .int .u8 a, .int .u8 b, .int .i64 (0)]) (by simp [results, Try.results43, go_sem, *]) rfl ⟨rfl, ?_⟩
  repeat (first | exact HB.out _ _ _ | refine Below.setCell ?_ (by simp <;> omega) _)

set_option maxRecDepth 100000 in
set_option maxHeartbeats 4000000 in
theorem fit_7 (x : In) (i n d a b : Int) (q0 : x.o.tmod 15 = 7) (qd : x.d.tmod 8 = d) (qa : x.a.tmod 8 = a) (qb : x.b.tmod 8 = b) (w : World) :
    Calls Try.prog 43 #[.agg #[.int .u8 x.o, .int .u8 x.d, .int .u8 x.a, .int .u8 x.b, .int .i64 x.n], .int .i64 i, .int .i64 n, .bool false] w fun e w' => e = .returned (.agg #[.int .u8 7, .int .u8 d, .int .u8 a, .int .u8 b, .int .i64 (0)]) ∧ Below w.heap.size w w' := by
  have HB := Lib.hid (fun o o' o'' => ((new_below w o).alloc (by simp) o').alloc (by simp; omega) o'')
  go_enter Try.func43, Try.ntmps43
  go_wp2_with fail
  refine bodyPost_ret (v := .agg #[.int .u8 7, .int .u8 d, .int .u8 a, .int .u8 b, .int .i64 (0)]) (by simp [results, Try.results43, go_sem, *]) rfl ⟨rfl, ?_⟩
  repeat (first | exact HB.out _ _ _ | refine Below.setCell ?_ (by simp <;> omega) _)

set_option maxRecDepth 100000 in
set_option maxHeartbeats 4000000 in
theorem fit_8 (x : In) (i n d a b : Int) (q0 : x.o.tmod 15 = 8) (qd : x.d.tmod 8 = d) (qa : x.a.tmod 8 = a) (qb : x.b.tmod 8 = b) (w : World) :
    Calls Try.prog 43 #[.agg #[.int .u8 x.o, .int .u8 x.d, .int .u8 x.a, .int .u8 x.b, .int .i64 x.n], .int .i64 i, .int .i64 n, .bool false] w fun e w' => e = .returned (.agg #[.int .u8 8, .int .u8 d, .int .u8 a, .int .u8 b, .int .i64 (0)]) ∧ Below w.heap.size w w' := by
  have HB := Lib.hid (fun o o' o'' => ((new_below w o).alloc (by simp) o').alloc (by simp; omega) o'')
  go_enter Try.func43, Try.ntmps43
  go_wp2_with fail
  refine bodyPost_ret (v := .agg #[.int .u8 8, .int .u8 d, .int .u8 a, .int .u8 b, .int .i64 (0)]) (by simp [results, Try.results43, go_sem, *]) rfl ⟨rfl, ?_⟩
  repeat (first | exact HB.out _ _ _ | refine Below.setCell ?_ (by simp <;> omega) _)

set_option maxRecDepth 100000 in
set_option maxHeartbeats 4000000 in
theorem fit_9 (x : In) (i n d a m : Int) (q0 : x.o.tmod 15 = 9) (qd : x.d.tmod 8 = d) (qa : x.a.tmod 8 = a) (HM : Hid (∀ w, Calls Try.prog 78 #[.int .i64 x.n, .int .i64 32] w fun e w' => e = .returned (.int .i64 m) ∧ w = w')) (w : World) :
    Calls Try.prog 43 #[.agg #[.int .u8 x.o, .int .u8 x.d, .int .u8 x.a, .int .u8 x.b, .int .i64 x.n], .int .i64 i, .int .i64 n, .bool false] w fun e w' => e = .returned (.agg #[.int .u8 9, .int .u8 d, .int .u8 a, .int .u8 0, .int .i64 (m)]) ∧ Below w.heap.size w w' := by
  have HB := Lib.hid (fun o o' o'' => ((new_below w o).alloc (by simp) o').alloc (by simp; omega) o'')
  go_enter Try.func43, Try.ntmps43
  go_wp2_with (go_at_call 78; (with_reducible refine (HM.out _).mono ?_); rintro e w' ⟨rfl, rfl⟩)
  refine bodyPost_ret (v := .agg #[.int .u8 9, .int .u8 d, .int .u8 a, .int .u8 0, .int .i64 (m)]) (by simp [results, Try.results43, go_sem, *]) rfl ⟨rfl, ?_⟩
  repeat (first | exact HB.out _ _ _ | refine Below.setCell ?_ (by simp <;> omega) _)

set_option maxRecDepth 100000 in
set_option maxHeartbeats 4000000 in
theorem fit_10 (x : In) (i n d a m : Int) (q0 : x.o.tmod 15 = 10) (qd : x.d.tmod 8 = d) (qa : x.a.tmod 8 = a) (HM : Hid (∀ w, Calls Try.prog 78 #[.int .i64 x.n, .int .i64 32] w fun e w' => e = .returned (.int .i64 m) ∧ w = w')) (w : World) :
    Calls Try.prog 43 #[.agg #[.int .u8 x.o, .int .u8 x.d, .int .u8 x.a, .int .u8 x.b, .int .i64 x.n], .int .i64 i, .int .i64 n, .bool false] w fun e w' => e = .returned (.agg #[.int .u8 10, .int .u8 d, .int .u8 a, .int .u8 0, .int .i64 (m)]) ∧ Below w.heap.size w w' := by
  have HB := Lib.hid (fun o o' o'' => ((new_below w o).alloc (by simp) o').alloc (by simp; omega) o'')
  go_enter Try.func43, Try.ntmps43
  go_wp2_with (go_at_call 78; (with_reducible refine (HM.out _).mono ?_); rintro e w' ⟨rfl, rfl⟩)
  refine bodyPost_ret (v := .agg #[.int .u8 10, .int .u8 d, .int .u8 a, .int .u8 0, .int .i64 (m)]) (by simp [results, Try.results43, go_sem, *]) rfl ⟨rfl, ?_⟩
  repeat (first | exact HB.out _ _ _ | refine Below.setCell ?_ (by simp <;> omega) _)

set_option maxRecDepth 100000 in
set_option maxHeartbeats 4000000 in
theorem fit_11 (x : In) (i n d a b : Int) (q0 : x.o.tmod 15 = 11) (qd : x.d.tmod 8 = d) (qa : x.a.tmod 8 = a) (qb : x.b.tmod 8 = b) (w : World) :
    Calls Try.prog 43 #[.agg #[.int .u8 x.o, .int .u8 x.d, .int .u8 x.a, .int .u8 x.b, .int .i64 x.n], .int .i64 i, .int .i64 n, .bool false] w fun e w' => e = .returned (.agg #[.int .u8 11, .int .u8 d, .int .u8 a, .int .u8 b, .int .i64 (0)]) ∧ Below w.heap.size w w' := by
  have HB := Lib.hid (fun o o' o'' => ((new_below w o).alloc (by simp) o').alloc (by simp; omega) o'')
  go_enter Try.func43, Try.ntmps43
  go_wp2_with fail
  refine bodyPost_ret (v := .agg #[.int .u8 11, .int .u8 d, .int .u8 a, .int .u8 b, .int .i64 (0)]) (by simp [results, Try.results43, go_sem, *]) rfl ⟨rfl, ?_⟩
  repeat (first | exact HB.out _ _ _ | refine Below.setCell ?_ (by simp <;> omega) _)

set_option maxRecDepth 100000 in
set_option maxHeartbeats 4000000 in
theorem fit_12 (x : In) (i n a m k : Int) (q0 : x.o.tmod 15 = 12) (qa : x.a.tmod 8 = a) (gk : IntKind.i64.wrap (n - i) = k) (HM : Hid (∀ w, Calls Try.prog 78 #[.int .i64 x.n, .int .i64 k] w fun e w' => e = .returned (.int .i64 m) ∧ w = w')) (w : World) :
    Calls Try.prog 43 #[.agg #[.int .u8 x.o, .int .u8 x.d, .int .u8 x.a, .int .u8 x.b, .int .i64 x.n], .int .i64 i, .int .i64 n, .bool false] w fun e w' => e = .returned (.agg #[.int .u8 12, .int .u8 0, .int .u8 a, .int .u8 0, .int .i64 (m)]) ∧ Below w.heap.size w w' := by
  have HB := Lib.hid (fun o o' o'' => ((new_below w o).alloc (by simp) o').alloc (by simp; omega) o'')
  go_enter Try.func43, Try.ntmps43
  go_wp2_with (go_at_call 78; (with_reducible refine (HM.out _).mono ?_); rintro e w' ⟨rfl, rfl⟩)
  refine bodyPost_ret (v := .agg #[.int .u8 12, .int .u8 0, .int .u8 a, .int .u8 0, .int .i64 (m)]) (by simp [results, Try.results43, go_sem, *]) rfl ⟨rfl, ?_⟩
  repeat (first | exact HB.out _ _ _ | refine Below.setCell ?_ (by simp <;> omega) _)

set_option maxRecDepth 100000 in
set_option maxHeartbeats 4000000 in
theorem fit_13 (x : In) (i n a b y : Int) (q0 : x.o.tmod 15 = 13) (qa : x.a.tmod 8 = a) (qb : x.b.tmod 8 = b) (qy : x.d.tmod 5 = y) (w : World) :
    Calls Try.prog 43 #[.agg #[.int .u8 x.o, .int .u8 x.d, .int .u8 x.a, .int .u8 x.b, .int .i64 x.n], .int .i64 i, .int .i64 n, .bool false] w fun e w' => e = .returned (.agg #[.int .u8 13, .int .u8 y, .int .u8 a, .int .u8 b, .int .i64 (0)]) ∧ Below w.heap.size w w' := by
  have HB := Lib.hid (fun o o' o'' => ((new_below w o).alloc (by simp) o').alloc (by simp; omega) o'')
  go_enter Try.func43, Try.ntmps43
  go_wp2_with fail
  refine bodyPost_ret (v := .agg #[.int .u8 13, .int .u8 y, .int .u8 a, .int .u8 b, .int .i64 (0)]) (by simp [results, Try.results43, go_sem, *]) rfl ⟨rfl, ?_⟩
  repeat (first | exact HB.out _ _ _ | refine Below.setCell ?_ (by simp <;> omega) _)

set_option maxRecDepth 100000 in
set_option maxHeartbeats 4000000 in
theorem fit_14 (x : In) (i n a b y : Int) (q0 : x.o.tmod 15 = 14) (qa : x.a.tmod 8 = a) (qb : x.b.tmod 8 = b) (qy : x.d.tmod 5 = y) (w : World) :
    Calls Try.prog 43 #[.agg #[.int .u8 x.o, .int .u8 x.d, .int .u8 x.a, .int .u8 x.b, .int .i64 x.n], .int .i64 i, .int .i64 n, .bool false] w fun e w' => e = .returned (.agg #[.int .u8 14, .int .u8 y, .int .u8 a, .int .u8 b, .int .i64 (0)]) ∧ Below w.heap.size w w' := by
  have HB := Lib.hid (fun o o' o'' => ((new_below w o).alloc (by simp) o').alloc (by simp; omega) o'')
  go_enter Try.func43, Try.ntmps43
  go_wp2_with fail
  refine bodyPost_ret (v := .agg #[.int .u8 14, .int .u8 y, .int .u8 a, .int .u8 b, .int .i64 (0)]) (by simp [results, Try.results43, go_sem, *]) rfl ⟨rfl, ?_⟩
  repeat (first | exact HB.out _ _ _ | refine Below.setCell ?_ (by simp <;> omega) _)

/-- What fit makes of an instruction. -/
def fitI (x : In) (i n : Int) : In :=
  if x.o % 15 = 0 then ⟨0, x.d % 8, 0, 0, x.n % 4294967296 - 2147483648⟩
  else if x.o % 15 = 1 ∨ x.o % 15 = 9 ∨ x.o % 15 = 10 then ⟨x.o % 15, x.d % 8, x.a % 8, 0, if x.o % 15 = 1 then 0 else x.n % 32⟩
  else if x.o % 15 = 12 then ⟨12, 0, x.a % 8, 0, x.n % (n - i)⟩
  else if x.o % 15 = 13 ∨ x.o % 15 = 14 then ⟨x.o % 15, x.d % 5, x.a % 8, x.b % 8, 0⟩
  else ⟨x.o % 15, x.d % 8, x.a % 8, x.b % 8, 0⟩
set_option maxHeartbeats 1000000 in
theorem fit_any (x : In) (i n : Int) (hx : x.ok) (h0 : 0 ≤ i) (h1 : i < n) (h2 : n ≤ 100000) (w : World) :
    Calls Try.prog 43 #[.agg #[.int .u8 x.o, .int .u8 x.d, .int .u8 x.a, .int .u8 x.b, .int .i64 x.n], .int .i64 i, .int .i64 n, .bool false] w fun e w' => e = .returned (.agg #[.int .u8 (fitI x i n).o, .int .u8 (fitI x i n).d, .int .u8 (fitI x i n).a, .int .u8 (fitI x i n).b, .int .i64 (fitI x i n).n]) ∧ Below w.heap.size w w' := by
  obtain ⟨⟨o0, o1⟩, ⟨d0, d1⟩, ⟨a0, a1⟩, ⟨b0, b1⟩, hn⟩ := hx
  have qo := Int.tmod_eq_emod_of_nonneg (b := 15) o0
  have qd := Int.tmod_eq_emod_of_nonneg (b := 8) d0
  have qy := Int.tmod_eq_emod_of_nonneg (b := 5) d0
  have qa := Int.tmod_eq_emod_of_nonneg (b := 8) a0
  have qb := Int.tmod_eq_emod_of_nonneg (b := 8) b0
  have ms : ∀ b : Int, 0 < b → b ≤ 4611686018427387904 → ∀ w, Calls Try.prog 78 #[.int .i64 x.n, .int .i64 b] w fun e w' => e = .returned (.int .i64 (x.n % b)) ∧ w = w' := fun b h h' w => mod_any x.n b hn h h' w
  have gm : IntKind.i64.wrap (x.n % 4294967296 - 2147483648) = x.n % 4294967296 - 2147483648 := by rw [IntKind.wrap_i64]; omega
  have gk : IntKind.i64.wrap (n - i) = n - i := by rw [IntKind.wrap_i64]; omega
  have hop : x.o % 15 = 0 ∨ x.o % 15 = 1 ∨ x.o % 15 = 2 ∨ x.o % 15 = 3 ∨ x.o % 15 = 4 ∨ x.o % 15 = 5 ∨ x.o % 15 = 6 ∨ x.o % 15 = 7 ∨ x.o % 15 = 8 ∨ x.o % 15 = 9 ∨ x.o % 15 = 10 ∨ x.o % 15 = 11 ∨ x.o % 15 = 12 ∨ x.o % 15 = 13 ∨ x.o % 15 = 14 := by omega
  unfold fitI
  rcases hop with h | h | h | h | h | h | h | h | h | h | h | h | h | h | h
  · rw [h]
    exact fit_0 x i n _ _ (qo.trans h) qd gm (Lib.hid (ms 4294967296 (by omega) (by omega))) w
  · rw [h]
    exact fit_1 x i n _ _ (qo.trans h) qd qa w
  · rw [h]
    exact fit_2 x i n _ _ _ (qo.trans h) qd qa qb w
  · rw [h]
    exact fit_3 x i n _ _ _ (qo.trans h) qd qa qb w
  · rw [h]
    exact fit_4 x i n _ _ _ (qo.trans h) qd qa qb w
  · rw [h]
    exact fit_5 x i n _ _ _ (qo.trans h) qd qa qb w
  · rw [h]
    exact fit_6 x i n _ _ _ (qo.trans h) qd qa qb w
  · rw [h]
    exact fit_7 x i n _ _ _ (qo.trans h) qd qa qb w
  · rw [h]
    exact fit_8 x i n _ _ _ (qo.trans h) qd qa qb w
  · rw [h]
    exact fit_9 x i n _ _ _ (qo.trans h) qd qa (Lib.hid (ms 32 (by omega) (by omega))) w
  · rw [h]
    exact fit_10 x i n _ _ _ (qo.trans h) qd qa (Lib.hid (ms 32 (by omega) (by omega))) w
  · rw [h]
    exact fit_11 x i n _ _ _ (qo.trans h) qd qa qb w
  · rw [h]
    exact fit_12 x i n _ _ _ (qo.trans h) qa gk (Lib.hid (ms (n - i) (by omega) (by omega))) w
  · rw [h]
    exact fit_13 x i n _ _ _ (qo.trans h) qa qb qy w
  · rw [h]
    exact fit_14 x i n _ _ _ (qo.trans h) qa qb qy w
set_option maxHeartbeats 1000000 in
theorem fitI_one (x : In) (i n : Int) (h0 : 0 ≤ i) (h1 : i < n) : oneB (fitI x i n) i n = true := by
  have hop : x.o % 15 = 0 ∨ x.o % 15 = 1 ∨ x.o % 15 = 2 ∨ x.o % 15 = 3 ∨ x.o % 15 = 4 ∨ x.o % 15 = 5 ∨ x.o % 15 = 6 ∨ x.o % 15 = 7 ∨ x.o % 15 = 8 ∨ x.o % 15 = 9 ∨ x.o % 15 = 10 ∨ x.o % 15 = 11 ∨ x.o % 15 = 12 ∨ x.o % 15 = 13 ∨ x.o % 15 = 14 := by omega
  have e0 := Int.emod_nonneg x.n (show n - i ≠ 0 by omega)
  have e1 := Int.emod_lt_of_pos x.n (show 0 < n - i by omega)
  unfold oneB fitI
  refine decide_eq_true ?_
  rcases hop with h | h | h | h | h | h | h | h | h | h | h | h | h | h | h <;> rw [h] <;> simp [us, ms, lo, hi] <;> omega
set_option maxHeartbeats 1000000 in
theorem fitI_ok (x : In) (i n : Int) (h0 : 0 ≤ i) (h1 : i < n) (h2 : n ≤ 100000) : (fitI x i n).ok := by
  have hop : x.o % 15 = 0 ∨ x.o % 15 = 1 ∨ x.o % 15 = 2 ∨ x.o % 15 = 3 ∨ x.o % 15 = 4 ∨ x.o % 15 = 5 ∨ x.o % 15 = 6 ∨ x.o % 15 = 7 ∨ x.o % 15 = 8 ∨ x.o % 15 = 9 ∨ x.o % 15 = 10 ∨ x.o % 15 = 11 ∨ x.o % 15 = 12 ∨ x.o % 15 = 13 ∨ x.o % 15 = 14 := by omega
  have e0 := Int.emod_nonneg x.n (show n - i ≠ 0 by omega)
  have e1 := Int.emod_lt_of_pos x.n (show 0 < n - i by omega)
  unfold fitI
  rcases hop with h | h | h | h | h | h | h | h | h | h | h | h | h | h | h <;> rw [h] <;> constructor <;> simp <;> omega
end Go.Proofs.Ytfmmfaeognoleaa.C
/-
  The contracts of Samples and Target, of the program and of the reference; the statements' few.
-/
namespace Go.Proofs.Ytfmmfaeognoleaa.C
open Go.RowKit
attribute [local go_sem ↓] Go.wp_at_zero Go.wp_at_succ

/-- An instruction that asks for a picture. -/
def tex (x : In) : Bool := decide (x.o = 13 ∨ x.o = 14)
theorem us_tex (o : Int) : (us o = 15 ↔ o = 13 ∨ o = 14) ∧ (us o = 0 ∨ us o = 1 ∨ us o = 2 ∨ us o = 3 ∨ us o = 7 ∨ us o = 15) := by
  unfold us
  split
  · omega
  · split
    · omega
    · split
      · omega
      · split
        · omega
        · split
          · omega
          · omega
theorem any_hit {l : List In} {k : Nat} {u : In} (h : l[k]? = some u) (ht : tex u = true) : l.any tex = true := List.any_eq_true.2 ⟨u, List.mem_of_getElem? h, ht⟩
theorem any_none {l : List In} (h : ∀ (i : Nat) x, l[i]? = some x → tex x = false) : l.any tex = false := by
  rw [List.any_eq_false]
  intro x hx
  obtain ⟨i, hi⟩ := List.getElem?_of_mem hx
  rw [h i x hi]
  simp

set_option maxRecDepth 100000 in
set_option maxHeartbeats 4000000 in
theorem samples_any (l : List In) (A : Option Addr) (c : Nat) (hlen : l.length ≤ 100000) (hok : ∀ x ∈ l, x.ok) (w : World) (he : Es EI w w.heap.size A l) :
    Calls Try.prog 109 #[.slice A l.length c] w fun e w' => e = .returned (.bool (l.any tex)) ∧ Below w.heap.size w w' := by
  have HGd := Lib.hid (any_none (l := l))
  have HBd := Lib.hid (fun (k : Nat) (u : In) (h : l[k]? = some u) (hr : tex u = true) => any_hit h hr)
  have HL := Lib.hid (fun (k : Nat) (h : k < l.length) => get_lt h)
  generalize l.any tex = R at *
  obtain ⟨n, hn⟩ : ∃ n, l.length = n := ⟨_, rfl⟩
  rw [hn] at HL hlen ⊢
  have HE := Lib.hid he
  have HO := Lib.hid (fun x (h : x ∈ l) => hok x h)
  replace hn := Lib.hid hn
  clear he hok
  go_enter Try.func109, Try.ntmps109
  go_wp2_with fail
  go_loopw [7] (fun i wr => ∃ k : Nat, k ≤ n ∧ i = .int .i64 k ∧ (∀ (j : Nat) x, j < k → l[j]? = some x → tex x = false) ∧ Below w.heap.size w wr) (fun i _ => n - (intOf i).toNat)
  case atStart => exact ⟨0, Nat.zero_le _, rfl, fun j x h => absurd h (Nat.not_lt_zero _), Below.refl _ _⟩
  case round =>
    obtain ⟨k, hk, rfl, hin, hb⟩ := hrel
    have HB := Lib.hid hb
    have HI := Lib.hid hin
    clear hin hb
    by_cases hlt : k < n
    · obtain ⟨u, hu⟩ := HL.out k hlt
      obtain ⟨b, off, rfl, hbB, hat⟩ := HE.out.at hu
      obtain ⟨c0, c1, c2, c3, c4⟩ := atI (show AtE EI wr b (off + k * 5) u from hat.below HB.out hbB)
      have hbw := Nat.lt_of_lt_of_le hbB HB.out.size
      have HU := Lib.hid (fun w' => uses_any u.o (HO.out u (List.mem_of_getElem? hu)).o.1 w')
      have B2 := Lib.hid (bstep HB.out HB.out.size (new_below wr (inB u)))
      have hT := Lib.hid (us_tex u.o)
      replace hu := Lib.hid hu
      generalize us u.o = U at *
      clear hat
      go_wp2_with fail
      with_reducible refine (HU.out _).mono ?_
      rintro e w2 ⟨rfl, rfl⟩
      clear HU c0 c1 c2 c3 c4
      obtain ⟨ht, hs⟩ := hT.out
      clear hT
      rcases hs with rfl | rfl | rfl | rfl | rfl | rfl
      case inr.inr.inr.inr.inr =>
        obtain rfl : R = true := HBd.out k u hu.out (decide_eq_true (ht.1 rfl))
        clear ht
        go_wp2_with fail
        go_ret
        exact ⟨rfl, B2.out⟩
      all_goals
        replace ht := Lib.hid (show tex u = false from decide_eq_false (fun h => by have := ht.2 h; omega))
        go_wp2_with fail
        go_roundw
        case rel =>
          refine ⟨k + 1, by omega, by go_num, fun j x hj hx => ?_, B2.out⟩
          rcases Nat.lt_or_ge j k with h | h
          · exact HI.out j x h hx
          · obtain rfl : j = k := by omega
            have h5 := hu.out
            rw [hx] at h5
            cases h5
            exact ht.out
        case measure => simp [intOf]; omega
    · obtain rfl : k = n := by omega
      obtain rfl : R = false := HGd.out fun i x hx => HI.out i x (by have := (List.getElem?_eq_some_iff.1 hx).1; rw [hn.out] at this; exact this) hx
      go_wp2_with fail
      go_ret
      exact ⟨rfl, HB.out⟩

theorem Es.take {w : World} {B : Nat} {A : Option Addr} {xs : List In} (h : Es EI w B A xs) (k : Nat) : Es EI w B A (xs.take k) := fun hne => by
  obtain ⟨b, off, e, hb, hc⟩ := h (by rintro rfl; simp at hne)
  refine ⟨b, off, e, hb, fun j u hj => hc j u ?_⟩
  rw [List.getElem?_take] at hj
  split at hj
  · exact hj
  · cases hj
end Go.Proofs.Ytfmmfaeognoleaa.C
/-
  The contract of the reference's Fit: a program that may be, of any one.
-/
namespace Go.Proofs.Ytfmmfaeognoleaa.C
open Go.RowKit
attribute [local go_sem ↓] Go.wp_at_zero Go.wp_at_succ

def mov : In := ⟨1, 0, 0, 0, 0⟩
/-- How many instructions Fit tells of so many. -/
def fitN (n : Nat) : Nat := min n 32
def fitAt (l : List In) (i : Nat) : In := fitI (l.getD i mov) i (fitN l.length)
def fitP (l : List In) : List In := if l.length = 0 then [mov] else (List.range (fitN l.length)).map (fitAt l)
theorem mov_ok : mov.ok := by unfold mov; constructor <;> decide
theorem getD_ok {l : List In} (h : ∀ x ∈ l, x.ok) (i : Nat) : (l.getD i mov).ok := by
  rw [List.getD_eq_getElem?_getD]
  cases e : l[i]? with
  | none => exact mov_ok
  | some c => exact h c (List.mem_of_getElem? e)
theorem fitP_len (l : List In) : 1 ≤ (fitP l).length ∧ (fitP l).length ≤ 32 := by
  unfold fitP fitN
  split
  · exact ⟨Nat.le_refl _, by decide⟩
  · simp; omega
theorem fitP_one (l : List In) : ∀ (i : Nat) x, (fitP l)[i]? = some x → oneB x i (fitP l).length = true ∧ ((∀ y ∈ l, y.ok) → x.ok) := by
  unfold fitP
  intro i x hi
  split at hi
  · rename_i h0
    rw [if_pos h0]
    match i, hi with
    | 0, hi =>
      obtain rfl : mov = x := by simpa using hi
      exact ⟨by decide, fun _ => mov_ok⟩
    | i + 1, hi => simp at hi
  · rename_i h0
    rw [if_neg h0]
    rw [List.getElem?_map] at hi
    have hil : i < fitN l.length := by
      rcases Nat.lt_or_ge i (fitN l.length) with h | h
      · exact h
      · rw [List.getElem?_eq_none (by simpa using h)] at hi; cases hi
    rw [List.getElem?_range hil] at hi
    obtain rfl : fitAt l i = x := by simpa using hi
    have hN : fitN l.length ≤ 32 := by unfold fitN; omega
    rw [List.length_map, List.length_range]
    refine ⟨fitI_one _ _ _ (by omega) (by omega), fun hok => fitI_ok _ _ _ (by omega) (by omega) (by omega)⟩
theorem fitP_ok {l : List In} (hok : ∀ y ∈ l, y.ok) : ∀ x ∈ fitP l, x.ok := by
  intro x hx
  obtain ⟨i, hi⟩ := List.getElem?_of_mem hx
  exact (fitP_one l i x hi).2 hok
theorem fitP_chk (l : List In) : chk (fitP l) = 0 := chk_good (by have := fitP_len l; omega) (by have := fitP_len l; omega) fun i x hi => (fitP_one l i x hi).1
theorem new_keep {w : World} {g : Nat} {x : Obj} (o : Obj) (h : w.heap[g]? = some x) : (w.alloc o).heap[g]? = some x := by
  rw [Below.heap_alloc _ _ _ (Array.getElem?_eq_some_iff.1 h).1]
  exact h
theorem newI_at {w : World} {u : In} {g : Nat} (hg : g = w.heap.size) : ∀ j x, (EI.cells u)[j]? = some x → (w.alloc (.cells #[.int .u8 u.o, .int .u8 u.d, .int .u8 u.a, .int .u8 u.b, .int .i64 u.n] 70)).cell? ((⟨g, 0, none⟩ : Addr).add j) = some x := by
  subst hg
  exact new_el (E := EI) w u _ rfl
theorem range_snoc (f : Nat → In) (k : Nat) : (List.range (k + 1)).map f = (List.range k).map f ++ [f k] := by rw [List.range_succ, List.map_append]; rfl
theorem ownI_new (w : World) (xs : List In) (cs : Array Value) (h : cs.toList = EI.flat xs) (hl : xs.length ≤ 100000) : OwnE EI (w.alloc (.cells cs 70)) w.heap.size (.slice (some ⟨w.heap.size, 0, none⟩) xs.length xs.length) xs := by
  have hs : cs.size = xs.length * 5 := by
    have := EI.flat_length xs
    rw [← h, Array.length_toList] at this
    exact this
  exact ⟨by rw [EI.flat_length], .inr ⟨w.heap.size, xs.length, cs, rfl, Nat.le_refl _, heap_alloc_new _ _, Nat.le_refl _, by unfold maxLen; omega, hs, by rw [h]; exact List.take_of_length_le (Nat.le_of_eq (EI.flat_length xs))⟩⟩

theorem Try.info70 : (Try.prog.info? 70).map (fun i => (i.zero, i.size, i.bytes)) = some (some (.agg #[.int .u8 0, .int .u8 0, .int .u8 0, .int .u8 0, .int .i64 0]), 5, 16) := by kernel_rfl

set_option maxRecDepth 100000 in
set_option maxHeartbeats 4000000 in
theorem Fit_any (l : List In) (A : Option Addr) (c : Nat) (hok : ∀ x ∈ l, x.ok) (w : World) (he : Es EI w w.heap.size A l) :
    Calls Try.prog 25 #[.slice A l.length c, .bool false] w (MadeE EI w.heap.size w (fitP l)) := by
  by_cases h0 : l.length = 0
  · have e : fitP l = [mov] := if_pos h0
    rw [e, h0]
    have HO := Lib.hid (ownI_new w [mov] #[.int .u8 1, .int .u8 0, .int .u8 0, .int .u8 0, .int .i64 0] rfl (by decide))
    have HB := Lib.hid (new_below w (.cells #[.int .u8 1, .int .u8 0, .int .u8 0, .int .u8 0, .int .i64 0] 70))
    go_enter Try.func25, Try.ntmps25
    go_wp2_with fail
    go_ret
    exact ⟨_, rfl, HO.out, HB.out⟩
  obtain ⟨i0, hi, hz0, hz1, hz2⟩ := info_parts Try.info70
  have HI := Lib.hid hi
  have HZ := Lib.hid (And.intro hz0 (And.intro hz1 hz2))
  clear hi hz0 hz1 hz2
  have e : fitP l = (List.range (fitN l.length)).map (fitAt l) := if_neg h0
  rw [e]
  have hmin : min (l.length : Int) 32 = (fitN l.length : Int) := by unfold fitN; omega
  have hml : fitN l.length ≤ l.length := by unfold fitN; omega
  have hm32 : fitN l.length ≤ 32 := by unfold fitN; omega
  have HFA := Lib.hid (fun (k : Nat) (u : In) (h : l[k]? = some u) => show fitAt l k = fitI u k (fitN l.length) by unfold fitAt; rw [List.getD_eq_getElem?_getD, h]; rfl)
  have HL := Lib.hid (fun (k : Nat) (h : k < l.length) => get_lt h)
  have HE := Lib.hid he
  have HK := Lib.hid (fun x (h : x ∈ l) => hok x h)
  generalize fitN l.length = m at *
  generalize l.length = n at *
  have hn0 : ((n : Int) == 0) = false := by simpa using (show ¬ (n : Int) = 0 by omega)
  have HB0 := Lib.hid (new_below w (.cells #[] 70))
  have HO0 := Lib.hid (ownE_empty (E := EI) w (Nat.le_refl w.heap.size))
  clear he hok e h0
  go_enter Try.func25, Try.ntmps25
  go_wp2_with fail
  go_loopw [6, 7] (fun b i wr => ∃ k : Nat, k ≤ m ∧ i = .int .i64 k ∧ Below w.heap.size w wr ∧ OwnE EI wr w.heap.size b ((List.range k).map (fitAt l))) (fun _ i _ => m - (intOf i).toNat)
  case atStart => exact ⟨0, Nat.zero_le _, rfl, HB0.out, HO0.out⟩
  case round =>
    obtain ⟨k, hk, rfl, hb, ho⟩ := hrel
    obtain ⟨A1, c1, rfl⟩ := ho.form
    have HB := Lib.hid hb
    have HO := Lib.hid ho
    clear hb ho
    by_cases hlt : k < m
    · obtain ⟨x, hx⟩ := HL.out k (by omega)
      obtain ⟨b, off, rfl, hbB, hat⟩ := HE.out.at hx
      obtain ⟨c0, c1', c2, c3, c4⟩ := atI (show AtE EI wr b (off + k * 5) x from hat.below HB.out hbB)
      have hbw := Nat.lt_of_lt_of_le hbB HB.out.size
      have HU := Lib.hid (fun w' => fit_any x k m (HK.out x (List.mem_of_getElem? hx)) (by omega) (by omega) (by omega) w')
      have hu := HFA.out k x hx
      obtain ⟨u, hfu⟩ : ∃ u, fitI x k m = u := ⟨_, rfl⟩
      rw [hfu] at HU hu
      have HS := Lib.hid (show (List.range (k + 1)).map (fitAt l) = (List.range k).map (fitAt l) ++ [u] by rw [range_snoc, hu])
      have hcl : ((List.range k).map (fitAt l)).length = k := by simp
      generalize (List.range k).map (fitAt l) = cs at *
      have HC := Lib.hid hcl
      have hc256 : cs.length ≤ 256 := by omega
      clear hcl hat hx hu hfu
      go_wp2_with fail
      with_reducible refine (HU.out _).mono ?_
      rintro e w2 ⟨rfl, hb2⟩
      have B2 := Lib.hid (bstep HB.out HB.out.size hb2)
      have O1 := Lib.hid (HO.out.keep hb2)
      have O2 := Lib.hid (O1.out.alloc (.cells #[.int .u8 u.o, .int .u8 u.d, .int .u8 u.a, .int .u8 u.b, .int .i64 u.n] 70))
      have hz2 : w.heap.size ≤ w2.heap.size := B2.out.size
      clear hb2 HU c0 c1' c2 c3 c4
      go_wp2_with (at_builtin; refine wpList_append_own _ rfl _ _ 65 rfl w.heap.size 70 i0 _ 5 16 Try.underlying65 HI.out HZ.out.1 HZ.out.2.1 HZ.out.2.2 (by kernel_rfl) (by decide) _ _ (EI.flat cs) rfl O2.out.row _ 1 1 (EI.cells u) rfl rfl (newI_at rfl) (EI.one _) (by unfold maxLen; omega) (by omega) (by simp; omega) ?_; intro v' w6 hown' hgrow _; obtain ⟨ho6, hb6⟩ := append_ofE (E := EI) (x := u) O1.out (by omega) hown' hgrow; obtain ⟨A2, c2', rfl⟩ := ho6.form; have O6 := Lib.hid ho6; have B6 := Lib.hid hb6; clear hown' hgrow ho6 hb6)
      go_roundw
      case rel =>
        exact ⟨k + 1, by omega, by go_num, B2.out.trans B6.out, by rw [HS.out]; have h := O6.out; rw [List.length_append] at h; exact h⟩
      case measure => simp [intOf]; omega
    · obtain rfl : k = m := by omega
      go_wp2_with fail
      go_ret
      exact ⟨_, rfl, HO.out, HB.out⟩
end Go.Proofs.Ytfmmfaeognoleaa.C
