/-
  The walk of glazierlaw02.ColourHides.
-/
import Derived.Test.YtpnjhmmodkhmfaaHidQ
namespace Go.Proofs.Ytpnjhmmodkhmfaa
open Go.RowKit
attribute [local go_sem ↓] Go.wp_at_zero Go.wp_at_succ

set_option maxRecDepth 100000 in
set_option maxHeartbeats 8000000 in
theorem colourHides_walk (a b : Col) (L : List Col) (ad : Option Addr) (n cap : Nat) (w : World) (ha : a.ok) (hb : b.ok) (hl : ∀ x ∈ L, x.ok) (h40 : L.length ≤ 40) (hr : Row w ad L) (hsrc : Src w ad L)
    (F : ∀ W, Calls Try.prog 10 #[.slice ad n cap] W fun e w' => e = .returned (.slice ad L.length cap) ∧ W = w') :
    Calls Try.prog 5 #[.agg #[.int .u8 a.r, .int .u8 a.g, .int .u8 a.b, .int .u8 a.a], .agg #[.int .u8 b.r, .int .u8 b.g, .int .u8 b.b, .int .u8 b.a], .slice ad n cap] w fun e w' => e = .returned (.bool true) ∧ Below w.heap.size w w' := by
  have HF := Lib.hid F
  have HR := Lib.hid hr
  have HSR := Lib.hid hsrc
  have HL := Lib.hid hl
  clear F hr hsrc hl
  go_enter Try.func5, Try.ntmps5
  go_wp2_with fail
  refine (shown_any _).mono ?_
  rintro e w1 ⟨rfl, hb1⟩
  have ba1 : w1.heap[w.heap.size]? = some (colB a) := by rw [hb1.block _ (by simp <;> omega)]; exact (new_two _ _ _).1
  have bb1 : w1.heap[w.heap.size + 1]? = some (colB b) := by rw [hb1.block _ (by simp <;> omega)]; exact (new_two _ _ _).2
  obtain ⟨e0, e1, e2, e3⟩ := colB_cell ba1
  obtain ⟨i0, i1, i2, i3⟩ := colB_cell bb1
  have z1 : w.heap.size + 1 < w1.heap.size := World.block_lt_of_cell? _ _ i0
  have z1' : w.heap.size < w1.heap.size := by omega
  have z1a : w.heap.size < w1.heap.size + 1 := by omega
  have HA1 := Lib.hid ba1
  have HB1 := Lib.hid bb1
  have HBE1 := Lib.hid (below2 hb1)
  clear hb1 ba1 bb1
  go_wp2_with (go_at_call 10; refine (HF.out _).mono ?_; rintro e w' ⟨rfl, rfl⟩)
  have hW : ∃ W, W = (w1.alloc (colB (wholeOf a))).alloc (colB noneC) := ⟨_, rfl⟩
  obtain ⟨W, hW⟩ := hW
  change Code.wp _ _ _ _ ((w1.alloc (colB (wholeOf a))).alloc (colB noneC))
  rw [← hW]
  have HWA := Lib.hid (show W.heap[w.heap.size]? = some (colB a) by rw [hW, Below.heap_alloc _ _ _ (by simp; omega), Below.heap_alloc _ _ _ (by omega)]; exact HA1.out)
  have HWB := Lib.hid (show W.heap[w.heap.size + 1]? = some (colB b) by rw [hW, Below.heap_alloc _ _ _ (by simp; omega), Below.heap_alloc _ _ _ (by omega)]; exact HB1.out)
  have HWW := Lib.hid (show W.heap[w1.heap.size]? = some (colB (wholeOf a)) by rw [hW]; exact (new_two _ _ _).1)
  have HWN := Lib.hid (show W.heap[w1.heap.size + 1]? = some (colB noneC) by rw [hW]; exact (new_two _ _ _).2)
  have HWE := Lib.hid (show Below w.heap.size w W by rw [hW]; exact (HBE1.out.alloc HBE1.out.size _).alloc (by simp; have := HBE1.out.size; omega) _)
  clear hW e0 e1 e2 e3 i0 i1 i2 i3 z1a HA1 HB1 HBE1
  have ne := Grow.ne W
  have ga0 : ∀ x : Grow W, x.w.cell? ⟨w.heap.size, 0, none⟩ = some (.int .u8 a.r) := fun x => x.cell ((colB_cell HWA.out).1)
  have ga1 : ∀ x : Grow W, x.w.cell? ⟨w.heap.size, 1, none⟩ = some (.int .u8 a.g) := fun x => x.cell ((colB_cell HWA.out).2.1)
  have ga2 : ∀ x : Grow W, x.w.cell? ⟨w.heap.size, 2, none⟩ = some (.int .u8 a.b) := fun x => x.cell ((colB_cell HWA.out).2.2.1)
  have ga3 : ∀ x : Grow W, x.w.cell? ⟨w.heap.size, 3, none⟩ = some (.int .u8 a.a) := fun x => x.cell ((colB_cell HWA.out).2.2.2)
  have gb0 : ∀ x : Grow W, x.w.cell? ⟨w.heap.size + 1, 0, none⟩ = some (.int .u8 b.r) := fun x => x.cell ((colB_cell HWB.out).1)
  have gb1 : ∀ x : Grow W, x.w.cell? ⟨w.heap.size + 1, 1, none⟩ = some (.int .u8 b.g) := fun x => x.cell ((colB_cell HWB.out).2.1)
  have gb2 : ∀ x : Grow W, x.w.cell? ⟨w.heap.size + 1, 2, none⟩ = some (.int .u8 b.b) := fun x => x.cell ((colB_cell HWB.out).2.2.1)
  have gb3 : ∀ x : Grow W, x.w.cell? ⟨w.heap.size + 1, 3, none⟩ = some (.int .u8 b.a) := fun x => x.cell ((colB_cell HWB.out).2.2.2)
  have gw0 : ∀ x : Grow W, x.w.cell? ⟨w1.heap.size, 0, none⟩ = some (.int .u8 (wholeOf a).r) := fun x => x.cell ((colB_cell HWW.out).1)
  have gw1 : ∀ x : Grow W, x.w.cell? ⟨w1.heap.size, 1, none⟩ = some (.int .u8 (wholeOf a).g) := fun x => x.cell ((colB_cell HWW.out).2.1)
  have gw2 : ∀ x : Grow W, x.w.cell? ⟨w1.heap.size, 2, none⟩ = some (.int .u8 (wholeOf a).b) := fun x => x.cell ((colB_cell HWW.out).2.2.1)
  have gw3 : ∀ x : Grow W, x.w.cell? ⟨w1.heap.size, 3, none⟩ = some (.int .u8 (wholeOf a).a) := fun x => x.cell ((colB_cell HWW.out).2.2.2)
  have gn0 : ∀ x : Grow W, x.w.cell? ⟨w1.heap.size + 1, 0, none⟩ = some (.int .u8 noneC.r) := fun x => x.cell ((colB_cell HWN.out).1)
  have gn1 : ∀ x : Grow W, x.w.cell? ⟨w1.heap.size + 1, 1, none⟩ = some (.int .u8 noneC.g) := fun x => x.cell ((colB_cell HWN.out).2.1)
  have gn2 : ∀ x : Grow W, x.w.cell? ⟨w1.heap.size + 1, 2, none⟩ = some (.int .u8 noneC.b) := fun x => x.cell ((colB_cell HWN.out).2.2.1)
  have gn3 : ∀ x : Grow W, x.w.cell? ⟨w1.heap.size + 1, 3, none⟩ = some (.int .u8 noneC.a) := fun x => x.cell ((colB_cell HWN.out).2.2.2)
  have okW := wholeOf_ok ha
  have S1 := Lib.hid (show ∀ y : Grow W, Calls Try.prog 15 #[.agg #[.int .u8 (wholeOf a).r, .int .u8 (wholeOf a).g, .int .u8 (wholeOf a).b, .int .u8 (wholeOf a).a], .agg #[.int .u8 b.r, .int .u8 b.g, .int .u8 b.b, .int .u8 b.a]] y.w fun e w' => e = .returned (.agg #[.int .u8 (wholeOf a).r, .int .u8 (wholeOf a).g, .int .u8 (wholeOf a).b, .int .u8 (wholeOf a).a]) ∧ Below y.w.heap.size y.w w' from fun y => by have h := over_col (wholeOf a) b y.w okW hb; rwa [over_whole ha] at h)
  have S2 := Lib.hid (show ∀ y : Grow W, Calls Try.prog 15 #[.agg #[.int .u8 noneC.r, .int .u8 noneC.g, .int .u8 noneC.b, .int .u8 noneC.a], .agg #[.int .u8 b.r, .int .u8 b.g, .int .u8 b.b, .int .u8 b.a]] y.w fun e w' => e = .returned (.agg #[.int .u8 b.r, .int .u8 b.g, .int .u8 b.b, .int .u8 b.a]) ∧ Below y.w.heap.size y.w w' from fun y => by have h := over_col noneC b y.w noneC_ok hb; rwa [over_none hb] at h)
  have S3 := Lib.hid (show ∀ y : Grow W, Calls Try.prog 17 #[.agg #[.int .u8 b.r, .int .u8 b.g, .int .u8 b.b, .int .u8 b.a], .slice none 0 0] y.w fun e w' => e = .returned (.agg #[.int .u8 b.r, .int .u8 b.g, .int .u8 b.b, .int .u8 b.a]) ∧ Below y.w.heap.size y.w w' from fun y => fold_nil b none 0 y.w)
  have S4 := Lib.hid (show ∀ y : Grow W, Calls Try.prog 15 #[.agg #[.int .u8 a.r, .int .u8 a.g, .int .u8 a.b, .int .u8 a.a], .agg #[.int .u8 noneC.r, .int .u8 noneC.g, .int .u8 noneC.b, .int .u8 noneC.a]] y.w fun e w' => e = .returned (.agg #[.int .u8 a.r, .int .u8 a.g, .int .u8 a.b, .int .u8 a.a]) ∧ Below y.w.heap.size y.w w' from fun y => by have h := over_col a noneC y.w ha noneC_ok; rwa [over_at_none ha] at h)
  refine wp_region_grow (by kernel_rfl) (by kernel_rfl) ?_
  repeat (go_big_quiet_step ((first
    | (go_at_call 15; first | with_reducible exact Grow.calls (S1.out _) | with_reducible exact Grow.calls (S2.out _) | with_reducible exact Grow.calls (S4.out _))
    | (go_at_call 17; with_reducible exact Grow.calls (S3.out _)))))
  refine wpQuiet_nil ?_
  rintro _ ⟨x, rfl⟩
  have zA : w.heap.size < W.heap.size := World.block_lt_of_cell? _ _ (colB_cell HWA.out).1
  have zB : w.heap.size + 1 < W.heap.size := World.block_lt_of_cell? _ _ (colB_cell HWB.out).1
  have zW : w1.heap.size < W.heap.size := World.block_lt_of_cell? _ _ (colB_cell HWW.out).1
  have zN : w1.heap.size + 1 < W.heap.size := World.block_lt_of_cell? _ _ (colB_cell HWN.out).1
  have KA := Lib.hid ((x.below.block _ zA).trans HWA.out)
  have KB := Lib.hid ((x.below.block _ zB).trans HWB.out)
  have KW := Lib.hid ((x.below.block _ zW).trans HWW.out)
  have KN := Lib.hid ((x.below.block _ zN).trans HWN.out)
  have KE := Lib.hid (bstep HWE.out HWE.out.size x.below)
  clear ga0 ga1 ga2 ga3 gb0 gb1 gb2 gb3 gw0 gw1 gw2 gw3 gn0 gn1 gn2 gn3 S1 S2 S3 S4 ne HWA HWB HWW HWN HWE zA zB zW zN
  generalize x.w = V at *
  clear x W
  go_wp2_with fail
  have ne := Grow.ne V
  have ga0 : ∀ x : Grow V, x.w.cell? ⟨w.heap.size, 0, none⟩ = some (.int .u8 a.r) := fun x => x.cell ((colB_cell KA.out).1)
  have ga1 : ∀ x : Grow V, x.w.cell? ⟨w.heap.size, 1, none⟩ = some (.int .u8 a.g) := fun x => x.cell ((colB_cell KA.out).2.1)
  have ga2 : ∀ x : Grow V, x.w.cell? ⟨w.heap.size, 2, none⟩ = some (.int .u8 a.b) := fun x => x.cell ((colB_cell KA.out).2.2.1)
  have ga3 : ∀ x : Grow V, x.w.cell? ⟨w.heap.size, 3, none⟩ = some (.int .u8 a.a) := fun x => x.cell ((colB_cell KA.out).2.2.2)
  have gb0 : ∀ x : Grow V, x.w.cell? ⟨w.heap.size + 1, 0, none⟩ = some (.int .u8 b.r) := fun x => x.cell ((colB_cell KB.out).1)
  have gb1 : ∀ x : Grow V, x.w.cell? ⟨w.heap.size + 1, 1, none⟩ = some (.int .u8 b.g) := fun x => x.cell ((colB_cell KB.out).2.1)
  have gb2 : ∀ x : Grow V, x.w.cell? ⟨w.heap.size + 1, 2, none⟩ = some (.int .u8 b.b) := fun x => x.cell ((colB_cell KB.out).2.2.1)
  have gb3 : ∀ x : Grow V, x.w.cell? ⟨w.heap.size + 1, 3, none⟩ = some (.int .u8 b.a) := fun x => x.cell ((colB_cell KB.out).2.2.2)
  have gw0 : ∀ x : Grow V, x.w.cell? ⟨w1.heap.size, 0, none⟩ = some (.int .u8 (wholeOf a).r) := fun x => x.cell ((colB_cell KW.out).1)
  have gw1 : ∀ x : Grow V, x.w.cell? ⟨w1.heap.size, 1, none⟩ = some (.int .u8 (wholeOf a).g) := fun x => x.cell ((colB_cell KW.out).2.1)
  have gw2 : ∀ x : Grow V, x.w.cell? ⟨w1.heap.size, 2, none⟩ = some (.int .u8 (wholeOf a).b) := fun x => x.cell ((colB_cell KW.out).2.2.1)
  have gw3 : ∀ x : Grow V, x.w.cell? ⟨w1.heap.size, 3, none⟩ = some (.int .u8 (wholeOf a).a) := fun x => x.cell ((colB_cell KW.out).2.2.2)
  have gn0 : ∀ x : Grow V, x.w.cell? ⟨w1.heap.size + 1, 0, none⟩ = some (.int .u8 noneC.r) := fun x => x.cell ((colB_cell KN.out).1)
  have gn1 : ∀ x : Grow V, x.w.cell? ⟨w1.heap.size + 1, 1, none⟩ = some (.int .u8 noneC.g) := fun x => x.cell ((colB_cell KN.out).2.1)
  have gn2 : ∀ x : Grow V, x.w.cell? ⟨w1.heap.size + 1, 2, none⟩ = some (.int .u8 noneC.b) := fun x => x.cell ((colB_cell KN.out).2.2.1)
  have gn3 : ∀ x : Grow V, x.w.cell? ⟨w1.heap.size + 1, 3, none⟩ = some (.int .u8 noneC.a) := fun x => x.cell ((colB_cell KN.out).2.2.2)
  refine wp_region_held_drew (S := fun w' => ∃ x : Grow V, w' = x.w) (by kernel_rfl) ⟨⟨_, (Below.refl _ _).drew⟩, rfl⟩ (fun hS => ?_)
  change wpAnyH _ _ _ _ _ 52 #[false, false, false, false, false, false, false, false, false, false, false, false, false, false, false, false, false, false, false, false, false, false, false, false, false, false, false, false, false, false, false, false, false, false, false, false, false, false, false, false, false, false, false, false, false, false, false, false, false, false, false, false] _ _
  have Bv0 : Below V.heap.size V V.drew := (Below.refl _ _).drew
  generalize V.drew = v0 at *
  refine wpAnyH_take (i := 0) (v := (.bool true)) rfl (by kernel_rfl) (by kernel_rfl) (by kernel_rfl) (fun _ _ _ h => h) (Or.inl ⟨by rfl, fun w hw => by obtain ⟨x, rfl⟩ := hw; go_simp⟩) hS ?_
  simp only [Act.put, List.setIfInBounds_toArray, List.set_cons_zero, List.set_cons_succ, List.getElem_toArray, List.getElem_cons_zero]
  refine wpAnyH_take (i := 1) (v := (.bool true)) rfl (by kernel_rfl) (by kernel_rfl) (by kernel_rfl) (fun _ _ _ h => h) (Or.inl ⟨by rfl, fun w hw => by obtain ⟨x, rfl⟩ := hw; go_simp⟩) hS ?_
  simp only [Act.put, List.setIfInBounds_toArray, List.set_cons_zero, List.set_cons_succ, List.getElem_toArray, List.getElem_cons_zero, List.getElem_cons_succ]
  refine wpAnyH_take (i := 2) (v := (.agg #[.int .u8 b.r, .int .u8 b.g, .int .u8 b.b, .int .u8 b.a])) rfl (by kernel_rfl) (by kernel_rfl) (by kernel_rfl) (fun _ _ _ h => h) (Or.inl ⟨by rfl, fun w hw => by obtain ⟨x, rfl⟩ := hw; go_simp⟩) hS ?_
  simp only [Act.put, List.setIfInBounds_toArray, List.set_cons_zero, List.set_cons_succ, List.getElem_toArray, List.getElem_cons_zero, List.getElem_cons_succ]
  refine wpAnyH_take (i := 4) (v := (.slice ad L.length cap)) rfl (by kernel_rfl) (by kernel_rfl) (by kernel_rfl) (fun _ _ _ h => h) (Or.inl ⟨by rfl, fun w hw => by obtain ⟨x, rfl⟩ := hw; go_simp⟩) hS ?_
  simp only [Act.put, List.setIfInBounds_toArray, List.set_cons_zero, List.set_cons_succ, List.getElem_toArray, List.getElem_cons_zero, List.getElem_cons_succ]
  refine wpAnyH_take (i := 6) (v := (.agg #[.int .u8 (wholeOf a).r, .int .u8 (wholeOf a).g, .int .u8 (wholeOf a).b, .int .u8 (wholeOf a).a])) rfl (by kernel_rfl) (by kernel_rfl) (by kernel_rfl) (fun _ _ _ h => h) (Or.inl ⟨by rfl, fun w hw => by obtain ⟨x, rfl⟩ := hw; go_simp⟩) hS ?_
  simp only [Act.put, List.setIfInBounds_toArray, List.set_cons_zero, List.set_cons_succ, List.getElem_toArray, List.getElem_cons_zero, List.getElem_cons_succ]
  refine wpAnyH_take (i := 10) (v := (.agg #[.int .u8 (wholeOf a).r, .int .u8 (wholeOf a).g, .int .u8 (wholeOf a).b, .int .u8 (wholeOf a).a])) rfl (by kernel_rfl) (by kernel_rfl) (by kernel_rfl) (fun _ _ _ h => h) (Or.inl ⟨by rfl, fun w hw => by obtain ⟨x, rfl⟩ := hw; go_simp⟩) hS ?_
  simp only [Act.put, List.setIfInBounds_toArray, List.set_cons_zero, List.set_cons_succ, List.getElem_toArray, List.getElem_cons_zero, List.getElem_cons_succ]
  refine' share (F := fun (_ : Value) (y z : Value) (u : World) => Below V.heap.size V u ∧ u.ownsRow V.heap.size 23 4 y L.length (flat L) ∧ ∃ g, z = .slice (some ⟨g, 0, none⟩) 1 1 ∧ u.heap[g]? = some (colB (wholeOf a))) (T := _) (fun hT => ?_) ?_
  rotate_left
  · skip
    refine wpAnyH_ready (rs := [3, 7]) (by kernel_rfl) (by simp) ?_
    refine AllReadyH.cons rfl (fun K hK => ?_) ?_
    · skip
      go_simp
      refine hK.out _ _ ⟨⟨_, Bv0.alloc Bv0.size _⟩, rfl⟩ (fun hS => ?_)
      clear hK K
      simp only [List.setIfInBounds_toArray, List.set_cons_zero, List.set_cons_succ]
      obtain ⟨s44, h44⟩ : ∃ s, s = Value.slice (some ⟨v0.heap.size, 0, none⟩) 0 0 := ⟨_, rfl⟩
      obtain ⟨u1, hu⟩ : ∃ u, u = v0.alloc (.cells #[] 23) := ⟨_, rfl⟩
      rw [← h44, ← hu]
      rw [← hu] at hS
      have Ou1 := Lib.hid (show u1.ownsRow V.heap.size 23 4 s44 ([] : List Col).length (flat []) by rw [h44, hu]; exact owns_empty v0 V.heap.size Bv0.size)
      have Bu1 : Below V.heap.size V u1 := by rw [hu]; exact Bv0.alloc Bv0.size _
      have H44 := Lib.hid h44
      have HU := Lib.hid hu
      clear h44 hu
      refine wpAnyH_ready (rs := [5, 7]) (by kernel_rfl) (by simp) ?_
      refine AllReadyH.cons rfl (fun K hK => ?_) ?_
      · skip
        rw [if_pos (by rfl)]
        refine wp_append_cols (.tmp 44) (.tmp 45) V.heap.size s44 [] L ad L.length cap rfl rfl rfl rfl Ou1.out (HSR.out.grow (KE.out.trans (Bu1.mono KE.out.size))) (by simp; omega) Bu1.size ?_
        intro s46 u2 own46 hgr
        have Bu2 : Below V.heap.size V u2 := below_grown Bu1 Ou1.out hgr
        have Pu2 := Lib.hid own46
        refine hK.out _ _ ⟨⟨_, Bu2⟩, rfl⟩ (fun hS => ?_)
        clear hK K own46
        simp only [Act.put, List.setIfInBounds_toArray, List.set_cons_zero, List.set_cons_succ, List.getElem_toArray, List.getElem_cons_zero, List.getElem_cons_succ]
        refine wpAnyH_ready (rs := [7]) (by kernel_rfl) (by simp) ?_
        refine AllReadyH.cons rfl (fun K hK => ?_) ?_
        · skip
          go_simp
          refine hK.out _ _ ⟨⟨_, Bu2.alloc Bu2.size _⟩, rfl⟩ (fun hS => ?_)
          clear hK K
          simp only [List.setIfInBounds_toArray, List.set_cons_zero, List.set_cons_succ]
          obtain ⟨s48, h48⟩ : ∃ s, s = Value.slice (some ⟨u2.heap.size, 0, none⟩) 1 1 := ⟨_, rfl⟩
          obtain ⟨u3, hv⟩ : ∃ u, u = u2.alloc (colB (wholeOf a)) := ⟨_, rfl⟩
          change wpAnyH _ _ _ _ _ _ _ _ (u2.alloc (colB (wholeOf a)))
          rw [← h48, ← hv]
          change ∃ x : Grow V, u2.alloc (colB (wholeOf a)) = x.w at hS
          rw [← hv] at hS
          have Cu3 := Lib.hid (show u3.heap[u2.heap.size]? = some (colB (wholeOf a)) by rw [hv]; exact heap_alloc_new _ _)
          have Bu3 : Below V.heap.size V u3 := by rw [hv]; exact Bu2.alloc Bu2.size _
          have H48 := Lib.hid h48
          have HV := Lib.hid hv
          clear h48 hv
          exact hT s44 s46 s48 u3 ⟨Bu3, by rw [HV.out]; exact Pu2.out.alloc _, _, H48.out, Cu3.out⟩
        · exact AllReadyH.nil
      · skip
        refine AllReadyH.cons rfl (fun K hK => ?_) ?_
        · skip
          go_simp
          refine hK.out _ _ ⟨⟨_, Bu1.alloc Bu1.size _⟩, rfl⟩ (fun hS => ?_)
          clear hK K
          simp only [List.setIfInBounds_toArray, List.set_cons_zero, List.set_cons_succ]
          obtain ⟨s48, h48⟩ : ∃ s, s = Value.slice (some ⟨u1.heap.size, 0, none⟩) 1 1 := ⟨_, rfl⟩
          obtain ⟨u2, hv⟩ : ∃ u, u = u1.alloc (colB (wholeOf a)) := ⟨_, rfl⟩
          change wpAnyH _ _ _ _ _ _ _ _ (u1.alloc (colB (wholeOf a)))
          rw [← h48, ← hv]
          change ∃ x : Grow V, u1.alloc (colB (wholeOf a)) = x.w at hS
          rw [← hv] at hS
          have Cu2 := Lib.hid (show u2.heap[u1.heap.size]? = some (colB (wholeOf a)) by rw [hv]; exact heap_alloc_new _ _)
          have Bu2 : Below V.heap.size V u2 := by rw [hv]; exact Bu1.alloc Bu1.size _
          have H48 := Lib.hid h48
          have HV := Lib.hid hv
          clear h48 hv
          have Ou2 := Lib.hid (show u2.ownsRow V.heap.size 23 4 s44 ([] : List Col).length (flat []) by rw [HV.out]; exact Ou1.out.alloc _)
          refine wpAnyH_ready (rs := [5]) (by kernel_rfl) (by simp) ?_
          refine AllReadyH.cons rfl (fun K hK => ?_) ?_
          · skip
            rw [if_pos (by rfl)]
            refine wp_append_cols (.tmp 44) (.tmp 45) V.heap.size s44 [] L ad L.length cap rfl rfl rfl rfl Ou2.out (HSR.out.grow (KE.out.trans (Bu2.mono KE.out.size))) (by simp; omega) Bu2.size ?_
            intro s46 u3 own46 hgr
            have Bu3 : Below V.heap.size V u3 := below_grown Bu2 Ou2.out hgr
            have Pu3 := Lib.hid own46
            refine hK.out _ _ ⟨⟨_, Bu3⟩, rfl⟩ (fun hS => ?_)
            clear hK K own46
            simp only [Act.put, List.setIfInBounds_toArray, List.set_cons_zero, List.set_cons_succ, List.getElem_toArray, List.getElem_cons_zero, List.getElem_cons_succ]
            have hne : some u1.heap.size ≠ s44.ownBlock := by rw [H44.out, HU.out]; simp [Value.ownBlock]
            exact hT s44 s46 s48 u3 ⟨Bu3, Pu3.out, _, H48.out, (hgr.block _ (by rw [HV.out]; simp) hne).trans Cu2.out⟩
          · exact AllReadyH.nil
        · exact AllReadyH.nil
    · skip
      refine AllReadyH.cons rfl (fun K hK => ?_) ?_
      · skip
        go_simp
        refine hK.out _ _ ⟨⟨_, Bv0.alloc Bv0.size _⟩, rfl⟩ (fun hS => ?_)
        clear hK K
        simp only [List.setIfInBounds_toArray, List.set_cons_zero, List.set_cons_succ]
        obtain ⟨s48, h48⟩ : ∃ s, s = Value.slice (some ⟨v0.heap.size, 0, none⟩) 1 1 := ⟨_, rfl⟩
        obtain ⟨u1, hv⟩ : ∃ u, u = v0.alloc (colB (wholeOf a)) := ⟨_, rfl⟩
        change wpAnyH _ _ _ _ _ _ _ _ (v0.alloc (colB (wholeOf a)))
        rw [← h48, ← hv]
        change ∃ x : Grow V, v0.alloc (colB (wholeOf a)) = x.w at hS
        rw [← hv] at hS
        have Cu1 := Lib.hid (show u1.heap[v0.heap.size]? = some (colB (wholeOf a)) by rw [hv]; exact heap_alloc_new _ _)
        have Bu1 : Below V.heap.size V u1 := by rw [hv]; exact Bv0.alloc Bv0.size _
        have H48 := Lib.hid h48
        have HV := Lib.hid hv
        clear h48 hv
        refine wpAnyH_ready (rs := [3]) (by kernel_rfl) (by simp) ?_
        refine AllReadyH.cons rfl (fun K hK => ?_) ?_
        · skip
          go_simp
          refine hK.out _ _ ⟨⟨_, Bu1.alloc Bu1.size _⟩, rfl⟩ (fun hS => ?_)
          clear hK K
          simp only [List.setIfInBounds_toArray, List.set_cons_zero, List.set_cons_succ]
          obtain ⟨s44, h44⟩ : ∃ s, s = Value.slice (some ⟨u1.heap.size, 0, none⟩) 0 0 := ⟨_, rfl⟩
          obtain ⟨u2, hu⟩ : ∃ u, u = u1.alloc (.cells #[] 23) := ⟨_, rfl⟩
          rw [← h44, ← hu]
          rw [← hu] at hS
          have Ou2 := Lib.hid (show u2.ownsRow V.heap.size 23 4 s44 ([] : List Col).length (flat []) by rw [h44, hu]; exact owns_empty u1 V.heap.size Bu1.size)
          have Bu2 : Below V.heap.size V u2 := by rw [hu]; exact Bu1.alloc Bu1.size _
          have H44 := Lib.hid h44
          have HU := Lib.hid hu
          clear h44 hu
          refine wpAnyH_ready (rs := [5]) (by kernel_rfl) (by simp) ?_
          refine AllReadyH.cons rfl (fun K hK => ?_) ?_
          · skip
            rw [if_pos (by rfl)]
            refine wp_append_cols (.tmp 44) (.tmp 45) V.heap.size s44 [] L ad L.length cap rfl rfl rfl rfl Ou2.out (HSR.out.grow (KE.out.trans (Bu2.mono KE.out.size))) (by simp; omega) Bu2.size ?_
            intro s46 u3 own46 hgr
            have Bu3 : Below V.heap.size V u3 := below_grown Bu2 Ou2.out hgr
            have Pu3 := Lib.hid own46
            refine hK.out _ _ ⟨⟨_, Bu3⟩, rfl⟩ (fun hS => ?_)
            clear hK K own46
            simp only [Act.put, List.setIfInBounds_toArray, List.set_cons_zero, List.set_cons_succ, List.getElem_toArray, List.getElem_cons_zero, List.getElem_cons_succ]
            have hne : some v0.heap.size ≠ s44.ownBlock := by rw [H44.out, HV.out]; simp [Value.ownBlock]
            have hc2 : u2.heap[v0.heap.size]? = u1.heap[v0.heap.size]? := by rw [HU.out]; exact Below.heap_alloc _ _ _ (by rw [HV.out]; simp)
            have hlt : v0.heap.size < u2.heap.size := by rw [HU.out, HV.out]; simp; omega
            exact hT s44 s46 s48 u3 ⟨Bu3, Pu3.out, _, H48.out, ((hgr.block _ hlt hne).trans hc2).trans Cu1.out⟩
          · exact AllReadyH.nil
        · exact AllReadyH.nil
      · exact AllReadyH.nil
  intro s44 s46 s48 u hF
  show wpAnyH _ _ _ _ _ _ _ _ _
  obtain ⟨Bu, own, g, rfl, hg⟩ := hF
  have Ou := Lib.hid own
  have Gu := Lib.hid hg
  clear own hg
  refine wpAnyH_ready (rs := [8]) (by kernel_rfl) (by simp) ?_
  refine AllReadyH.cons rfl (fun K hK => ?_) ?_
  rotate_left
  · exact AllReadyH.nil
  rw [if_pos (by rfl)]
  refine wp_append_cols (.tmp 46) (.tmp 48) V.heap.size s46 L [(wholeOf a)] (some ⟨g, 0, none⟩) 1 1 rfl rfl rfl rfl Ou.out (src_one Gu.out) (by simp; omega) Bu.size ?_
  intro s49 u2 own49 hgr
  have Bu2 : Below V.heap.size V u2 := below_grown Bu Ou.out hgr
  obtain ⟨g9, c9, m9, rfl, hcall⟩ := fold_owned b (L ++ [(wholeOf a)]) V.heap.size s49 u2 hb (fun x hx => by rcases List.mem_append.1 hx with h | h; exact HL.out x h; rw [List.mem_singleton.1 h]; exact okW) (by simp; omega) (by simp) own49
  rw [foldC_snoc, over_whole ha] at hcall
  have HC := Lib.hid hcall
  clear hcall own49 hgr Ou Gu
  refine hK.out _ _ ⟨⟨_, Bu2⟩, rfl⟩ (fun hS => ?_)
  clear hK K
  simp only [Act.put, List.setIfInBounds_toArray, List.set_cons_zero, List.set_cons_succ, List.getElem_toArray, List.getElem_cons_zero, List.getElem_cons_succ]
  refine wpAnyH_ready (rs := [9]) (by kernel_rfl) (by simp) ?_
  refine AllReadyH.cons rfl (fun K hK => ?_) ?_
  rotate_left
  · exact AllReadyH.nil
  go_simp
  refine HC.out.mono ?_
  rintro e y0 ⟨rfl, hb3⟩
  show K _ _
  have By0 : Below V.heap.size V y0 := bstep Bu2 Bu2.size hb3
  refine hK.out _ _ ⟨⟨_, By0⟩, rfl⟩ (fun hS => ?_)
  clear hK K hb3 HC
  simp only [List.setIfInBounds_toArray, List.set_cons_zero, List.set_cons_succ]
  refine wpAnyH_take (i := 11) (v := (.bool true)) rfl (by kernel_rfl) (by kernel_rfl) (by kernel_rfl) (fun _ _ _ h => h) (Or.inl ⟨by rfl, fun w hw => by obtain ⟨x, rfl⟩ := hw; go_simp⟩) hS ?_
  simp only [Act.put, List.setIfInBounds_toArray, List.set_cons_zero, List.set_cons_succ, List.getElem_toArray, List.getElem_cons_zero, List.getElem_cons_succ]
  refine wpAnyH_take (i := 12) (v := (.bool true)) rfl (by kernel_rfl) (by kernel_rfl) (by kernel_rfl) (fun _ _ _ h => h) (Or.inl ⟨by rfl, fun w hw => by obtain ⟨x, rfl⟩ := hw; go_simp⟩) hS ?_
  simp only [Act.put, List.setIfInBounds_toArray, List.set_cons_zero, List.set_cons_succ, List.getElem_toArray, List.getElem_cons_zero, List.getElem_cons_succ]
  refine wpAnyH_take (i := 13) (v := (.bool true)) rfl (by kernel_rfl) (by kernel_rfl) (by kernel_rfl) (fun _ _ _ h => h) (Or.inl ⟨by rfl, fun w hw => by obtain ⟨x, rfl⟩ := hw; go_simp⟩) hS ?_
  simp only [Act.put, List.setIfInBounds_toArray, List.set_cons_zero, List.set_cons_succ, List.getElem_toArray, List.getElem_cons_zero, List.getElem_cons_succ]
  refine wpAnyH_take (i := 14) (v := (.agg #[.int .u8 b.r, .int .u8 b.g, .int .u8 b.b, .int .u8 b.a])) rfl (by kernel_rfl) (by kernel_rfl) (by kernel_rfl) (fun _ _ _ h => h) (Or.inl ⟨by rfl, fun w hw => by obtain ⟨x, rfl⟩ := hw; go_simp⟩) hS ?_
  simp only [Act.put, List.setIfInBounds_toArray, List.set_cons_zero, List.set_cons_succ, List.getElem_toArray, List.getElem_cons_zero, List.getElem_cons_succ]
  refine wpAnyH_take (i := 16) (v := (.slice ad L.length cap)) rfl (by kernel_rfl) (by kernel_rfl) (by kernel_rfl) (fun _ _ _ h => h) (Or.inl ⟨by rfl, fun w hw => by obtain ⟨x, rfl⟩ := hw; go_simp⟩) hS ?_
  simp only [Act.put, List.setIfInBounds_toArray, List.set_cons_zero, List.set_cons_succ, List.getElem_toArray, List.getElem_cons_zero, List.getElem_cons_succ]
  refine wpAnyH_take (i := 18) (v := (.agg #[.int .u8 noneC.r, .int .u8 noneC.g, .int .u8 noneC.b, .int .u8 noneC.a])) rfl (by kernel_rfl) (by kernel_rfl) (by kernel_rfl) (fun _ _ _ h => h) (Or.inl ⟨by rfl, fun w hw => by obtain ⟨x, rfl⟩ := hw; go_simp⟩) hS ?_
  simp only [Act.put, List.setIfInBounds_toArray, List.set_cons_zero, List.set_cons_succ, List.getElem_toArray, List.getElem_cons_zero, List.getElem_cons_succ]
  refine wpAnyH_take (i := 22) (v := (.agg #[.int .u8 b.r, .int .u8 b.g, .int .u8 b.b, .int .u8 b.a])) rfl (by kernel_rfl) (by kernel_rfl) (by kernel_rfl) (fun _ _ _ h => h) (Or.inl ⟨by rfl, fun w hw => by obtain ⟨x, rfl⟩ := hw; go_simp⟩) hS ?_
  simp only [Act.put, List.setIfInBounds_toArray, List.set_cons_zero, List.set_cons_succ, List.getElem_toArray, List.getElem_cons_zero, List.getElem_cons_succ]
  refine wpAnyH_take (i := 23) (v := (.slice ad L.length cap)) rfl (by kernel_rfl) (by kernel_rfl) (by kernel_rfl) (fun _ _ _ h => h) (Or.inl ⟨by rfl, fun w hw => by obtain ⟨x, rfl⟩ := hw; go_simp⟩) hS ?_
  simp only [Act.put, List.setIfInBounds_toArray, List.set_cons_zero, List.set_cons_succ, List.getElem_toArray, List.getElem_cons_zero, List.getElem_cons_succ]
  refine' share (F := fun (_ : Value) (y z : Value) (u : World) => Below V.heap.size V u ∧ u.ownsRow V.heap.size 23 4 y L.length (flat L) ∧ ∃ g, z = .slice (some ⟨g, 0, none⟩) 1 1 ∧ u.heap[g]? = some (colB noneC)) (T := _) (fun hT => ?_) ?_
  rotate_left
  · skip
    refine wpAnyH_ready (rs := [15, 19]) (by kernel_rfl) (by simp) ?_
    refine AllReadyH.cons rfl (fun K hK => ?_) ?_
    · skip
      go_simp
      refine hK.out _ _ ⟨⟨_, By0.alloc By0.size _⟩, rfl⟩ (fun hS => ?_)
      clear hK K
      simp only [List.setIfInBounds_toArray, List.set_cons_zero, List.set_cons_succ]
      obtain ⟨s44, h44⟩ : ∃ s, s = Value.slice (some ⟨y0.heap.size, 0, none⟩) 0 0 := ⟨_, rfl⟩
      obtain ⟨u1, hu⟩ : ∃ u, u = y0.alloc (.cells #[] 23) := ⟨_, rfl⟩
      rw [← h44, ← hu]
      rw [← hu] at hS
      have Ou1 := Lib.hid (show u1.ownsRow V.heap.size 23 4 s44 ([] : List Col).length (flat []) by rw [h44, hu]; exact owns_empty y0 V.heap.size By0.size)
      have Bu1 : Below V.heap.size V u1 := by rw [hu]; exact By0.alloc By0.size _
      have H44 := Lib.hid h44
      have HU := Lib.hid hu
      clear h44 hu
      refine wpAnyH_ready (rs := [17, 19]) (by kernel_rfl) (by simp) ?_
      refine AllReadyH.cons rfl (fun K hK => ?_) ?_
      · skip
        rw [if_pos (by rfl)]
        refine wp_append_cols (.tmp 56) (.tmp 57) V.heap.size s44 [] L ad L.length cap rfl rfl rfl rfl Ou1.out (HSR.out.grow (KE.out.trans (Bu1.mono KE.out.size))) (by simp; omega) Bu1.size ?_
        intro s46 u2 own46 hgr
        have Bu2 : Below V.heap.size V u2 := below_grown Bu1 Ou1.out hgr
        have Pu2 := Lib.hid own46
        refine hK.out _ _ ⟨⟨_, Bu2⟩, rfl⟩ (fun hS => ?_)
        clear hK K own46
        simp only [Act.put, List.setIfInBounds_toArray, List.set_cons_zero, List.set_cons_succ, List.getElem_toArray, List.getElem_cons_zero, List.getElem_cons_succ]
        refine wpAnyH_ready (rs := [19]) (by kernel_rfl) (by simp) ?_
        refine AllReadyH.cons rfl (fun K hK => ?_) ?_
        · skip
          go_simp
          refine hK.out _ _ ⟨⟨_, Bu2.alloc Bu2.size _⟩, rfl⟩ (fun hS => ?_)
          clear hK K
          simp only [List.setIfInBounds_toArray, List.set_cons_zero, List.set_cons_succ]
          obtain ⟨s48, h48⟩ : ∃ s, s = Value.slice (some ⟨u2.heap.size, 0, none⟩) 1 1 := ⟨_, rfl⟩
          obtain ⟨u3, hv⟩ : ∃ u, u = u2.alloc (colB noneC) := ⟨_, rfl⟩
          change wpAnyH _ _ _ _ _ _ _ _ (u2.alloc (colB noneC))
          rw [← h48, ← hv]
          change ∃ x : Grow V, u2.alloc (colB noneC) = x.w at hS
          rw [← hv] at hS
          have Cu3 := Lib.hid (show u3.heap[u2.heap.size]? = some (colB noneC) by rw [hv]; exact heap_alloc_new _ _)
          have Bu3 : Below V.heap.size V u3 := by rw [hv]; exact Bu2.alloc Bu2.size _
          have H48 := Lib.hid h48
          have HV := Lib.hid hv
          clear h48 hv
          exact hT s44 s46 s48 u3 ⟨Bu3, by rw [HV.out]; exact Pu2.out.alloc _, _, H48.out, Cu3.out⟩
        · exact AllReadyH.nil
      · skip
        refine AllReadyH.cons rfl (fun K hK => ?_) ?_
        · skip
          go_simp
          refine hK.out _ _ ⟨⟨_, Bu1.alloc Bu1.size _⟩, rfl⟩ (fun hS => ?_)
          clear hK K
          simp only [List.setIfInBounds_toArray, List.set_cons_zero, List.set_cons_succ]
          obtain ⟨s48, h48⟩ : ∃ s, s = Value.slice (some ⟨u1.heap.size, 0, none⟩) 1 1 := ⟨_, rfl⟩
          obtain ⟨u2, hv⟩ : ∃ u, u = u1.alloc (colB noneC) := ⟨_, rfl⟩
          change wpAnyH _ _ _ _ _ _ _ _ (u1.alloc (colB noneC))
          rw [← h48, ← hv]
          change ∃ x : Grow V, u1.alloc (colB noneC) = x.w at hS
          rw [← hv] at hS
          have Cu2 := Lib.hid (show u2.heap[u1.heap.size]? = some (colB noneC) by rw [hv]; exact heap_alloc_new _ _)
          have Bu2 : Below V.heap.size V u2 := by rw [hv]; exact Bu1.alloc Bu1.size _
          have H48 := Lib.hid h48
          have HV := Lib.hid hv
          clear h48 hv
          have Ou2 := Lib.hid (show u2.ownsRow V.heap.size 23 4 s44 ([] : List Col).length (flat []) by rw [HV.out]; exact Ou1.out.alloc _)
          refine wpAnyH_ready (rs := [17]) (by kernel_rfl) (by simp) ?_
          refine AllReadyH.cons rfl (fun K hK => ?_) ?_
          · skip
            rw [if_pos (by rfl)]
            refine wp_append_cols (.tmp 56) (.tmp 57) V.heap.size s44 [] L ad L.length cap rfl rfl rfl rfl Ou2.out (HSR.out.grow (KE.out.trans (Bu2.mono KE.out.size))) (by simp; omega) Bu2.size ?_
            intro s46 u3 own46 hgr
            have Bu3 : Below V.heap.size V u3 := below_grown Bu2 Ou2.out hgr
            have Pu3 := Lib.hid own46
            refine hK.out _ _ ⟨⟨_, Bu3⟩, rfl⟩ (fun hS => ?_)
            clear hK K own46
            simp only [Act.put, List.setIfInBounds_toArray, List.set_cons_zero, List.set_cons_succ, List.getElem_toArray, List.getElem_cons_zero, List.getElem_cons_succ]
            have hne : some u1.heap.size ≠ s44.ownBlock := by rw [H44.out, HU.out]; simp [Value.ownBlock]
            exact hT s44 s46 s48 u3 ⟨Bu3, Pu3.out, _, H48.out, (hgr.block _ (by rw [HV.out]; simp) hne).trans Cu2.out⟩
          · exact AllReadyH.nil
        · exact AllReadyH.nil
    · skip
      refine AllReadyH.cons rfl (fun K hK => ?_) ?_
      · skip
        go_simp
        refine hK.out _ _ ⟨⟨_, By0.alloc By0.size _⟩, rfl⟩ (fun hS => ?_)
        clear hK K
        simp only [List.setIfInBounds_toArray, List.set_cons_zero, List.set_cons_succ]
        obtain ⟨s48, h48⟩ : ∃ s, s = Value.slice (some ⟨y0.heap.size, 0, none⟩) 1 1 := ⟨_, rfl⟩
        obtain ⟨u1, hv⟩ : ∃ u, u = y0.alloc (colB noneC) := ⟨_, rfl⟩
        change wpAnyH _ _ _ _ _ _ _ _ (y0.alloc (colB noneC))
        rw [← h48, ← hv]
        change ∃ x : Grow V, y0.alloc (colB noneC) = x.w at hS
        rw [← hv] at hS
        have Cu1 := Lib.hid (show u1.heap[y0.heap.size]? = some (colB noneC) by rw [hv]; exact heap_alloc_new _ _)
        have Bu1 : Below V.heap.size V u1 := by rw [hv]; exact By0.alloc By0.size _
        have H48 := Lib.hid h48
        have HV := Lib.hid hv
        clear h48 hv
        refine wpAnyH_ready (rs := [15]) (by kernel_rfl) (by simp) ?_
        refine AllReadyH.cons rfl (fun K hK => ?_) ?_
        · skip
          go_simp
          refine hK.out _ _ ⟨⟨_, Bu1.alloc Bu1.size _⟩, rfl⟩ (fun hS => ?_)
          clear hK K
          simp only [List.setIfInBounds_toArray, List.set_cons_zero, List.set_cons_succ]
          obtain ⟨s44, h44⟩ : ∃ s, s = Value.slice (some ⟨u1.heap.size, 0, none⟩) 0 0 := ⟨_, rfl⟩
          obtain ⟨u2, hu⟩ : ∃ u, u = u1.alloc (.cells #[] 23) := ⟨_, rfl⟩
          rw [← h44, ← hu]
          rw [← hu] at hS
          have Ou2 := Lib.hid (show u2.ownsRow V.heap.size 23 4 s44 ([] : List Col).length (flat []) by rw [h44, hu]; exact owns_empty u1 V.heap.size Bu1.size)
          have Bu2 : Below V.heap.size V u2 := by rw [hu]; exact Bu1.alloc Bu1.size _
          have H44 := Lib.hid h44
          have HU := Lib.hid hu
          clear h44 hu
          refine wpAnyH_ready (rs := [17]) (by kernel_rfl) (by simp) ?_
          refine AllReadyH.cons rfl (fun K hK => ?_) ?_
          · skip
            rw [if_pos (by rfl)]
            refine wp_append_cols (.tmp 56) (.tmp 57) V.heap.size s44 [] L ad L.length cap rfl rfl rfl rfl Ou2.out (HSR.out.grow (KE.out.trans (Bu2.mono KE.out.size))) (by simp; omega) Bu2.size ?_
            intro s46 u3 own46 hgr
            have Bu3 : Below V.heap.size V u3 := below_grown Bu2 Ou2.out hgr
            have Pu3 := Lib.hid own46
            refine hK.out _ _ ⟨⟨_, Bu3⟩, rfl⟩ (fun hS => ?_)
            clear hK K own46
            simp only [Act.put, List.setIfInBounds_toArray, List.set_cons_zero, List.set_cons_succ, List.getElem_toArray, List.getElem_cons_zero, List.getElem_cons_succ]
            have hne : some y0.heap.size ≠ s44.ownBlock := by rw [H44.out, HV.out]; simp [Value.ownBlock]
            have hc2 : u2.heap[y0.heap.size]? = u1.heap[y0.heap.size]? := by rw [HU.out]; exact Below.heap_alloc _ _ _ (by rw [HV.out]; simp)
            have hlt : y0.heap.size < u2.heap.size := by rw [HU.out, HV.out]; simp; omega
            exact hT s44 s46 s48 u3 ⟨Bu3, Pu3.out, _, H48.out, ((hgr.block _ hlt hne).trans hc2).trans Cu1.out⟩
          · exact AllReadyH.nil
        · exact AllReadyH.nil
      · exact AllReadyH.nil
  intro s44 s46 s48 u hF
  show wpAnyH _ _ _ _ _ _ _ _ _
  obtain ⟨Bu, own, g, rfl, hg⟩ := hF
  have Ou := Lib.hid own
  have Gu := Lib.hid hg
  clear own hg
  refine wpAnyH_ready (rs := [20]) (by kernel_rfl) (by simp) ?_
  refine AllReadyH.cons rfl (fun K hK => ?_) ?_
  rotate_left
  · exact AllReadyH.nil
  rw [if_pos (by rfl)]
  refine wp_append_cols (.tmp 58) (.tmp 60) V.heap.size s46 L [noneC] (some ⟨g, 0, none⟩) 1 1 rfl rfl rfl rfl Ou.out (src_one Gu.out) (by simp; omega) Bu.size ?_
  intro s49 u2 own49 hgr
  have Bu2 : Below V.heap.size V u2 := below_grown Bu Ou.out hgr
  obtain ⟨g9, c9, m9, rfl, hcall⟩ := fold_owned b (L ++ [noneC]) V.heap.size s49 u2 hb (fun x hx => by rcases List.mem_append.1 hx with h | h; exact HL.out x h; rw [List.mem_singleton.1 h]; exact noneC_ok) (by simp; omega) (by simp) own49
  rw [foldC_snoc, over_none (foldC_ok hb HL.out)] at hcall
  have HC := Lib.hid hcall
  clear hcall own49 hgr Ou Gu
  refine hK.out _ _ ⟨⟨_, Bu2⟩, rfl⟩ (fun hS => ?_)
  clear hK K
  simp only [Act.put, List.setIfInBounds_toArray, List.set_cons_zero, List.set_cons_succ, List.getElem_toArray, List.getElem_cons_zero, List.getElem_cons_succ]
  refine wpAnyH_ready (rs := [21]) (by kernel_rfl) (by simp) ?_
  refine AllReadyH.cons rfl (fun K hK => ?_) ?_
  rotate_left
  · exact AllReadyH.nil
  go_simp
  refine HC.out.mono ?_
  rintro e y1 ⟨rfl, hb3⟩
  show K _ _
  have By1 : Below V.heap.size V y1 := bstep Bu2 Bu2.size hb3
  refine hK.out _ _ ⟨⟨_, By1⟩, rfl⟩ (fun hS => ?_)
  clear hK K hb3 HC
  simp only [List.setIfInBounds_toArray, List.set_cons_zero, List.set_cons_succ]
  refine wpAnyH_ready (rs := [24]) (by kernel_rfl) (by simp) ?_
  refine AllReadyH.cons rfl (fun K hK => ?_) ?_
  rotate_left
  · exact AllReadyH.nil
  go_simp
  refine (fold_any b L ad cap y1 hb HL.out (by omega) (HR.out.grow (KE.out.trans (By1.mono KE.out.size)))).mono ?_
  rintro e y2 ⟨rfl, hb3⟩
  show K _ _
  have By2 : Below V.heap.size V y2 := bstep By1 By1.size hb3
  refine hK.out _ _ ⟨⟨_, By2⟩, rfl⟩ (fun hS => ?_)
  clear hK K hb3
  simp only [List.setIfInBounds_toArray, List.set_cons_zero, List.set_cons_succ]
  refine wpAnyH_take (i := 25) (v := (.bool true)) rfl (by kernel_rfl) (by kernel_rfl) (by kernel_rfl) (fun _ _ _ h => h) (Or.inl ⟨by rfl, fun w hw => by obtain ⟨x, rfl⟩ := hw; go_simp⟩) hS ?_
  simp only [Act.put, List.setIfInBounds_toArray, List.set_cons_zero, List.set_cons_succ, List.getElem_toArray, List.getElem_cons_zero, List.getElem_cons_succ]
  refine wpAnyH_take (i := 26) (v := (.bool true)) rfl (by kernel_rfl) (by kernel_rfl) (by kernel_rfl) (fun _ _ _ h => h) (Or.inl ⟨by rfl, fun w hw => by obtain ⟨x, rfl⟩ := hw; go_simp⟩) hS ?_
  simp only [Act.put, List.setIfInBounds_toArray, List.set_cons_zero, List.set_cons_succ, List.getElem_toArray, List.getElem_cons_zero, List.getElem_cons_succ]
  refine wpAnyH_take (i := 27) (v := (.bool true)) rfl (by kernel_rfl) (by kernel_rfl) (by kernel_rfl) (fun _ _ _ h => h) (Or.inl ⟨by rfl, fun w hw => by obtain ⟨x, rfl⟩ := hw; go_simp⟩) hS ?_
  simp only [Act.put, List.setIfInBounds_toArray, List.set_cons_zero, List.set_cons_succ, List.getElem_toArray, List.getElem_cons_zero, List.getElem_cons_succ]
  have S1 := Lib.hid (show ∀ y : Grow V, Calls Try.prog 19 #[.agg #[.int .u8 a.r, .int .u8 a.g, .int .u8 a.b, .int .u8 a.a, .int .u8 a.r, .int .u8 a.g, .int .u8 a.b, .int .u8 a.a, .int .u8 a.r, .int .u8 a.g, .int .u8 a.b, .int .u8 a.a, .int .u8 a.r, .int .u8 a.g, .int .u8 a.b, .int .u8 a.a]] y.w fun e w' => e = .returned (.agg #[.int .u8 a.r, .int .u8 a.g, .int .u8 a.b, .int .u8 a.a]) ∧ Below y.w.heap.size y.w w' from fun y => by have h := mean_col a a a a y.w ha ha ha ha; rwa [mean_same] at h)
  have S2 := Lib.hid (show ∀ y : Grow V, Calls Try.prog 21 #[.agg #[.int .u8 a.r, .int .u8 a.g, .int .u8 a.b, .int .u8 a.a], .agg #[.int .u8 b.r, .int .u8 b.g, .int .u8 b.b, .int .u8 b.a], .int .i64 0] y.w fun e w' => e = .returned (.agg #[.int .u8 a.r, .int .u8 a.g, .int .u8 a.b, .int .u8 a.a]) ∧ Below y.w.heap.size y.w w' from fun y => mix_col_lo a b 0 y.w ha hb (by decide))
  have S3 := Lib.hid (show ∀ y : Grow V, Calls Try.prog 21 #[.agg #[.int .u8 a.r, .int .u8 a.g, .int .u8 a.b, .int .u8 a.a], .agg #[.int .u8 b.r, .int .u8 b.g, .int .u8 b.b, .int .u8 b.a], .int .i64 256] y.w fun e w' => e = .returned (.agg #[.int .u8 b.r, .int .u8 b.g, .int .u8 b.b, .int .u8 b.a]) ∧ Below y.w.heap.size y.w w' from fun y => mix_col_hi a b 256 y.w ha hb (by decide))
  refine held_quiet_from 28 (by kernel_rfl) (by kernel_rfl) (by kernel_rfl) hS ?_
  simp only [List.drop_succ_cons, List.drop_zero]
  repeat (go_big_quiet_step ((first
    | (go_at_call 19; with_reducible exact Grow.calls (S1.out _))
    | (go_at_call 21; first | with_reducible exact Grow.calls (S2.out _) | with_reducible exact Grow.calls (S3.out _)))))
  refine wpQuiet_nil ?_
  rintro _ ⟨x, rfl⟩
  go_wp2
  go_ret
  exact ⟨rfl, bstep KE.out KE.out.size x.below⟩
end Go.Proofs.Ytpnjhmmodkhmfaa
