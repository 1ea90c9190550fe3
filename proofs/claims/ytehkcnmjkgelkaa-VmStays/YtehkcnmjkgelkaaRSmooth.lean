/-
  The contracts of the reference's Nearest and Smooth.
-/
import Derived.Test.YtehkcnmjkgelkaaRTexel
import Derived.Deep.CutRange
import Derived.Deep.DeepCutAuto
namespace Go.Proofs.Ytehkcnmjkgelkaa
open Go.RowKit
attribute [local go_sem ↓] Go.wp_at_zero Go.wp_at_succ

set_option maxRecDepth 100000 in
set_option maxHeartbeats 2000000 in
theorem rnear_any (t : Tx) (A : Option Addr) (c : Nat) (u v : Int) (hu : Far u) (hv : Far v) (w : World) (he : Es EC w w.heap.size A t.px) :
    Calls Try.prog 20 #[.agg #[.int .i64 t.w, .int .i64 t.h, .slice A t.px.length c], .int .i64 u, .int .i64 v] w fun e w' => e = .returned (.agg #[.int .u8 (t.near u v).r, .int .u8 (t.near u v).g, .int .u8 (t.near u v).b, .int .u8 (t.near u v).a]) ∧ Below w.heap.size w w' := by
  have HU := Lib.hid (C.down_any u 16 (u / 16) (by unfold Far at hu; omega) (by unfold Far at hu; omega) (by decide) (by decide) rfl)
  have HV := Lib.hid (C.down_any v 16 (v / 16) (by unfold Far at hv; omega) (by unfold Far at hv; omega) (by decide) (by decide) rfl)
  have HT := Lib.hid (rtexel_any t A c (u / 16) (v / 16) (div_bd hu.i64) (div_bd hv.i64))
  unfold Tx.near
  clear hu hv
  generalize t.at (u / 16) (v / 16) = q at *
  generalize u / 16 = x at *
  generalize v / 16 = y at *
  go_enter Try.func20, Try.ntmps20
  go_wp2_with fail
  have BX := new_below w (.cells #[.int .i64 t.w, .int .i64 t.h, .slice A t.px.length c] 25)
  have TX : (w.alloc (.cells #[.int .i64 t.w, .int .i64 t.h, .slice A t.px.length c] 25)).heap[w.heap.size]? = some (txB t A c) := new_at1 _ _
  have SX : (w.alloc (.cells #[.int .i64 t.w, .int .i64 t.h, .slice A t.px.length c] 25)).heap.size = w.heap.size + 1 := by simp
  have KX := Lib.hid (new_below (w.alloc (.cells #[.int .i64 t.w, .int .i64 t.h, .slice A t.px.length c] 25)) (.cells #[.int .u8 0, .int .u8 0, .int .u8 0, .int .u8 0] 38))
  have HE := Lib.hid (he.up BX)
  have HZ := Lib.hid (new_at1 (w.alloc (.cells #[.int .i64 t.w, .int .i64 t.h, .slice A t.px.length c] 25)) (.cells #[.int .u8 0, .int .u8 0, .int .u8 0, .int .u8 0] 38))
  rw [SX] at HZ
  generalize w.alloc (.cells #[.int .i64 t.w, .int .i64 t.h, .slice A t.px.length c] 25) = X at *
  have HBX := Lib.hid BX
  obtain ⟨d0, d1, d2⟩ := txB_cell TX
  clear BX TX he
  refine wp_region_held_drew (S := fun w' => ∃ x : Grow X, w' = x.w) (by kernel_rfl) ⟨⟨_, (KX.out).drew⟩, rfl⟩ (fun hS => ?_)
  have HD := Lib.hid (KX.out.drew)
  have HZ1 := Lib.hid (show (X.alloc (.cells #[.int .u8 0, .int .u8 0, .int .u8 0, .int .u8 0] 38)).drew.heap[w.heap.size + 1]? = some (colB zC) from HZ.out)
  clear KX HZ
  generalize (X.alloc (.cells #[.int .u8 0, .int .u8 0, .int .u8 0, .int .u8 0] 38)).drew = W0 at *
  have y0 : ∀ x : Grow X, x.w.cell? ⟨w.heap.size, 0, none⟩ = some (.int .i64 t.w) := fun x => x.cell d0
  have y1 : ∀ x : Grow X, x.w.cell? ⟨w.heap.size, 1, none⟩ = some (.int .i64 t.h) := fun x => x.cell d1
  have y2 : ∀ x : Grow X, x.w.cell? ⟨w.heap.size, 2, none⟩ = some (.slice A t.px.length c) := fun x => x.cell d2
  clear d0 d1 d2
  refine wpAnyH_take (i := 0) (v := .agg #[.int .i64 t.w, .int .i64 t.h, .slice A t.px.length c]) rfl (by kernel_rfl) (by kernel_rfl) (by kernel_rfl) (fun _ _ _ h => h) (Or.inl ⟨by rfl, fun w hw => by obtain ⟨x, rfl⟩ := hw; go_simp⟩) hS ?_
  try simp only [Act.put, List.setIfInBounds_toArray, List.set_cons_zero, List.set_cons_succ, List.getElem_toArray, List.getElem_cons_zero]
  refine wpAnyH_take (i := 1) (v := .int .i64 u) rfl (by kernel_rfl) (by kernel_rfl) (by kernel_rfl) (fun _ _ _ h => h) (Or.inl ⟨by rfl, fun w hw => by obtain ⟨x, rfl⟩ := hw; go_simp⟩) hS ?_
  try simp only [Act.put, List.setIfInBounds_toArray, List.set_cons_zero, List.set_cons_succ, List.getElem_toArray, List.getElem_cons_zero, List.getElem_cons_succ]
  refine wpAnyH_take (i := 3) (v := .int .i64 v) rfl (by kernel_rfl) (by kernel_rfl) (by kernel_rfl) (fun _ _ _ h => h) (Or.inl ⟨by rfl, fun w hw => by obtain ⟨x, rfl⟩ := hw; go_simp⟩) hS ?_
  try simp only [Act.put, List.setIfInBounds_toArray, List.set_cons_zero, List.set_cons_succ, List.getElem_toArray, List.getElem_cons_zero, List.getElem_cons_succ]
  refine wpAnyH_ready (rs := [2]) (by kernel_rfl) (by simp) ?_
  refine AllReadyH.cons rfl (fun K hK => ?_) AllReadyH.nil
  go_simp
  with_reducible refine (HU.out _).mono ?_
  rintro e t1 ⟨rfl, hb⟩
  have B1 := Lib.hid (bstep HD.out HD.out.size hb)
  have Z1 := Lib.hid ((hb.block _ (Array.getElem?_eq_some_iff.1 HZ1.out).1).trans HZ1.out)
  clear hb
  refine hK.out _ _ ⟨⟨_, B1.out⟩, rfl⟩ (fun hS => ?_)
  clear hK K
  try simp only [Act.put, List.setIfInBounds_toArray, List.set_cons_zero, List.set_cons_succ, List.getElem_toArray, List.getElem_cons_zero, List.getElem_cons_succ]
  refine wpAnyH_ready (rs := [4]) (by kernel_rfl) (by simp) ?_
  refine AllReadyH.cons rfl (fun K hK => ?_) AllReadyH.nil
  go_simp
  with_reducible refine (HV.out _).mono ?_
  rintro e t2 ⟨rfl, hb⟩
  have B2 := Lib.hid (bstep B1.out B1.out.size hb)
  have Z2 := Lib.hid ((hb.block _ (Array.getElem?_eq_some_iff.1 Z1.out).1).trans Z1.out)
  clear hb
  refine hK.out _ _ ⟨⟨_, B2.out⟩, rfl⟩ (fun hS => ?_)
  clear hK K
  try simp only [Act.put, List.setIfInBounds_toArray, List.set_cons_zero, List.set_cons_succ, List.getElem_toArray, List.getElem_cons_zero, List.getElem_cons_succ]
  refine wpAnyH_ready (rs := [5]) (by kernel_rfl) (by simp) ?_
  refine AllReadyH.cons rfl (fun K hK => ?_) AllReadyH.nil
  go_simp
  with_reducible refine (HT.out _ (HE.out.up B2.out)).mono ?_
  rintro e t3 ⟨rfl, hb⟩
  have B3 := Lib.hid (bstep B2.out B2.out.size hb)
  have Z3 := Lib.hid ((hb.block _ (Array.getElem?_eq_some_iff.1 Z2.out).1).trans Z2.out)
  clear hb
  refine hK.out _ _ ⟨⟨_, B3.out⟩, rfl⟩ (fun hS => ?_)
  clear hK K
  try simp only [Act.put, List.setIfInBounds_toArray, List.set_cons_zero, List.set_cons_succ, List.getElem_toArray, List.getElem_cons_zero, List.getElem_cons_succ]
  obtain ⟨i0, i1, i2, i3⟩ := colB_cell Z3.out
  obtain ⟨j0, j1, j2, j3⟩ := colB_free Z3.out
  have B4 := Lib.hid (col_set t3 (w.heap.size + 1) _ q B3.out (by omega))
  have W4 := Lib.hid (col_set t3 (w.heap.size + 1) _ q (bstep HBX.out HBX.out.size B3.out) (by omega))
  have Z4 := Lib.hid (colB_set q Z3.out)
  refine wpAnyH_ready (rs := [6]) (by kernel_rfl) (by simp) ?_
  refine AllReadyH.cons rfl (fun K hK => ?_) AllReadyH.nil
  go_simp
  refine hK.out _ _ ⟨⟨_, B4.out⟩, rfl⟩ (fun hS => ?_)
  clear hK K
  try simp only [Act.put, List.setIfInBounds_toArray, List.set_cons_zero, List.set_cons_succ, List.getElem_toArray, List.getElem_cons_zero, List.getElem_cons_succ]
  refine wpAnyH_done (by kernel_rfl) ?_ _
  obtain ⟨m0, m1, m2, m3⟩ := colB_cell Z4.out
  clear i0 i1 i2 i3 j0 j1 j2 j3
  generalize (((t3.setCell ⟨w.heap.size + 1, 0, none⟩ (.int .u8 q.r)).setCell ⟨w.heap.size + 1, 1, none⟩ (.int .u8 q.g)).setCell ⟨w.heap.size + 1, 2, none⟩ (.int .u8 q.b)).setCell ⟨w.heap.size + 1, 3, none⟩ (.int .u8 q.a) = t4 at *
  go_wp2
  refine bodyPost_ret (v := .agg #[.int .u8 q.r, .int .u8 q.g, .int .u8 q.b, .int .u8 q.a]) (by simp [results, Try.results20, go_sem, *]) rfl ⟨rfl, ?_⟩
  exact W4.out

set_option maxRecDepth 100000 in
set_option maxHeartbeats 4000000 in
theorem rsmooth_any (t : Tx) (ht : t.ok) (A : Option Addr) (c : Nat) (u v : Int) (hu : Far u) (hv : Far v) (w : World) (he : Es EC w w.heap.size A t.px) :
    Calls Try.prog 21 #[.agg #[.int .i64 t.w, .int .i64 t.h, .slice A t.px.length c], .int .i64 u, .int .i64 v] w fun e w' => e = .returned (.agg #[.int .u8 (t.smooth u v).r, .int .u8 (t.smooth u v).g, .int .u8 (t.smooth u v).b, .int .u8 (t.smooth u v).a]) ∧ Below w.heap.size w w' := by
  obtain ⟨x, hx⟩ : ∃ x, (u - 8) / 16 = x := ⟨_, rfl⟩
  obtain ⟨f, hf⟩ : ∃ f, (u - 8) % 16 = f := ⟨_, rfl⟩
  obtain ⟨y, hy⟩ : ∃ y, (v - 8) / 16 = y := ⟨_, rfl⟩
  obtain ⟨g, hg⟩ : ∃ g, (v - 8) % 16 = g := ⟨_, rfl⟩
  unfold Far at hu hv
  have HU := Lib.hid (C.down_any (u - 8) 16 x (by omega) (by omega) (by decide) (by decide) hx)
  have HV := Lib.hid (C.down_any (v - 8) 16 y (by omega) (by omega) (by decide) (by decide) hy)
  have HF := Lib.hid (wrap_any (u - 8) 16 (by unfold I64; omega) (by decide) (by decide))
  have HG := Lib.hid (wrap_any (v - 8) 16 (by unfold I64; omega) (by decide) (by decide))
  rw [hf] at HF
  rw [hg] at HG
  have f0 : 0 ≤ f ∧ f < 16 := by omega
  have g0 : 0 ≤ g ∧ g < 16 := by omega
  have xb : Far x := by unfold Far; omega
  have yb : Far y := by unfold Far; omega
  have xb1 : Far (x + 1) := by unfold Far; omega
  have yb1 : Far (y + 1) := by unfold Far; omega
  unfold Tx.smooth Tx.row
  rw [hx, hf, hy, hg]
  have T1 := Lib.hid (rtexel_any t A c x y xb.i64 yb.i64)
  have T2 := Lib.hid (rtexel_any t A c (x + 1) y xb1.i64 yb.i64)
  have T3 := Lib.hid (rtexel_any t A c x (y + 1) xb.i64 yb1.i64)
  have T4 := Lib.hid (rtexel_any t A c (x + 1) (y + 1) xb1.i64 yb1.i64)
  have M1 := Lib.hid (fun W => rmix_col (t.at x y) (t.at (x + 1) y) (16 * f) W (Tx.at_ok ht _ _) (Tx.at_ok ht _ _))
  have M2 := Lib.hid (fun W => rmix_col (t.at x (y + 1)) (t.at (x + 1) (y + 1)) (16 * f) W (Tx.at_ok ht _ _) (Tx.at_ok ht _ _))
  have M3 := Lib.hid (fun W => rmix_col (mix (t.at x y) (t.at (x + 1) y) (16 * f)) (mix (t.at x (y + 1)) (t.at (x + 1) (y + 1)) (16 * f)) (16 * g) W (mix_ok _ (Tx.at_ok ht _ _) (Tx.at_ok ht _ _)) (mix_ok _ (Tx.at_ok ht _ _) (Tx.at_ok ht _ _)))
  unfold Far at xb yb
  have wx : IntKind.i64.wrap (x + 1) = x + 1 := by rw [IntKind.wrap_i64]; omega
  have wy : IntKind.i64.wrap (y + 1) = y + 1 := by rw [IntKind.wrap_i64]; omega
  have wf : IntKind.i64.wrap (16 * f) = 16 * f := by rw [IntKind.wrap_i64]; omega
  have wg : IntKind.i64.wrap (16 * g) = 16 * g := by rw [IntKind.wrap_i64]; omega
  have HE := Lib.hid he
  clear ht he hx hf hy hg f0 g0 xb1 yb1
  generalize t.at x y = c1 at *
  generalize t.at (x + 1) y = c2 at *
  generalize t.at x (y + 1) = c3 at *
  generalize t.at (x + 1) (y + 1) = c4 at *
  generalize mix c1 c2 (16 * f) = top at *
  generalize mix c3 c4 (16 * f) = low at *
  generalize mix top low (16 * g) = q at *
  have h0 : Below w.heap.size w ((w.alloc (.cells #[.int .i64 t.w, .int .i64 t.h, .slice A t.px.length c] 25)).alloc (.cells #[.int .u8 0, .int .u8 0, .int .u8 0, .int .u8 0] 38)) := ((Below.refl _ _).alloc (Nat.le_refl _) _).alloc (by simp) _
  have H0 := Lib.hid h0
  have TX0 := Lib.hid (show ((w.alloc (.cells #[.int .i64 t.w, .int .i64 t.h, .slice A t.px.length c] 25)).alloc (.cells #[.int .u8 0, .int .u8 0, .int .u8 0, .int .u8 0] 38)).heap[w.heap.size]? = some (txB t A c) from new_at20 _ _ _)
  have ZX0 := Lib.hid (show ((w.alloc (.cells #[.int .i64 t.w, .int .i64 t.h, .slice A t.px.length c] 25)).alloc (.cells #[.int .u8 0, .int .u8 0, .int .u8 0, .int .u8 0] 38)).heap[w.heap.size + 1]? = some (colB zC) from new_at2 _ _ _)
  clear h0
  go_enter Try.func21, Try.ntmps21
  go_wp2_with fail
  generalize (w.alloc (.cells #[.int .i64 t.w, .int .i64 t.h, .slice A t.px.length c] 25)).alloc (.cells #[.int .u8 0, .int .u8 0, .int .u8 0, .int .u8 0] 38) = W0 at *
  with_reducible refine (HU.out _).mono ?_
  rintro e w1 ⟨rfl, hb⟩
  have D1 := Lib.hid hb
  clear hb
  go_wp2_with fail
  with_reducible refine (HV.out _).mono ?_
  rintro e X ⟨rfl, hb⟩
  have HX := Lib.hid (bstep (bstep H0.out H0.out.size D1.out) (Nat.le_trans H0.out.size D1.out.size) hb)
  have D2 := Lib.hid (bstep D1.out D1.out.size hb)
  clear hb
  have TX := Lib.hid (txB_grow TX0.out D2.out)
  have ZX := Lib.hid ((D2.out.block _ (Array.getElem?_eq_some_iff.1 ZX0.out).1).trans ZX0.out)
  have EX := Lib.hid (HE.out.up HX.out)
  clear H0 TX0 ZX0 D1 D2 HE HU HV
  go_wp2_with (go_at_call 37; first | ((with_reducible refine (HF.out _).mono ?_); rintro e w' ⟨rfl, rfl⟩) | ((with_reducible refine (HG.out _).mono ?_); rintro e w' ⟨rfl, rfl⟩))
  go_cut [11] from 27 to 38 (fun s V => ∃ h, s = .pointer (some ⟨h, 0, none⟩) ∧ X.heap.size ≤ h ∧ Below X.heap.size X V ∧ V.heap[h]? = some (colB top))
  case first =>
    have d0 := txB_cell TX.out
    have y0 : ∀ x : Grow X, x.w.cell? ⟨w.heap.size, 0, none⟩ = some (.int .i64 t.w) := fun x => x.cell d0.1
    have y1 : ∀ x : Grow X, x.w.cell? ⟨w.heap.size, 1, none⟩ = some (.int .i64 t.h) := fun x => x.cell d0.2.1
    have y2 : ∀ x : Grow X, x.w.cell? ⟨w.heap.size, 2, none⟩ = some (.slice A t.px.length c) := fun x => x.cell d0.2.2
    refine wp_region_held_drew (S := fun w' => ∃ x : Grow X, w' = x.w) (by kernel_rfl) ⟨⟨_, (Below.refl _ _).drew⟩, rfl⟩ (fun hS => ?_)
    have BY := Lib.hid (show Below X.heap.size X X.drew from (Below.refl _ _).drew)
    generalize X.drew = Y at *
    clear d0
    refine wpAnyH_take (i := 0) (v := .agg #[.int .i64 t.w, .int .i64 t.h, .slice A t.px.length c]) rfl (by kernel_rfl) (by kernel_rfl) (by kernel_rfl) (fun _ _ _ h => h) (Or.inl ⟨by rfl, fun w hw => by obtain ⟨x, rfl⟩ := hw; go_simp⟩) hS ?_
    try simp only [Act.put, List.setIfInBounds_toArray, List.set_cons_zero, List.set_cons_succ, List.getElem_toArray, List.getElem_cons_zero]
    refine wpAnyH_take (i := 1) (v := .int .i64 x) rfl (by kernel_rfl) (by kernel_rfl) (by kernel_rfl) (fun _ _ _ h => h) (Or.inl ⟨by rfl, fun w hw => by obtain ⟨x, rfl⟩ := hw; go_simp⟩) hS ?_
    try simp only [Act.put, List.setIfInBounds_toArray, List.set_cons_zero, List.set_cons_succ, List.getElem_toArray, List.getElem_cons_zero, List.getElem_cons_succ]
    refine wpAnyH_take (i := 2) (v := .int .i64 y) rfl (by kernel_rfl) (by kernel_rfl) (by kernel_rfl) (fun _ _ _ h => h) (Or.inl ⟨by rfl, fun w hw => by obtain ⟨x, rfl⟩ := hw; go_simp⟩) hS ?_
    try simp only [Act.put, List.setIfInBounds_toArray, List.set_cons_zero, List.set_cons_succ, List.getElem_toArray, List.getElem_cons_zero, List.getElem_cons_succ]
    refine wpAnyH_take (i := 4) (v := .agg #[.int .i64 t.w, .int .i64 t.h, .slice A t.px.length c]) rfl (by kernel_rfl) (by kernel_rfl) (by kernel_rfl) (fun _ _ _ h => h) (Or.inl ⟨by rfl, fun w hw => by obtain ⟨x, rfl⟩ := hw; go_simp⟩) hS ?_
    try simp only [Act.put, List.setIfInBounds_toArray, List.set_cons_zero, List.set_cons_succ, List.getElem_toArray, List.getElem_cons_zero, List.getElem_cons_succ]
    refine wpAnyH_take (i := 5) (v := .int .i64 x) rfl (by kernel_rfl) (by kernel_rfl) (by kernel_rfl) (fun _ _ _ h => h) (Or.inl ⟨by rfl, fun w hw => by obtain ⟨x, rfl⟩ := hw; go_simp⟩) hS ?_
    try simp only [Act.put, List.setIfInBounds_toArray, List.set_cons_zero, List.set_cons_succ, List.getElem_toArray, List.getElem_cons_zero, List.getElem_cons_succ]
    refine wpAnyH_take (i := 6) (v := .int .i64 (x + 1)) rfl (by kernel_rfl) (by kernel_rfl) (by kernel_rfl) (fun _ _ _ h => h) (Or.inl ⟨by rfl, fun w hw => by obtain ⟨x, rfl⟩ := hw; go_simp⟩) hS ?_
    try simp only [Act.put, List.setIfInBounds_toArray, List.set_cons_zero, List.set_cons_succ, List.getElem_toArray, List.getElem_cons_zero, List.getElem_cons_succ]
    refine wpAnyH_take (i := 7) (v := .int .i64 y) rfl (by kernel_rfl) (by kernel_rfl) (by kernel_rfl) (fun _ _ _ h => h) (Or.inl ⟨by rfl, fun w hw => by obtain ⟨x, rfl⟩ := hw; go_simp⟩) hS ?_
    try simp only [Act.put, List.setIfInBounds_toArray, List.set_cons_zero, List.set_cons_succ, List.getElem_toArray, List.getElem_cons_zero, List.getElem_cons_succ]
    refine wpAnyH_take (i := 9) (v := .int .i64 (16 * f)) rfl (by kernel_rfl) (by kernel_rfl) (by kernel_rfl) (fun _ _ _ h => h) (Or.inl ⟨by rfl, fun w hw => by obtain ⟨x, rfl⟩ := hw; go_simp⟩) hS ?_
    try simp only [Act.put, List.setIfInBounds_toArray, List.set_cons_zero, List.set_cons_succ, List.getElem_toArray, List.getElem_cons_zero, List.getElem_cons_succ]
    refine wpAnyH_ready (rs := [3, 11]) (by kernel_rfl) (by simp) ?_
    refine AllReadyH.cons rfl (fun K hK => ?_) ?_
    · skip
      go_simp
      with_reducible refine (T1.out _ (EX.out.up BY.out)).mono ?_
      rintro e t1 ⟨rfl, hb⟩
      have Bt1 := Lib.hid (bstep BY.out BY.out.size hb)
      clear hb
      refine hK.out _ _ ⟨⟨_, Bt1.out⟩, rfl⟩ (fun hS => ?_)
      clear hK K
      try simp only [Act.put, List.setIfInBounds_toArray, List.set_cons_zero, List.set_cons_succ, List.getElem_toArray, List.getElem_cons_zero, List.getElem_cons_succ]
      refine wpAnyH_ready (rs := [8, 11]) (by kernel_rfl) (by simp) ?_
      refine AllReadyH.cons rfl (fun K hK => ?_) ?_
      · skip
        go_simp
        with_reducible refine (T2.out _ (EX.out.up Bt1.out)).mono ?_
        rintro e t2 ⟨rfl, hb⟩
        have Bt2 := Lib.hid (bstep Bt1.out Bt1.out.size hb)
        clear hb
        refine hK.out _ _ ⟨⟨_, Bt2.out⟩, rfl⟩ (fun hS => ?_)
        clear hK K
        try simp only [Act.put, List.setIfInBounds_toArray, List.set_cons_zero, List.set_cons_succ, List.getElem_toArray, List.getElem_cons_zero, List.getElem_cons_succ]
        refine wpAnyH_ready (rs := [10, 11]) (by kernel_rfl) (by simp) ?_
        refine AllReadyH.cons rfl (fun K hK => ?_) ?_
        · skip
          go_simp
          with_reducible refine (M1.out _).mono ?_
          rintro e t3 ⟨rfl, hb⟩
          have Bt3 := Lib.hid (bstep Bt2.out Bt2.out.size hb)
          clear hb
          refine hK.out _ _ ⟨⟨_, Bt3.out⟩, rfl⟩ (fun hS => ?_)
          clear hK K
          try simp only [Act.put, List.setIfInBounds_toArray, List.set_cons_zero, List.set_cons_succ, List.getElem_toArray, List.getElem_cons_zero, List.getElem_cons_succ]
          refine wpAnyH_ready (rs := [11]) (by kernel_rfl) (by simp) ?_
          refine AllReadyH.cons rfl (fun K hK => ?_) AllReadyH.nil
          go_simp
          refine hK.out _ _ ⟨⟨_, Bt3.out.alloc Bt3.out.size _⟩, rfl⟩ (fun hS => ?_)
          clear hK K hS
          try simp only [Act.put, List.setIfInBounds_toArray, List.set_cons_zero, List.set_cons_succ, List.getElem_toArray, List.getElem_cons_zero, List.getElem_cons_succ]
          obtain ⟨t4, ht⟩ : ∃ t, t = t3.alloc (colB zC) := ⟨_, rfl⟩
          change wpAnyH _ _ _ _ _ _ _ _ (t3.alloc (colB zC))
          rw [← ht]
          have Bt4 := Lib.hid (show Below X.heap.size X t4 by rw [ht]; exact Bt3.out.alloc Bt3.out.size _)
          have Gt4 := Lib.hid (show t4.heap[t3.heap.size]? = some (colB zC) by rw [ht]; exact new_at1 _ _)
          have hge : X.heap.size ≤ t3.heap.size := Bt3.out.size
          have hS : ∃ x : Grow X, t4 = x.w := ⟨⟨t4, Bt4.out⟩, rfl⟩
          clear ht
          obtain ⟨i0, i1, i2, i3⟩ := colB_cell Gt4.out
          obtain ⟨j0, j1, j2, j3⟩ := colB_free Gt4.out
          have BL := Lib.hid (col_set t4 (t3.heap.size) _ top Bt4.out hge)
          have ZL := Lib.hid (colB_set top Gt4.out)
          refine wpAnyH_ready (rs := [12]) (by kernel_rfl) (by simp) ?_
          refine AllReadyH.cons rfl (fun K hK => ?_) AllReadyH.nil
          go_simp
          refine hK.out _ _ ⟨⟨_, BL.out⟩, rfl⟩ (fun hS => ?_)
          clear hK K hS
          try simp only [Act.put, List.setIfInBounds_toArray, List.set_cons_zero, List.set_cons_succ, List.getElem_toArray, List.getElem_cons_zero, List.getElem_cons_succ]
          refine wpAnyH_done (by kernel_rfl) ?_ _
          go_wp2_with fail
          go_meet
          exact ⟨_, rfl, hge, BL.out, ZL.out⟩
        refine AllReadyH.cons rfl (fun K hK => ?_) ?_
        · skip
          go_simp
          refine hK.out _ _ ⟨⟨_, Bt2.out.alloc Bt2.out.size _⟩, rfl⟩ (fun hS => ?_)
          clear hK K hS
          try simp only [Act.put, List.setIfInBounds_toArray, List.set_cons_zero, List.set_cons_succ, List.getElem_toArray, List.getElem_cons_zero, List.getElem_cons_succ]
          obtain ⟨t5, ht⟩ : ∃ t, t = t2.alloc (colB zC) := ⟨_, rfl⟩
          change wpAnyH _ _ _ _ _ _ _ _ (t2.alloc (colB zC))
          rw [← ht]
          have Bt5 := Lib.hid (show Below X.heap.size X t5 by rw [ht]; exact Bt2.out.alloc Bt2.out.size _)
          have Gt5 := Lib.hid (show t5.heap[t2.heap.size]? = some (colB zC) by rw [ht]; exact new_at1 _ _)
          have hge : X.heap.size ≤ t2.heap.size := Bt2.out.size
          have hS : ∃ x : Grow X, t5 = x.w := ⟨⟨t5, Bt5.out⟩, rfl⟩
          clear ht
          refine wpAnyH_ready (rs := [10]) (by kernel_rfl) (by simp) ?_
          refine AllReadyH.cons rfl (fun K hK => ?_) AllReadyH.nil
          go_simp
          with_reducible refine (M1.out _).mono ?_
          rintro e t6 ⟨rfl, hb⟩
          have Bt6 := Lib.hid (bstep Bt5.out Bt5.out.size hb)
          have Gt6 := Lib.hid ((hb.block _ (Array.getElem?_eq_some_iff.1 Gt5.out).1).trans Gt5.out)
          clear hb
          refine hK.out _ _ ⟨⟨_, Bt6.out⟩, rfl⟩ (fun hS => ?_)
          clear hK K
          try simp only [Act.put, List.setIfInBounds_toArray, List.set_cons_zero, List.set_cons_succ, List.getElem_toArray, List.getElem_cons_zero, List.getElem_cons_succ]
          obtain ⟨i0, i1, i2, i3⟩ := colB_cell Gt6.out
          obtain ⟨j0, j1, j2, j3⟩ := colB_free Gt6.out
          have BL := Lib.hid (col_set t6 (t2.heap.size) _ top Bt6.out hge)
          have ZL := Lib.hid (colB_set top Gt6.out)
          refine wpAnyH_ready (rs := [12]) (by kernel_rfl) (by simp) ?_
          refine AllReadyH.cons rfl (fun K hK => ?_) AllReadyH.nil
          go_simp
          refine hK.out _ _ ⟨⟨_, BL.out⟩, rfl⟩ (fun hS => ?_)
          clear hK K hS
          try simp only [Act.put, List.setIfInBounds_toArray, List.set_cons_zero, List.set_cons_succ, List.getElem_toArray, List.getElem_cons_zero, List.getElem_cons_succ]
          refine wpAnyH_done (by kernel_rfl) ?_ _
          go_wp2_with fail
          go_meet
          exact ⟨_, rfl, hge, BL.out, ZL.out⟩
        exact AllReadyH.nil
      refine AllReadyH.cons rfl (fun K hK => ?_) ?_
      · skip
        go_simp
        refine hK.out _ _ ⟨⟨_, Bt1.out.alloc Bt1.out.size _⟩, rfl⟩ (fun hS => ?_)
        clear hK K hS
        try simp only [Act.put, List.setIfInBounds_toArray, List.set_cons_zero, List.set_cons_succ, List.getElem_toArray, List.getElem_cons_zero, List.getElem_cons_succ]
        obtain ⟨t7, ht⟩ : ∃ t, t = t1.alloc (colB zC) := ⟨_, rfl⟩
        change wpAnyH _ _ _ _ _ _ _ _ (t1.alloc (colB zC))
        rw [← ht]
        have Bt7 := Lib.hid (show Below X.heap.size X t7 by rw [ht]; exact Bt1.out.alloc Bt1.out.size _)
        have Gt7 := Lib.hid (show t7.heap[t1.heap.size]? = some (colB zC) by rw [ht]; exact new_at1 _ _)
        have hge : X.heap.size ≤ t1.heap.size := Bt1.out.size
        have hS : ∃ x : Grow X, t7 = x.w := ⟨⟨t7, Bt7.out⟩, rfl⟩
        clear ht
        refine wpAnyH_ready (rs := [8]) (by kernel_rfl) (by simp) ?_
        refine AllReadyH.cons rfl (fun K hK => ?_) AllReadyH.nil
        go_simp
        with_reducible refine (T2.out _ (EX.out.up Bt7.out)).mono ?_
        rintro e t8 ⟨rfl, hb⟩
        have Bt8 := Lib.hid (bstep Bt7.out Bt7.out.size hb)
        have Gt8 := Lib.hid ((hb.block _ (Array.getElem?_eq_some_iff.1 Gt7.out).1).trans Gt7.out)
        clear hb
        refine hK.out _ _ ⟨⟨_, Bt8.out⟩, rfl⟩ (fun hS => ?_)
        clear hK K
        try simp only [Act.put, List.setIfInBounds_toArray, List.set_cons_zero, List.set_cons_succ, List.getElem_toArray, List.getElem_cons_zero, List.getElem_cons_succ]
        refine wpAnyH_ready (rs := [10]) (by kernel_rfl) (by simp) ?_
        refine AllReadyH.cons rfl (fun K hK => ?_) AllReadyH.nil
        go_simp
        with_reducible refine (M1.out _).mono ?_
        rintro e t9 ⟨rfl, hb⟩
        have Bt9 := Lib.hid (bstep Bt8.out Bt8.out.size hb)
        have Gt9 := Lib.hid ((hb.block _ (Array.getElem?_eq_some_iff.1 Gt8.out).1).trans Gt8.out)
        clear hb
        refine hK.out _ _ ⟨⟨_, Bt9.out⟩, rfl⟩ (fun hS => ?_)
        clear hK K
        try simp only [Act.put, List.setIfInBounds_toArray, List.set_cons_zero, List.set_cons_succ, List.getElem_toArray, List.getElem_cons_zero, List.getElem_cons_succ]
        obtain ⟨i0, i1, i2, i3⟩ := colB_cell Gt9.out
        obtain ⟨j0, j1, j2, j3⟩ := colB_free Gt9.out
        have BL := Lib.hid (col_set t9 (t1.heap.size) _ top Bt9.out hge)
        have ZL := Lib.hid (colB_set top Gt9.out)
        refine wpAnyH_ready (rs := [12]) (by kernel_rfl) (by simp) ?_
        refine AllReadyH.cons rfl (fun K hK => ?_) AllReadyH.nil
        go_simp
        refine hK.out _ _ ⟨⟨_, BL.out⟩, rfl⟩ (fun hS => ?_)
        clear hK K hS
        try simp only [Act.put, List.setIfInBounds_toArray, List.set_cons_zero, List.set_cons_succ, List.getElem_toArray, List.getElem_cons_zero, List.getElem_cons_succ]
        refine wpAnyH_done (by kernel_rfl) ?_ _
        go_wp2_with fail
        go_meet
        exact ⟨_, rfl, hge, BL.out, ZL.out⟩
      exact AllReadyH.nil
    refine AllReadyH.cons rfl (fun K hK => ?_) ?_
    · skip
      go_simp
      refine hK.out _ _ ⟨⟨_, BY.out.alloc BY.out.size _⟩, rfl⟩ (fun hS => ?_)
      clear hK K hS
      try simp only [Act.put, List.setIfInBounds_toArray, List.set_cons_zero, List.set_cons_succ, List.getElem_toArray, List.getElem_cons_zero, List.getElem_cons_succ]
      obtain ⟨t10, ht⟩ : ∃ t, t = Y.alloc (colB zC) := ⟨_, rfl⟩
      change wpAnyH _ _ _ _ _ _ _ _ (Y.alloc (colB zC))
      rw [← ht]
      have Bt10 := Lib.hid (show Below X.heap.size X t10 by rw [ht]; exact BY.out.alloc BY.out.size _)
      have Gt10 := Lib.hid (show t10.heap[Y.heap.size]? = some (colB zC) by rw [ht]; exact new_at1 _ _)
      have hge : X.heap.size ≤ Y.heap.size := BY.out.size
      have hS : ∃ x : Grow X, t10 = x.w := ⟨⟨t10, Bt10.out⟩, rfl⟩
      clear ht
      refine wpAnyH_ready (rs := [3]) (by kernel_rfl) (by simp) ?_
      refine AllReadyH.cons rfl (fun K hK => ?_) AllReadyH.nil
      go_simp
      with_reducible refine (T1.out _ (EX.out.up Bt10.out)).mono ?_
      rintro e t11 ⟨rfl, hb⟩
      have Bt11 := Lib.hid (bstep Bt10.out Bt10.out.size hb)
      have Gt11 := Lib.hid ((hb.block _ (Array.getElem?_eq_some_iff.1 Gt10.out).1).trans Gt10.out)
      clear hb
      refine hK.out _ _ ⟨⟨_, Bt11.out⟩, rfl⟩ (fun hS => ?_)
      clear hK K
      try simp only [Act.put, List.setIfInBounds_toArray, List.set_cons_zero, List.set_cons_succ, List.getElem_toArray, List.getElem_cons_zero, List.getElem_cons_succ]
      refine wpAnyH_ready (rs := [8]) (by kernel_rfl) (by simp) ?_
      refine AllReadyH.cons rfl (fun K hK => ?_) AllReadyH.nil
      go_simp
      with_reducible refine (T2.out _ (EX.out.up Bt11.out)).mono ?_
      rintro e t12 ⟨rfl, hb⟩
      have Bt12 := Lib.hid (bstep Bt11.out Bt11.out.size hb)
      have Gt12 := Lib.hid ((hb.block _ (Array.getElem?_eq_some_iff.1 Gt11.out).1).trans Gt11.out)
      clear hb
      refine hK.out _ _ ⟨⟨_, Bt12.out⟩, rfl⟩ (fun hS => ?_)
      clear hK K
      try simp only [Act.put, List.setIfInBounds_toArray, List.set_cons_zero, List.set_cons_succ, List.getElem_toArray, List.getElem_cons_zero, List.getElem_cons_succ]
      refine wpAnyH_ready (rs := [10]) (by kernel_rfl) (by simp) ?_
      refine AllReadyH.cons rfl (fun K hK => ?_) AllReadyH.nil
      go_simp
      with_reducible refine (M1.out _).mono ?_
      rintro e t13 ⟨rfl, hb⟩
      have Bt13 := Lib.hid (bstep Bt12.out Bt12.out.size hb)
      have Gt13 := Lib.hid ((hb.block _ (Array.getElem?_eq_some_iff.1 Gt12.out).1).trans Gt12.out)
      clear hb
      refine hK.out _ _ ⟨⟨_, Bt13.out⟩, rfl⟩ (fun hS => ?_)
      clear hK K
      try simp only [Act.put, List.setIfInBounds_toArray, List.set_cons_zero, List.set_cons_succ, List.getElem_toArray, List.getElem_cons_zero, List.getElem_cons_succ]
      obtain ⟨i0, i1, i2, i3⟩ := colB_cell Gt13.out
      obtain ⟨j0, j1, j2, j3⟩ := colB_free Gt13.out
      have BL := Lib.hid (col_set t13 (Y.heap.size) _ top Bt13.out hge)
      have ZL := Lib.hid (colB_set top Gt13.out)
      refine wpAnyH_ready (rs := [12]) (by kernel_rfl) (by simp) ?_
      refine AllReadyH.cons rfl (fun K hK => ?_) AllReadyH.nil
      go_simp
      refine hK.out _ _ ⟨⟨_, BL.out⟩, rfl⟩ (fun hS => ?_)
      clear hK K hS
      try simp only [Act.put, List.setIfInBounds_toArray, List.set_cons_zero, List.set_cons_succ, List.getElem_toArray, List.getElem_cons_zero, List.getElem_cons_succ]
      refine wpAnyH_done (by kernel_rfl) ?_ _
      go_wp2_with fail
      go_meet
      exact ⟨_, rfl, hge, BL.out, ZL.out⟩
    exact AllReadyH.nil
  case rest =>
  rename World => V
  obtain ⟨h, rfl, hge, BV, ZV⟩ := hcut
  have BV := Lib.hid BV
  have GV := Lib.hid ZV
  have TV := Lib.hid (txB_grow TX.out BV.out)
  have ZV := Lib.hid ((BV.out.block _ (Array.getElem?_eq_some_iff.1 ZX.out).1).trans ZX.out)
  have EV := Lib.hid (EX.out.up BV.out)
  have HV := Lib.hid (bstep HX.out HX.out.size BV.out)
  have hne : w.heap.size + 1 < X.heap.size := (Array.getElem?_eq_some_iff.1 ZX.out).1
  clear BV TX ZX EX HX T1 T2 M1
  go_wp2_with fail
  go_cut [12] from 38 to 51 (fun s U => ∃ h, s = .pointer (some ⟨h, 0, none⟩) ∧ V.heap.size ≤ h ∧ Below V.heap.size V U ∧ U.heap[h]? = some (colB low))
  case first =>
    have d0 := txB_cell TV.out
    have y0 : ∀ x : Grow V, x.w.cell? ⟨w.heap.size, 0, none⟩ = some (.int .i64 t.w) := fun x => x.cell d0.1
    have y1 : ∀ x : Grow V, x.w.cell? ⟨w.heap.size, 1, none⟩ = some (.int .i64 t.h) := fun x => x.cell d0.2.1
    have y2 : ∀ x : Grow V, x.w.cell? ⟨w.heap.size, 2, none⟩ = some (.slice A t.px.length c) := fun x => x.cell d0.2.2
    refine wp_region_held_drew (S := fun w' => ∃ x : Grow V, w' = x.w) (by kernel_rfl) ⟨⟨_, (Below.refl _ _).drew⟩, rfl⟩ (fun hS => ?_)
    have BY := Lib.hid (show Below V.heap.size V V.drew from (Below.refl _ _).drew)
    generalize V.drew = Y at *
    clear d0
    refine wpAnyH_take (i := 0) (v := .agg #[.int .i64 t.w, .int .i64 t.h, .slice A t.px.length c]) rfl (by kernel_rfl) (by kernel_rfl) (by kernel_rfl) (fun _ _ _ h => h) (Or.inl ⟨by rfl, fun w hw => by obtain ⟨x, rfl⟩ := hw; go_simp⟩) hS ?_
    try simp only [Act.put, List.setIfInBounds_toArray, List.set_cons_zero, List.set_cons_succ, List.getElem_toArray, List.getElem_cons_zero]
    refine wpAnyH_take (i := 1) (v := .int .i64 x) rfl (by kernel_rfl) (by kernel_rfl) (by kernel_rfl) (fun _ _ _ h => h) (Or.inl ⟨by rfl, fun w hw => by obtain ⟨x, rfl⟩ := hw; go_simp⟩) hS ?_
    try simp only [Act.put, List.setIfInBounds_toArray, List.set_cons_zero, List.set_cons_succ, List.getElem_toArray, List.getElem_cons_zero, List.getElem_cons_succ]
    refine wpAnyH_take (i := 2) (v := .int .i64 y) rfl (by kernel_rfl) (by kernel_rfl) (by kernel_rfl) (fun _ _ _ h => h) (Or.inl ⟨by rfl, fun w hw => by obtain ⟨x, rfl⟩ := hw; go_simp⟩) hS ?_
    try simp only [Act.put, List.setIfInBounds_toArray, List.set_cons_zero, List.set_cons_succ, List.getElem_toArray, List.getElem_cons_zero, List.getElem_cons_succ]
    refine wpAnyH_take (i := 3) (v := .int .i64 (y + 1)) rfl (by kernel_rfl) (by kernel_rfl) (by kernel_rfl) (fun _ _ _ h => h) (Or.inl ⟨by rfl, fun w hw => by obtain ⟨x, rfl⟩ := hw; go_simp⟩) hS ?_
    try simp only [Act.put, List.setIfInBounds_toArray, List.set_cons_zero, List.set_cons_succ, List.getElem_toArray, List.getElem_cons_zero, List.getElem_cons_succ]
    refine wpAnyH_take (i := 5) (v := .agg #[.int .i64 t.w, .int .i64 t.h, .slice A t.px.length c]) rfl (by kernel_rfl) (by kernel_rfl) (by kernel_rfl) (fun _ _ _ h => h) (Or.inl ⟨by rfl, fun w hw => by obtain ⟨x, rfl⟩ := hw; go_simp⟩) hS ?_
    try simp only [Act.put, List.setIfInBounds_toArray, List.set_cons_zero, List.set_cons_succ, List.getElem_toArray, List.getElem_cons_zero, List.getElem_cons_succ]
    refine wpAnyH_take (i := 6) (v := .int .i64 x) rfl (by kernel_rfl) (by kernel_rfl) (by kernel_rfl) (fun _ _ _ h => h) (Or.inl ⟨by rfl, fun w hw => by obtain ⟨x, rfl⟩ := hw; go_simp⟩) hS ?_
    try simp only [Act.put, List.setIfInBounds_toArray, List.set_cons_zero, List.set_cons_succ, List.getElem_toArray, List.getElem_cons_zero, List.getElem_cons_succ]
    refine wpAnyH_take (i := 7) (v := .int .i64 (x + 1)) rfl (by kernel_rfl) (by kernel_rfl) (by kernel_rfl) (fun _ _ _ h => h) (Or.inl ⟨by rfl, fun w hw => by obtain ⟨x, rfl⟩ := hw; go_simp⟩) hS ?_
    try simp only [Act.put, List.setIfInBounds_toArray, List.set_cons_zero, List.set_cons_succ, List.getElem_toArray, List.getElem_cons_zero, List.getElem_cons_succ]
    refine wpAnyH_take (i := 8) (v := .int .i64 y) rfl (by kernel_rfl) (by kernel_rfl) (by kernel_rfl) (fun _ _ _ h => h) (Or.inl ⟨by rfl, fun w hw => by obtain ⟨x, rfl⟩ := hw; go_simp⟩) hS ?_
    try simp only [Act.put, List.setIfInBounds_toArray, List.set_cons_zero, List.set_cons_succ, List.getElem_toArray, List.getElem_cons_zero, List.getElem_cons_succ]
    refine wpAnyH_take (i := 9) (v := .int .i64 (y + 1)) rfl (by kernel_rfl) (by kernel_rfl) (by kernel_rfl) (fun _ _ _ h => h) (Or.inl ⟨by rfl, fun w hw => by obtain ⟨x, rfl⟩ := hw; go_simp⟩) hS ?_
    try simp only [Act.put, List.setIfInBounds_toArray, List.set_cons_zero, List.set_cons_succ, List.getElem_toArray, List.getElem_cons_zero, List.getElem_cons_succ]
    refine wpAnyH_take (i := 11) (v := .int .i64 (16 * f)) rfl (by kernel_rfl) (by kernel_rfl) (by kernel_rfl) (fun _ _ _ h => h) (Or.inl ⟨by rfl, fun w hw => by obtain ⟨x, rfl⟩ := hw; go_simp⟩) hS ?_
    try simp only [Act.put, List.setIfInBounds_toArray, List.set_cons_zero, List.set_cons_succ, List.getElem_toArray, List.getElem_cons_zero, List.getElem_cons_succ]
    refine wpAnyH_ready (rs := [4, 13]) (by kernel_rfl) (by simp) ?_
    refine AllReadyH.cons rfl (fun K hK => ?_) ?_
    · skip
      go_simp
      with_reducible refine (T3.out _ (EV.out.up BY.out)).mono ?_
      rintro e t1 ⟨rfl, hb⟩
      have Bt1 := Lib.hid (bstep BY.out BY.out.size hb)
      clear hb
      refine hK.out _ _ ⟨⟨_, Bt1.out⟩, rfl⟩ (fun hS => ?_)
      clear hK K
      try simp only [Act.put, List.setIfInBounds_toArray, List.set_cons_zero, List.set_cons_succ, List.getElem_toArray, List.getElem_cons_zero, List.getElem_cons_succ]
      refine wpAnyH_ready (rs := [10, 13]) (by kernel_rfl) (by simp) ?_
      refine AllReadyH.cons rfl (fun K hK => ?_) ?_
      · skip
        go_simp
        with_reducible refine (T4.out _ (EV.out.up Bt1.out)).mono ?_
        rintro e t2 ⟨rfl, hb⟩
        have Bt2 := Lib.hid (bstep Bt1.out Bt1.out.size hb)
        clear hb
        refine hK.out _ _ ⟨⟨_, Bt2.out⟩, rfl⟩ (fun hS => ?_)
        clear hK K
        try simp only [Act.put, List.setIfInBounds_toArray, List.set_cons_zero, List.set_cons_succ, List.getElem_toArray, List.getElem_cons_zero, List.getElem_cons_succ]
        refine wpAnyH_ready (rs := [12, 13]) (by kernel_rfl) (by simp) ?_
        refine AllReadyH.cons rfl (fun K hK => ?_) ?_
        · skip
          go_simp
          with_reducible refine (M2.out _).mono ?_
          rintro e t3 ⟨rfl, hb⟩
          have Bt3 := Lib.hid (bstep Bt2.out Bt2.out.size hb)
          clear hb
          refine hK.out _ _ ⟨⟨_, Bt3.out⟩, rfl⟩ (fun hS => ?_)
          clear hK K
          try simp only [Act.put, List.setIfInBounds_toArray, List.set_cons_zero, List.set_cons_succ, List.getElem_toArray, List.getElem_cons_zero, List.getElem_cons_succ]
          refine wpAnyH_ready (rs := [13]) (by kernel_rfl) (by simp) ?_
          refine AllReadyH.cons rfl (fun K hK => ?_) AllReadyH.nil
          go_simp
          refine hK.out _ _ ⟨⟨_, Bt3.out.alloc Bt3.out.size _⟩, rfl⟩ (fun hS => ?_)
          clear hK K hS
          try simp only [Act.put, List.setIfInBounds_toArray, List.set_cons_zero, List.set_cons_succ, List.getElem_toArray, List.getElem_cons_zero, List.getElem_cons_succ]
          obtain ⟨t4, ht⟩ : ∃ t, t = t3.alloc (colB zC) := ⟨_, rfl⟩
          change wpAnyH _ _ _ _ _ _ _ _ (t3.alloc (colB zC))
          rw [← ht]
          have Bt4 := Lib.hid (show Below V.heap.size V t4 by rw [ht]; exact Bt3.out.alloc Bt3.out.size _)
          have Gt4 := Lib.hid (show t4.heap[t3.heap.size]? = some (colB zC) by rw [ht]; exact new_at1 _ _)
          have hge : V.heap.size ≤ t3.heap.size := Bt3.out.size
          have hS : ∃ x : Grow V, t4 = x.w := ⟨⟨t4, Bt4.out⟩, rfl⟩
          clear ht
          obtain ⟨i0, i1, i2, i3⟩ := colB_cell Gt4.out
          obtain ⟨j0, j1, j2, j3⟩ := colB_free Gt4.out
          have BL := Lib.hid (col_set t4 (t3.heap.size) _ low Bt4.out hge)
          have ZL := Lib.hid (colB_set low Gt4.out)
          refine wpAnyH_ready (rs := [14]) (by kernel_rfl) (by simp) ?_
          refine AllReadyH.cons rfl (fun K hK => ?_) AllReadyH.nil
          go_simp
          refine hK.out _ _ ⟨⟨_, BL.out⟩, rfl⟩ (fun hS => ?_)
          clear hK K hS
          try simp only [Act.put, List.setIfInBounds_toArray, List.set_cons_zero, List.set_cons_succ, List.getElem_toArray, List.getElem_cons_zero, List.getElem_cons_succ]
          refine wpAnyH_done (by kernel_rfl) ?_ _
          go_wp2_with fail
          go_meet
          exact ⟨_, rfl, hge, BL.out, ZL.out⟩
        refine AllReadyH.cons rfl (fun K hK => ?_) ?_
        · skip
          go_simp
          refine hK.out _ _ ⟨⟨_, Bt2.out.alloc Bt2.out.size _⟩, rfl⟩ (fun hS => ?_)
          clear hK K hS
          try simp only [Act.put, List.setIfInBounds_toArray, List.set_cons_zero, List.set_cons_succ, List.getElem_toArray, List.getElem_cons_zero, List.getElem_cons_succ]
          obtain ⟨t5, ht⟩ : ∃ t, t = t2.alloc (colB zC) := ⟨_, rfl⟩
          change wpAnyH _ _ _ _ _ _ _ _ (t2.alloc (colB zC))
          rw [← ht]
          have Bt5 := Lib.hid (show Below V.heap.size V t5 by rw [ht]; exact Bt2.out.alloc Bt2.out.size _)
          have Gt5 := Lib.hid (show t5.heap[t2.heap.size]? = some (colB zC) by rw [ht]; exact new_at1 _ _)
          have hge : V.heap.size ≤ t2.heap.size := Bt2.out.size
          have hS : ∃ x : Grow V, t5 = x.w := ⟨⟨t5, Bt5.out⟩, rfl⟩
          clear ht
          refine wpAnyH_ready (rs := [12]) (by kernel_rfl) (by simp) ?_
          refine AllReadyH.cons rfl (fun K hK => ?_) AllReadyH.nil
          go_simp
          with_reducible refine (M2.out _).mono ?_
          rintro e t6 ⟨rfl, hb⟩
          have Bt6 := Lib.hid (bstep Bt5.out Bt5.out.size hb)
          have Gt6 := Lib.hid ((hb.block _ (Array.getElem?_eq_some_iff.1 Gt5.out).1).trans Gt5.out)
          clear hb
          refine hK.out _ _ ⟨⟨_, Bt6.out⟩, rfl⟩ (fun hS => ?_)
          clear hK K
          try simp only [Act.put, List.setIfInBounds_toArray, List.set_cons_zero, List.set_cons_succ, List.getElem_toArray, List.getElem_cons_zero, List.getElem_cons_succ]
          obtain ⟨i0, i1, i2, i3⟩ := colB_cell Gt6.out
          obtain ⟨j0, j1, j2, j3⟩ := colB_free Gt6.out
          have BL := Lib.hid (col_set t6 (t2.heap.size) _ low Bt6.out hge)
          have ZL := Lib.hid (colB_set low Gt6.out)
          refine wpAnyH_ready (rs := [14]) (by kernel_rfl) (by simp) ?_
          refine AllReadyH.cons rfl (fun K hK => ?_) AllReadyH.nil
          go_simp
          refine hK.out _ _ ⟨⟨_, BL.out⟩, rfl⟩ (fun hS => ?_)
          clear hK K hS
          try simp only [Act.put, List.setIfInBounds_toArray, List.set_cons_zero, List.set_cons_succ, List.getElem_toArray, List.getElem_cons_zero, List.getElem_cons_succ]
          refine wpAnyH_done (by kernel_rfl) ?_ _
          go_wp2_with fail
          go_meet
          exact ⟨_, rfl, hge, BL.out, ZL.out⟩
        exact AllReadyH.nil
      refine AllReadyH.cons rfl (fun K hK => ?_) ?_
      · skip
        go_simp
        refine hK.out _ _ ⟨⟨_, Bt1.out.alloc Bt1.out.size _⟩, rfl⟩ (fun hS => ?_)
        clear hK K hS
        try simp only [Act.put, List.setIfInBounds_toArray, List.set_cons_zero, List.set_cons_succ, List.getElem_toArray, List.getElem_cons_zero, List.getElem_cons_succ]
        obtain ⟨t7, ht⟩ : ∃ t, t = t1.alloc (colB zC) := ⟨_, rfl⟩
        change wpAnyH _ _ _ _ _ _ _ _ (t1.alloc (colB zC))
        rw [← ht]
        have Bt7 := Lib.hid (show Below V.heap.size V t7 by rw [ht]; exact Bt1.out.alloc Bt1.out.size _)
        have Gt7 := Lib.hid (show t7.heap[t1.heap.size]? = some (colB zC) by rw [ht]; exact new_at1 _ _)
        have hge : V.heap.size ≤ t1.heap.size := Bt1.out.size
        have hS : ∃ x : Grow V, t7 = x.w := ⟨⟨t7, Bt7.out⟩, rfl⟩
        clear ht
        refine wpAnyH_ready (rs := [10]) (by kernel_rfl) (by simp) ?_
        refine AllReadyH.cons rfl (fun K hK => ?_) AllReadyH.nil
        go_simp
        with_reducible refine (T4.out _ (EV.out.up Bt7.out)).mono ?_
        rintro e t8 ⟨rfl, hb⟩
        have Bt8 := Lib.hid (bstep Bt7.out Bt7.out.size hb)
        have Gt8 := Lib.hid ((hb.block _ (Array.getElem?_eq_some_iff.1 Gt7.out).1).trans Gt7.out)
        clear hb
        refine hK.out _ _ ⟨⟨_, Bt8.out⟩, rfl⟩ (fun hS => ?_)
        clear hK K
        try simp only [Act.put, List.setIfInBounds_toArray, List.set_cons_zero, List.set_cons_succ, List.getElem_toArray, List.getElem_cons_zero, List.getElem_cons_succ]
        refine wpAnyH_ready (rs := [12]) (by kernel_rfl) (by simp) ?_
        refine AllReadyH.cons rfl (fun K hK => ?_) AllReadyH.nil
        go_simp
        with_reducible refine (M2.out _).mono ?_
        rintro e t9 ⟨rfl, hb⟩
        have Bt9 := Lib.hid (bstep Bt8.out Bt8.out.size hb)
        have Gt9 := Lib.hid ((hb.block _ (Array.getElem?_eq_some_iff.1 Gt8.out).1).trans Gt8.out)
        clear hb
        refine hK.out _ _ ⟨⟨_, Bt9.out⟩, rfl⟩ (fun hS => ?_)
        clear hK K
        try simp only [Act.put, List.setIfInBounds_toArray, List.set_cons_zero, List.set_cons_succ, List.getElem_toArray, List.getElem_cons_zero, List.getElem_cons_succ]
        obtain ⟨i0, i1, i2, i3⟩ := colB_cell Gt9.out
        obtain ⟨j0, j1, j2, j3⟩ := colB_free Gt9.out
        have BL := Lib.hid (col_set t9 (t1.heap.size) _ low Bt9.out hge)
        have ZL := Lib.hid (colB_set low Gt9.out)
        refine wpAnyH_ready (rs := [14]) (by kernel_rfl) (by simp) ?_
        refine AllReadyH.cons rfl (fun K hK => ?_) AllReadyH.nil
        go_simp
        refine hK.out _ _ ⟨⟨_, BL.out⟩, rfl⟩ (fun hS => ?_)
        clear hK K hS
        try simp only [Act.put, List.setIfInBounds_toArray, List.set_cons_zero, List.set_cons_succ, List.getElem_toArray, List.getElem_cons_zero, List.getElem_cons_succ]
        refine wpAnyH_done (by kernel_rfl) ?_ _
        go_wp2_with fail
        go_meet
        exact ⟨_, rfl, hge, BL.out, ZL.out⟩
      exact AllReadyH.nil
    refine AllReadyH.cons rfl (fun K hK => ?_) ?_
    · skip
      go_simp
      refine hK.out _ _ ⟨⟨_, BY.out.alloc BY.out.size _⟩, rfl⟩ (fun hS => ?_)
      clear hK K hS
      try simp only [Act.put, List.setIfInBounds_toArray, List.set_cons_zero, List.set_cons_succ, List.getElem_toArray, List.getElem_cons_zero, List.getElem_cons_succ]
      obtain ⟨t10, ht⟩ : ∃ t, t = Y.alloc (colB zC) := ⟨_, rfl⟩
      change wpAnyH _ _ _ _ _ _ _ _ (Y.alloc (colB zC))
      rw [← ht]
      have Bt10 := Lib.hid (show Below V.heap.size V t10 by rw [ht]; exact BY.out.alloc BY.out.size _)
      have Gt10 := Lib.hid (show t10.heap[Y.heap.size]? = some (colB zC) by rw [ht]; exact new_at1 _ _)
      have hge : V.heap.size ≤ Y.heap.size := BY.out.size
      have hS : ∃ x : Grow V, t10 = x.w := ⟨⟨t10, Bt10.out⟩, rfl⟩
      clear ht
      refine wpAnyH_ready (rs := [4]) (by kernel_rfl) (by simp) ?_
      refine AllReadyH.cons rfl (fun K hK => ?_) AllReadyH.nil
      go_simp
      with_reducible refine (T3.out _ (EV.out.up Bt10.out)).mono ?_
      rintro e t11 ⟨rfl, hb⟩
      have Bt11 := Lib.hid (bstep Bt10.out Bt10.out.size hb)
      have Gt11 := Lib.hid ((hb.block _ (Array.getElem?_eq_some_iff.1 Gt10.out).1).trans Gt10.out)
      clear hb
      refine hK.out _ _ ⟨⟨_, Bt11.out⟩, rfl⟩ (fun hS => ?_)
      clear hK K
      try simp only [Act.put, List.setIfInBounds_toArray, List.set_cons_zero, List.set_cons_succ, List.getElem_toArray, List.getElem_cons_zero, List.getElem_cons_succ]
      refine wpAnyH_ready (rs := [10]) (by kernel_rfl) (by simp) ?_
      refine AllReadyH.cons rfl (fun K hK => ?_) AllReadyH.nil
      go_simp
      with_reducible refine (T4.out _ (EV.out.up Bt11.out)).mono ?_
      rintro e t12 ⟨rfl, hb⟩
      have Bt12 := Lib.hid (bstep Bt11.out Bt11.out.size hb)
      have Gt12 := Lib.hid ((hb.block _ (Array.getElem?_eq_some_iff.1 Gt11.out).1).trans Gt11.out)
      clear hb
      refine hK.out _ _ ⟨⟨_, Bt12.out⟩, rfl⟩ (fun hS => ?_)
      clear hK K
      try simp only [Act.put, List.setIfInBounds_toArray, List.set_cons_zero, List.set_cons_succ, List.getElem_toArray, List.getElem_cons_zero, List.getElem_cons_succ]
      refine wpAnyH_ready (rs := [12]) (by kernel_rfl) (by simp) ?_
      refine AllReadyH.cons rfl (fun K hK => ?_) AllReadyH.nil
      go_simp
      with_reducible refine (M2.out _).mono ?_
      rintro e t13 ⟨rfl, hb⟩
      have Bt13 := Lib.hid (bstep Bt12.out Bt12.out.size hb)
      have Gt13 := Lib.hid ((hb.block _ (Array.getElem?_eq_some_iff.1 Gt12.out).1).trans Gt12.out)
      clear hb
      refine hK.out _ _ ⟨⟨_, Bt13.out⟩, rfl⟩ (fun hS => ?_)
      clear hK K
      try simp only [Act.put, List.setIfInBounds_toArray, List.set_cons_zero, List.set_cons_succ, List.getElem_toArray, List.getElem_cons_zero, List.getElem_cons_succ]
      obtain ⟨i0, i1, i2, i3⟩ := colB_cell Gt13.out
      obtain ⟨j0, j1, j2, j3⟩ := colB_free Gt13.out
      have BL := Lib.hid (col_set t13 (Y.heap.size) _ low Bt13.out hge)
      have ZL := Lib.hid (colB_set low Gt13.out)
      refine wpAnyH_ready (rs := [14]) (by kernel_rfl) (by simp) ?_
      refine AllReadyH.cons rfl (fun K hK => ?_) AllReadyH.nil
      go_simp
      refine hK.out _ _ ⟨⟨_, BL.out⟩, rfl⟩ (fun hS => ?_)
      clear hK K hS
      try simp only [Act.put, List.setIfInBounds_toArray, List.set_cons_zero, List.set_cons_succ, List.getElem_toArray, List.getElem_cons_zero, List.getElem_cons_succ]
      refine wpAnyH_done (by kernel_rfl) ?_ _
      go_wp2_with fail
      go_meet
      exact ⟨_, rfl, hge, BL.out, ZL.out⟩
    exact AllReadyH.nil
  case rest =>
  rename World => U
  obtain ⟨h', rfl, hge', BU, ZU⟩ := hcut
  have BU := Lib.hid BU
  obtain ⟨e0, e1, e2, e3⟩ := colB_cell ZU
  obtain ⟨k0, k1, k2, k3⟩ := colB_cell (show U.heap[h]? = some (colB top) from (BU.out.block _ (Array.getElem?_eq_some_iff.1 GV.out).1).trans GV.out)
  have ZN := Lib.hid ((BU.out.block _ (Array.getElem?_eq_some_iff.1 ZV.out).1).trans ZV.out)
  have HN := Lib.hid (bstep HV.out HV.out.size BU.out)
  clear ZU ZV HV BU GV
  go_wp2_with fail
  with_reducible refine (M3.out _).mono ?_
  rintro e N ⟨rfl, hb⟩
  have ZL := (hb.block _ (Array.getElem?_eq_some_iff.1 ZN.out).1).trans ZN.out
  obtain ⟨i0, i1, i2, i3⟩ := colB_cell ZL
  obtain ⟨j0, j1, j2, j3⟩ := colB_free ZL
  have HL := Lib.hid (bstep HN.out HN.out.size hb)
  clear hb ZL e0 e1 e2 e3 k0 k1 k2 k3
  go_wp2
  refine bodyPost_ret (v := .agg #[.int .u8 q.r, .int .u8 q.g, .int .u8 q.b, .int .u8 q.a]) (by simp [results, Try.results21, go_sem, *]) rfl ⟨rfl, ?_⟩
  exact (((HL.out.setCell (by simp) _).setCell (by simp) _).setCell (by simp) _).setCell (by simp) _
end Go.Proofs.Ytehkcnmjkgelkaa
