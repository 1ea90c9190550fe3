/-
  The contracts of the reference's Texel, Nearest and Smooth.
-/
import Derived.Test.YtehkcnmjkgelkaaSmooth
namespace Go.Proofs.Ytehkcnmjkgelkaa
open Go.RowKit
attribute [local go_sem ↓] Go.wp_at_zero Go.wp_at_succ

theorem same_below {w w' : World} (h : w = w') : Below w.heap.size w w' := h ▸ Below.refl _ _
theorem rwrap_any (n s : Int) (hn : I64 n) (h0 : 1 ≤ s) (h1 : s ≤ 16) (w : World) :
    Calls Try.prog 37 #[.int .i64 n, .int .i64 s] w fun e w' => e = .returned (.int .i64 (n % s)) ∧ Below w.heap.size w w' := (wrap_any n s hn h0 h1 w).mono fun _ _ h => ⟨h.1, same_below h.2⟩
theorem col_set (w : World) (g : Nat) (B : Nat) (d : Col) {w0 : World} (h : Below B w0 w) (hg : B ≤ g) : Below B w0 ((((w.setCell ⟨g, 0, none⟩ (.int .u8 d.r)).setCell ⟨g, 1, none⟩ (.int .u8 d.g)).setCell ⟨g, 2, none⟩ (.int .u8 d.b)).setCell ⟨g, 3, none⟩ (.int .u8 d.a)) :=
  (((h.setCell hg _).setCell hg _).setCell hg _).setCell hg _

set_option maxRecDepth 100000 in
set_option maxHeartbeats 2000000 in
theorem rtexel_any (t : Tx) (A : Option Addr) (c : Nat) (x y : Int) (hx : I64 x) (hy : I64 y) (w : World) (he : Es EC w w.heap.size A t.px) :
    Calls Try.prog 46 #[.agg #[.int .i64 t.w, .int .i64 t.h, .slice A t.px.length c], .int .i64 x, .int .i64 y] w fun e w' => e = .returned (.agg #[.int .u8 (t.at x y).r, .int .u8 (t.at x y).g, .int .u8 (t.at x y).b, .int .u8 (t.at x y).a]) ∧ Below w.heap.size w w' := by
  have HR := Lib.hid (rright_tex t A c)
  have h0 : Below w.heap.size w ((w.alloc (.cells #[.int .i64 t.w, .int .i64 t.h, .slice A t.px.length c] 25)).alloc (.cells #[.int .u8 0, .int .u8 0, .int .u8 0, .int .u8 0] 38)) := ((Below.refl _ _).alloc (Nat.le_refl _) _).alloc (by simp) _
  have H0 := Lib.hid h0
  clear h0
  cases hr : t.right
  · have hat : t.at x y = zC := by unfold Tx.at; rw [hr]; rfl
    rw [hat]
    rw [hr] at HR
    clear he hx hy hr hat
    go_enter Try.func46, Try.ntmps46
    go_wp2_with fail
    refine (HR.out _).mono ?_
    rintro e w1 ⟨rfl, hb⟩
    have hz : w1.heap[w.heap.size + 1]? = some (colB zC) := (hb.block _ (by simp)).trans (new_at2 _ _ _)
    obtain ⟨i0, i1, i2, i3⟩ := colB_cell hz
    obtain ⟨j0, j1, j2, j3⟩ := colB_free hz
    have B1 := Lib.hid (bstep H0.out H0.out.size hb)
    clear hb hz
    go_wp2
    refine bodyPost_ret (v := .agg #[.int .u8 zC.r, .int .u8 zC.g, .int .u8 zC.b, .int .u8 zC.a]) (by simp [results, Try.results46, go_sem, zC, *]) rfl ⟨rfl, ?_⟩
    exact (((B1.out.setCell (by simp) _).setCell (by simp) _).setCell (by simp) _).setCell (by simp) _
  · obtain ⟨w0, w1, h0, h1, hl⟩ := Tx.fine hr
    obtain ⟨k, hk, hkm, u, hu, hat⟩ := Tx.at_place hr x y
    obtain ⟨b, off, rfl, hbB, hc⟩ := he.at hu
    rw [hat]
    rw [hr] at HR
    have HX := Lib.hid (rwrap_any x t.w hx w0 w1)
    have HY := Lib.hid (rwrap_any y t.h hy h0 h1)
    have x0 := Int.emod_nonneg x (show t.w ≠ 0 by omega)
    have x1 := Int.emod_lt_of_pos x (show (0 : Int) < t.w by omega)
    have y0 := Int.emod_nonneg y (show t.h ≠ 0 by omega)
    have y1 := Int.emod_lt_of_pos y (show (0 : Int) < t.h by omega)
    have hm2 := area_bd w0 w1 h0 h1 rfl
    have p00 := Int.mul_nonneg y0 (show 0 ≤ t.w by omega)
    generalize t.w * t.h = m at *
    generalize hcol : x % t.w = cl at *
    generalize hrow : y % t.h = rw_ at *
    obtain ⟨p, hp⟩ : ∃ p, rw_ * t.w = p := ⟨_, rfl⟩
    rw [hp] at hk p00
    have hp2 : IntKind.i64.wrap (rw_ * t.w) = p := by rw [hp, IntKind.wrap_i64]; omega
    have HC := Lib.hid (show AtE EC w b (off + k * 4) u from hc)
    have hk2 : IntKind.i64.wrap (p + cl) = (k : Int) := by rw [← hk, IntKind.wrap_i64]; omega
    have hkl : (k : Int) < (t.px.length : Int) := by omega
    have hk0 : (0 : Int) ≤ (k : Int) := by omega
    have hk1 : (k : Int) ≤ 256 := by omega
    clear hc hu hat hcol hrow hp hk hl hkm hx hy he hm2 p00 x0 x1 y0 y1 hr w0 w1 h0 h1
    go_enter Try.func46, Try.ntmps46
    go_wp2_with fail
    refine (HR.out _).mono ?_
    rintro e w1 ⟨rfl, hb⟩
    have hz : w1.heap[w.heap.size + 1]? = some (colB zC) := (hb.block _ (by simp)).trans (new_at2 _ _ _)
    have B1 := Lib.hid (bstep H0.out H0.out.size hb)
    have HZ := Lib.hid hz
    have BX := new_below w (.cells #[.int .i64 t.w, .int .i64 t.h, .slice (some ⟨b, off, none⟩) t.px.length c] 25)
    have KX := Lib.hid (bstep (new_below (w.alloc (.cells #[.int .i64 t.w, .int .i64 t.h, .slice (some ⟨b, off, none⟩) t.px.length c] 25)) (.cells #[.int .u8 0, .int .u8 0, .int .u8 0, .int .u8 0] 38)) (by simp) hb)
    have TX : (w.alloc (.cells #[.int .i64 t.w, .int .i64 t.h, .slice (some ⟨b, off, none⟩) t.px.length c] 25)).heap[w.heap.size]? = some (txB t (some ⟨b, off, none⟩) c) := new_at1 _ _
    have SX : (w.alloc (.cells #[.int .i64 t.w, .int .i64 t.h, .slice (some ⟨b, off, none⟩) t.px.length c] 25)).heap.size = w.heap.size + 1 := by simp
    clear hb hz H0 HR
    go_wp2_with fail
    generalize w.alloc (.cells #[.int .i64 t.w, .int .i64 t.h, .slice (some ⟨b, off, none⟩) t.px.length c] 25) = X at *
    have HBX := Lib.hid BX
    obtain ⟨d0, d1, d2⟩ := txB_cell TX
    obtain ⟨c0, c1, c2, c3⟩ := atC (HC.out.grow BX)
    clear BX TX
    refine wp_region_held_drew (S := fun w' => ∃ x : Grow X, w' = x.w) (by kernel_rfl) ⟨⟨_, (KX.out).drew⟩, rfl⟩ (fun hS => ?_)
    have HD := Lib.hid (KX.out.drew)
    have HZ1 := Lib.hid (show w1.drew.heap[w.heap.size + 1]? = some (colB zC) from HZ.out)
    have HW1 := Lib.hid (show Below w.heap.size w w1.drew from B1.out.drew)
    clear KX HZ B1
    generalize w1.drew = W0 at *
    have y0 : ∀ x : Grow X, x.w.cell? ⟨w.heap.size, 0, none⟩ = some (.int .i64 t.w) := fun x => x.cell d0
    have y1 : ∀ x : Grow X, x.w.cell? ⟨w.heap.size, 1, none⟩ = some (.int .i64 t.h) := fun x => x.cell d1
    have y2 : ∀ x : Grow X, x.w.cell? ⟨w.heap.size, 2, none⟩ = some (.slice (some ⟨b, off, none⟩) t.px.length c) := fun x => x.cell d2
    have q0 : ∀ x : Grow X, x.w.cell? ⟨b, off + k * 4, none⟩ = some (.int .u8 u.r) := fun x => x.cell c0
    have q1 : ∀ x : Grow X, x.w.cell? ⟨b, off + k * 4 + 1, none⟩ = some (.int .u8 u.g) := fun x => x.cell c1
    have q2 : ∀ x : Grow X, x.w.cell? ⟨b, off + k * 4 + 2, none⟩ = some (.int .u8 u.b) := fun x => x.cell c2
    have q3 : ∀ x : Grow X, x.w.cell? ⟨b, off + k * 4 + 3, none⟩ = some (.int .u8 u.a) := fun x => x.cell c3
    clear d0 d1 d2 c0 c1 c2 c3
    refine wpAnyH_take (i := 0) (v := .pointer (some ⟨w.heap.size, 2, none⟩)) rfl (by kernel_rfl) (by kernel_rfl) (by kernel_rfl) (fun _ _ _ h => h) (Or.inl ⟨by rfl, fun w hw => by obtain ⟨x, rfl⟩ := hw; go_simp⟩) hS ?_
    try simp only [Act.put, List.setIfInBounds_toArray, List.set_cons_zero, List.set_cons_succ, List.getElem_toArray, List.getElem_cons_zero]
    refine wpAnyH_take (i := 1) (v := .slice (some ⟨b, off, none⟩) t.px.length c) rfl (by kernel_rfl) (by kernel_rfl) (by kernel_rfl) (fun _ _ _ h => h) (Or.inl ⟨by rfl, fun w hw => by obtain ⟨x, rfl⟩ := hw; go_simp⟩) hS ?_
    try simp only [Act.put, List.setIfInBounds_toArray, List.set_cons_zero, List.set_cons_succ, List.getElem_toArray, List.getElem_cons_zero, List.getElem_cons_succ]
    refine wpAnyH_take (i := 2) (v := .int .i64 y) rfl (by kernel_rfl) (by kernel_rfl) (by kernel_rfl) (fun _ _ _ h => h) (Or.inl ⟨by rfl, fun w hw => by obtain ⟨x, rfl⟩ := hw; go_simp⟩) hS ?_
    try simp only [Act.put, List.setIfInBounds_toArray, List.set_cons_zero, List.set_cons_succ, List.getElem_toArray, List.getElem_cons_zero, List.getElem_cons_succ]
    refine wpAnyH_take (i := 3) (v := .pointer (some ⟨w.heap.size, 1, none⟩)) rfl (by kernel_rfl) (by kernel_rfl) (by kernel_rfl) (fun _ _ _ h => h) (Or.inl ⟨by rfl, fun w hw => by obtain ⟨x, rfl⟩ := hw; go_simp⟩) hS ?_
    try simp only [Act.put, List.setIfInBounds_toArray, List.set_cons_zero, List.set_cons_succ, List.getElem_toArray, List.getElem_cons_zero, List.getElem_cons_succ]
    refine wpAnyH_take (i := 4) (v := .int .i64 t.h) rfl (by kernel_rfl) (by kernel_rfl) (by kernel_rfl) (fun _ _ _ h => h) (Or.inl ⟨by rfl, fun w hw => by obtain ⟨x, rfl⟩ := hw; go_simp⟩) hS ?_
    try simp only [Act.put, List.setIfInBounds_toArray, List.set_cons_zero, List.set_cons_succ, List.getElem_toArray, List.getElem_cons_zero, List.getElem_cons_succ]
    refine wpAnyH_take (i := 6) (v := .pointer (some ⟨w.heap.size, 0, none⟩)) rfl (by kernel_rfl) (by kernel_rfl) (by kernel_rfl) (fun _ _ _ h => h) (Or.inl ⟨by rfl, fun w hw => by obtain ⟨x, rfl⟩ := hw; go_simp⟩) hS ?_
    try simp only [Act.put, List.setIfInBounds_toArray, List.set_cons_zero, List.set_cons_succ, List.getElem_toArray, List.getElem_cons_zero, List.getElem_cons_succ]
    refine wpAnyH_take (i := 7) (v := .int .i64 t.w) rfl (by kernel_rfl) (by kernel_rfl) (by kernel_rfl) (fun _ _ _ h => h) (Or.inl ⟨by rfl, fun w hw => by obtain ⟨x, rfl⟩ := hw; go_simp⟩) hS ?_
    try simp only [Act.put, List.setIfInBounds_toArray, List.set_cons_zero, List.set_cons_succ, List.getElem_toArray, List.getElem_cons_zero, List.getElem_cons_succ]
    refine wpAnyH_take (i := 9) (v := .int .i64 x) rfl (by kernel_rfl) (by kernel_rfl) (by kernel_rfl) (fun _ _ _ h => h) (Or.inl ⟨by rfl, fun w hw => by obtain ⟨x, rfl⟩ := hw; go_simp⟩) hS ?_
    try simp only [Act.put, List.setIfInBounds_toArray, List.set_cons_zero, List.set_cons_succ, List.getElem_toArray, List.getElem_cons_zero, List.getElem_cons_succ]
    refine wpAnyH_take (i := 10) (v := .pointer (some ⟨w.heap.size, 0, none⟩)) rfl (by kernel_rfl) (by kernel_rfl) (by kernel_rfl) (fun _ _ _ h => h) (Or.inl ⟨by rfl, fun w hw => by obtain ⟨x, rfl⟩ := hw; go_simp⟩) hS ?_
    try simp only [Act.put, List.setIfInBounds_toArray, List.set_cons_zero, List.set_cons_succ, List.getElem_toArray, List.getElem_cons_zero, List.getElem_cons_succ]
    refine wpAnyH_take (i := 11) (v := .int .i64 t.w) rfl (by kernel_rfl) (by kernel_rfl) (by kernel_rfl) (fun _ _ _ h => h) (Or.inl ⟨by rfl, fun w hw => by obtain ⟨x, rfl⟩ := hw; go_simp⟩) hS ?_
    try simp only [Act.put, List.setIfInBounds_toArray, List.set_cons_zero, List.set_cons_succ, List.getElem_toArray, List.getElem_cons_zero, List.getElem_cons_succ]
    refine wpAnyH_ready (rs := [5]) (by kernel_rfl) (by simp) ?_
    refine AllReadyH.cons rfl (fun K hK => ?_) AllReadyH.nil
    go_simp
    refine (HY.out _).mono ?_
    rintro e t1 ⟨rfl, hb⟩
    have B1 := Lib.hid (bstep HD.out HD.out.size hb)
    have Z1 := Lib.hid ((hb.block _ (Array.getElem?_eq_some_iff.1 HZ1.out).1).trans HZ1.out)
    have W1 := Lib.hid (bstep HW1.out HW1.out.size hb)
    clear hb
    refine hK.out _ _ ⟨⟨_, B1.out⟩, rfl⟩ (fun hS => ?_)
    clear hK K
    try simp only [Act.put, List.setIfInBounds_toArray, List.set_cons_zero, List.set_cons_succ, List.getElem_toArray, List.getElem_cons_zero, List.getElem_cons_succ]
    refine wpAnyH_take (i := 8) (v := .int .i64 p) rfl (by kernel_rfl) (by kernel_rfl) (by kernel_rfl) (fun _ _ _ h => h) (Or.inl ⟨by rfl, fun w hw => by obtain ⟨x, rfl⟩ := hw; go_simp⟩) hS ?_
    try simp only [Act.put, List.setIfInBounds_toArray, List.set_cons_zero, List.set_cons_succ, List.getElem_toArray, List.getElem_cons_zero, List.getElem_cons_succ]
    refine wpAnyH_ready (rs := [12]) (by kernel_rfl) (by simp) ?_
    refine AllReadyH.cons rfl (fun K hK => ?_) AllReadyH.nil
    go_simp
    refine (HX.out _).mono ?_
    rintro e t2 ⟨rfl, hb⟩
    have B2 := Lib.hid (bstep B1.out B1.out.size hb)
    have Z2 := Lib.hid ((hb.block _ (Array.getElem?_eq_some_iff.1 Z1.out).1).trans Z1.out)
    have W2 := Lib.hid (bstep W1.out W1.out.size hb)
    clear hb
    refine hK.out _ _ ⟨⟨_, B2.out⟩, rfl⟩ (fun hS => ?_)
    clear hK K
    try simp only [Act.put, List.setIfInBounds_toArray, List.set_cons_zero, List.set_cons_succ, List.getElem_toArray, List.getElem_cons_zero, List.getElem_cons_succ]
    refine wpAnyH_take (i := 13) (v := .int .i64 (k : Int)) rfl (by kernel_rfl) (by kernel_rfl) (by kernel_rfl) (fun _ _ _ h => h) (Or.inl ⟨by rfl, fun w hw => by obtain ⟨x, rfl⟩ := hw; go_simp⟩) hS ?_
    try simp only [Act.put, List.setIfInBounds_toArray, List.set_cons_zero, List.set_cons_succ, List.getElem_toArray, List.getElem_cons_zero, List.getElem_cons_succ]
    refine wpAnyH_take (i := 14) (v := .pointer (some ⟨b, off + k * 4, none⟩)) rfl (by kernel_rfl) (by kernel_rfl) (by kernel_rfl) (fun _ _ _ h => h) (Or.inl ⟨by rfl, fun w hw => by obtain ⟨x, rfl⟩ := hw; go_simp⟩) hS ?_
    try simp only [Act.put, List.setIfInBounds_toArray, List.set_cons_zero, List.set_cons_succ, List.getElem_toArray, List.getElem_cons_zero, List.getElem_cons_succ]
    refine wpAnyH_take (i := 15) (v := .agg #[.int .u8 u.r, .int .u8 u.g, .int .u8 u.b, .int .u8 u.a]) rfl (by kernel_rfl) (by kernel_rfl) (by kernel_rfl) (fun _ _ _ h => h) (Or.inl ⟨by rfl, fun w hw => by obtain ⟨x, rfl⟩ := hw; go_simp⟩) hS ?_
    try simp only [Act.put, List.setIfInBounds_toArray, List.set_cons_zero, List.set_cons_succ, List.getElem_toArray, List.getElem_cons_zero, List.getElem_cons_succ]
    obtain ⟨i0, i1, i2, i3⟩ := colB_cell Z2.out
    obtain ⟨j0, j1, j2, j3⟩ := colB_free Z2.out
    have B3 := Lib.hid (col_set t2 (w.heap.size + 1) _ u B2.out (by omega))
    have W3 := Lib.hid (col_set t2 (w.heap.size + 1) _ u W2.out (by omega))
    have Z3 := Lib.hid (colB_set u Z2.out)
    refine wpAnyH_ready (rs := [16]) (by kernel_rfl) (by simp) ?_
    refine AllReadyH.cons rfl (fun K hK => ?_) AllReadyH.nil
    go_simp
    refine hK.out _ _ ⟨⟨_, B3.out⟩, rfl⟩ (fun hS => ?_)
    clear hK K
    try simp only [Act.put, List.setIfInBounds_toArray, List.set_cons_zero, List.set_cons_succ, List.getElem_toArray, List.getElem_cons_zero, List.getElem_cons_succ]
    refine wpAnyH_done (by kernel_rfl) ?_ _
    obtain ⟨m0, m1, m2, m3⟩ := colB_cell Z3.out
    clear i0 i1 i2 i3 j0 j1 j2 j3
    generalize (((t2.setCell ⟨w.heap.size + 1, 0, none⟩ (.int .u8 u.r)).setCell ⟨w.heap.size + 1, 1, none⟩ (.int .u8 u.g)).setCell ⟨w.heap.size + 1, 2, none⟩ (.int .u8 u.b)).setCell ⟨w.heap.size + 1, 3, none⟩ (.int .u8 u.a) = t4 at *
    go_wp2
    refine bodyPost_ret (v := .agg #[.int .u8 u.r, .int .u8 u.g, .int .u8 u.b, .int .u8 u.a]) (by simp [results, Try.results46, go_sem, *]) rfl ⟨rfl, ?_⟩
    exact W3.out
end Go.Proofs.Ytehkcnmjkgelkaa
