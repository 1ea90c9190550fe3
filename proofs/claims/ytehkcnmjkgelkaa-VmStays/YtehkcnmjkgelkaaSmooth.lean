/-
  The contracts of texture.Smooth and of its closure.
-/
import Derived.Test.YtehkcnmjkgelkaaTexel
namespace Go.Proofs.Ytehkcnmjkgelkaa
open Go.RowKit
attribute [local go_sem ↓] Go.wp_at_zero Go.wp_at_succ

theorem store_func (P : Program) (w : World) (a : Addr) (m : Mode) (f : Fn) (x y : Array Value) : (store a (.func f x y) m).run P w = stored P w a (.func f x y) m := run_store P w a _ m rfl
attribute [local go_sem] store_func

/-- Numbers far within an int. -/
def Far (n : Int) : Prop := -2000000000000 ≤ n ∧ n ≤ 2000000000000
theorem Far.i64 {n : Int} (h : Far n) : I64 n := by unfold Far at h; unfold I64; omega

set_option maxRecDepth 100000 in
set_option maxHeartbeats 2000000 in
theorem row_any (t : Tx) (ht : t.ok) (x f y : Int) (hx : Far x) (hy : Far y) (f0 : 0 ≤ f) (f1 : f < 16) (ga gx gf : Nat) (v : Value) (w : World) (ca : w.cell? ⟨ga, 0, none⟩ = some v) (cx : w.cell? ⟨gx, 0, none⟩ = some (.int .i64 x)) (cf : w.cell? ⟨gf, 0, none⟩ = some (.int .i64 f)) (hv : Kept t w v) :
    Calls Try.prog 55 #[.int .i64 y, .pointer (some ⟨ga, 0, none⟩), .pointer (some ⟨gx, 0, none⟩), .pointer (some ⟨gf, 0, none⟩)] w fun e w' => e = .returned (.agg #[.int .u8 (t.row x f y).r, .int .u8 (t.row x f y).g, .int .u8 (t.row x f y).b, .int .u8 (t.row x f y).a]) ∧ Below w.heap.size w w' := by
  obtain ⟨k, caps, rfl, eg, hK⟩ := hv
  have h1 : I64 (x + 1) := by unfold Far at hx; unfold I64; omega
  have H1 := Lib.hid (fun W => hK x y W hx.i64 hy.i64)
  have H2 := Lib.hid (fun W => hK (x + 1) y W h1 hy.i64)
  have HM := Lib.hid (fun W => mix_col (t.at x y) (t.at (x + 1) y) (16 * f) W (Tx.at_ok ht x y) (Tx.at_ok ht (x + 1) y))
  unfold Far at hx hy
  unfold Tx.row
  clear hK h1 ht
  generalize t.at x y = c1 at *
  generalize t.at (x + 1) y = c2 at *
  generalize mix c1 c2 (16 * f) = c3 at *
  go_enter Try.func55, Try.ntmps55
  go_wp2_with fail
  have H0 := Lib.hid (new_below w (.cells #[.int .u8 0, .int .u8 0, .int .u8 0, .int .u8 0] 38))
  have HZ := Lib.hid (show (w.alloc (.cells #[.int .u8 0, .int .u8 0, .int .u8 0, .int .u8 0] 38)).drew.heap[w.heap.size]? = some (colB zC) from new_at1 w _)
  have HL := Lib.hid (show w.heap.size < (w.alloc (.cells #[.int .u8 0, .int .u8 0, .int .u8 0, .int .u8 0] 38)).drew.heap.size by simp)
  refine wp_region_held_drew (S := fun w' => ∃ x : Grow w, w' = x.w) (by kernel_rfl) ⟨⟨_, (H0.out).drew⟩, rfl⟩ (fun hS => ?_)
  have HD := Lib.hid (H0.out.drew)
  clear H0
  generalize (w.alloc (.cells #[.int .u8 0, .int .u8 0, .int .u8 0, .int .u8 0] 38)).drew = W0 at *
  have ya : ∀ x : Grow w, x.w.cell? ⟨ga, 0, none⟩ = some (.func (.func k) #[] caps) := fun x => x.cell ca
  have yx : ∀ z : Grow w, z.w.cell? ⟨gx, 0, none⟩ = some (.int .i64 x) := fun z => z.cell cx
  have yf : ∀ x : Grow w, x.w.cell? ⟨gf, 0, none⟩ = some (.int .i64 f) := fun x => x.cell cf
  clear ca cx cf
  refine wpAnyH_take (i := 0) (v := .func (.func k) #[] caps) rfl (by kernel_rfl) (by kernel_rfl) (by kernel_rfl) (fun _ _ _ h => h) (Or.inl ⟨by rfl, fun w hw => by obtain ⟨x, rfl⟩ := hw; go_simp⟩) hS ?_
  try simp only [Act.put, List.setIfInBounds_toArray, List.set_cons_zero, List.set_cons_succ, List.getElem_toArray, List.getElem_cons_zero]
  refine wpAnyH_take (i := 1) (v := .int .i64 x) rfl (by kernel_rfl) (by kernel_rfl) (by kernel_rfl) (fun _ _ _ h => h) (Or.inl ⟨by rfl, fun w hw => by obtain ⟨x, rfl⟩ := hw; go_simp⟩) hS ?_
  try simp only [Act.put, List.setIfInBounds_toArray, List.set_cons_zero, List.set_cons_succ, List.getElem_toArray, List.getElem_cons_zero, List.getElem_cons_succ]
  refine wpAnyH_take (i := 2) (v := .int .i64 y) rfl (by kernel_rfl) (by kernel_rfl) (by kernel_rfl) (fun _ _ _ h => h) (Or.inl ⟨by rfl, fun w hw => by obtain ⟨x, rfl⟩ := hw; go_simp⟩) hS ?_
  try simp only [Act.put, List.setIfInBounds_toArray, List.set_cons_zero, List.set_cons_succ, List.getElem_toArray, List.getElem_cons_zero, List.getElem_cons_succ]
  refine wpAnyH_take (i := 4) (v := .func (.func k) #[] caps) rfl (by kernel_rfl) (by kernel_rfl) (by kernel_rfl) (fun _ _ _ h => h) (Or.inl ⟨by rfl, fun w hw => by obtain ⟨x, rfl⟩ := hw; go_simp⟩) hS ?_
  try simp only [Act.put, List.setIfInBounds_toArray, List.set_cons_zero, List.set_cons_succ, List.getElem_toArray, List.getElem_cons_zero, List.getElem_cons_succ]
  refine wpAnyH_take (i := 5) (v := .int .i64 x) rfl (by kernel_rfl) (by kernel_rfl) (by kernel_rfl) (fun _ _ _ h => h) (Or.inl ⟨by rfl, fun w hw => by obtain ⟨x, rfl⟩ := hw; go_simp⟩) hS ?_
  try simp only [Act.put, List.setIfInBounds_toArray, List.set_cons_zero, List.set_cons_succ, List.getElem_toArray, List.getElem_cons_zero, List.getElem_cons_succ]
  refine wpAnyH_take (i := 6) (v := .int .i64 (x + 1)) rfl (by kernel_rfl) (by kernel_rfl) (by kernel_rfl) (fun _ _ _ h => h) (Or.inl ⟨by rfl, fun w hw => by obtain ⟨x, rfl⟩ := hw; go_simp; rw [IntKind.wrap_i64]; omega⟩) hS ?_
  try simp only [Act.put, List.setIfInBounds_toArray, List.set_cons_zero, List.set_cons_succ, List.getElem_toArray, List.getElem_cons_zero, List.getElem_cons_succ]
  refine wpAnyH_take (i := 7) (v := .int .i64 y) rfl (by kernel_rfl) (by kernel_rfl) (by kernel_rfl) (fun _ _ _ h => h) (Or.inl ⟨by rfl, fun w hw => by obtain ⟨x, rfl⟩ := hw; go_simp⟩) hS ?_
  try simp only [Act.put, List.setIfInBounds_toArray, List.set_cons_zero, List.set_cons_succ, List.getElem_toArray, List.getElem_cons_zero, List.getElem_cons_succ]
  refine wpAnyH_take (i := 9) (v := .int .i64 f) rfl (by kernel_rfl) (by kernel_rfl) (by kernel_rfl) (fun _ _ _ h => h) (Or.inl ⟨by rfl, fun w hw => by obtain ⟨x, rfl⟩ := hw; go_simp⟩) hS ?_
  try simp only [Act.put, List.setIfInBounds_toArray, List.set_cons_zero, List.set_cons_succ, List.getElem_toArray, List.getElem_cons_zero, List.getElem_cons_succ]
  refine wpAnyH_take (i := 10) (v := .int .i64 (16 * f)) rfl (by kernel_rfl) (by kernel_rfl) (by kernel_rfl) (fun _ _ _ h => h) (Or.inl ⟨by rfl, fun w hw => by obtain ⟨x, rfl⟩ := hw; go_simp; rw [IntKind.wrap_i64]; omega⟩) hS ?_
  try simp only [Act.put, List.setIfInBounds_toArray, List.set_cons_zero, List.set_cons_succ, List.getElem_toArray, List.getElem_cons_zero, List.getElem_cons_succ]
  refine wpAnyH_ready (rs := [3]) (by kernel_rfl) (by simp) ?_
  refine AllReadyH.cons rfl (fun K hK => ?_) AllReadyH.nil
  go_simp
  refine (H1.out _ HD.out).mono ?_
  rintro e t1 ⟨rfl, hb⟩
  have B1 := Lib.hid (bstep HD.out HD.out.size hb)
  have Z1 := Lib.hid ((hb.block _ HL.out).trans HZ.out)
  have L1 := Lib.hid (Nat.lt_of_lt_of_le HL.out hb.size)
  clear hb
  refine hK.out _ _ ⟨⟨_, B1.out⟩, rfl⟩ (fun hS => ?_)
  clear hK K
  try simp only [Act.put, List.setIfInBounds_toArray, List.set_cons_zero, List.set_cons_succ, List.getElem_toArray, List.getElem_cons_zero, List.getElem_cons_succ]
  refine wpAnyH_ready (rs := [8]) (by kernel_rfl) (by simp) ?_
  refine AllReadyH.cons rfl (fun K hK => ?_) AllReadyH.nil
  go_simp
  refine (H2.out _ B1.out).mono ?_
  rintro e t2 ⟨rfl, hb⟩
  have B2 := Lib.hid (bstep B1.out B1.out.size hb)
  have Z2 := Lib.hid ((hb.block _ L1.out).trans Z1.out)
  have L2 := Lib.hid (Nat.lt_of_lt_of_le L1.out hb.size)
  clear hb
  refine hK.out _ _ ⟨⟨_, B2.out⟩, rfl⟩ (fun hS => ?_)
  clear hK K
  try simp only [Act.put, List.setIfInBounds_toArray, List.set_cons_zero, List.set_cons_succ, List.getElem_toArray, List.getElem_cons_zero, List.getElem_cons_succ]
  refine wpAnyH_ready (rs := [11]) (by kernel_rfl) (by simp) ?_
  refine AllReadyH.cons rfl (fun K hK => ?_) AllReadyH.nil
  go_simp
  refine (HM.out _).mono ?_
  rintro e t3 ⟨rfl, hb⟩
  have B3 := Lib.hid (bstep B2.out B2.out.size hb)
  have Z3 := Lib.hid ((hb.block _ L2.out).trans Z2.out)
  clear hb
  refine hK.out _ _ ⟨⟨_, B3.out⟩, rfl⟩ (fun hS => ?_)
  clear hK K
  try simp only [Act.put, List.setIfInBounds_toArray, List.set_cons_zero, List.set_cons_succ, List.getElem_toArray, List.getElem_cons_zero, List.getElem_cons_succ]
  obtain ⟨i0, i1, i2, i3⟩ := colB_cell Z3.out
  obtain ⟨j0, j1, j2, j3⟩ := colB_free Z3.out
  have B4 := Lib.hid ((((B3.out.setCell (Nat.le_refl _) (p := ⟨w.heap.size, 0, none⟩) (.int .u8 c3.r)).setCell (Nat.le_refl _) (p := ⟨w.heap.size, 1, none⟩) (.int .u8 c3.g)).setCell (Nat.le_refl _) (p := ⟨w.heap.size, 2, none⟩) (.int .u8 c3.b)).setCell (Nat.le_refl _) (p := ⟨w.heap.size, 3, none⟩) (.int .u8 c3.a))
  have Z4 := Lib.hid (colB_set c3 Z3.out)
  refine wpAnyH_ready (rs := [12]) (by kernel_rfl) (by simp) ?_
  refine AllReadyH.cons rfl (fun K hK => ?_) AllReadyH.nil
  go_simp
  refine hK.out _ _ ⟨⟨_, B4.out⟩, rfl⟩ (fun hS => ?_)
  clear hK K
  try simp only [Act.put, List.setIfInBounds_toArray, List.set_cons_zero, List.set_cons_succ, List.getElem_toArray, List.getElem_cons_zero, List.getElem_cons_succ]
  refine wpAnyH_done (by kernel_rfl) ?_ _
  obtain ⟨m0, m1, m2, m3⟩ := colB_cell Z4.out
  clear i0 i1 i2 i3 j0 j1 j2 j3
  generalize (((t3.setCell ⟨w.heap.size, 0, none⟩ (.int .u8 c3.r)).setCell ⟨w.heap.size, 1, none⟩ (.int .u8 c3.g)).setCell ⟨w.heap.size, 2, none⟩ (.int .u8 c3.b)).setCell ⟨w.heap.size, 3, none⟩ (.int .u8 c3.a) = t4 at *
  go_wp2
  refine bodyPost_ret (v := .agg #[.int .u8 c3.r, .int .u8 c3.g, .int .u8 c3.b, .int .u8 c3.a]) (by simp [results, Try.results55, go_sem, *]) rfl ⟨rfl, ?_⟩
  exact B4.out

set_option maxRecDepth 100000 in
set_option maxHeartbeats 2000000 in
theorem smooth_any (t : Tx) (ht : t.ok) (A : Option Addr) (c : Nat) (u v : Int) (hu : Far u) (hv : Far v) (w : World) (he : Es EC w w.heap.size A t.px) :
    Calls Try.prog 27 #[.agg #[.int .i64 t.w, .int .i64 t.h, .slice A t.px.length c], .int .i64 u, .int .i64 v] w fun e w' => e = .returned (.agg #[.int .u8 (t.smooth u v).r, .int .u8 (t.smooth u v).g, .int .u8 (t.smooth u v).b, .int .u8 (t.smooth u v).a]) ∧ Below w.heap.size w w' := by
  have hmf := mk_func
  have HT := Lib.hid (texels_any t A c)
  have HE := Lib.hid he
  unfold Far at hu hv
  have HU := Lib.hid (split_any (u - 8) 16 (by unfold I64; omega) (by decide) (by decide))
  have HV := Lib.hid (split_any (v - 8) 16 (by unfold I64; omega) (by decide) (by decide))
  obtain ⟨x, hx⟩ : ∃ x, (u - 8) / 16 = x := ⟨_, rfl⟩
  obtain ⟨f, hf⟩ : ∃ f, (u - 8) % 16 = f := ⟨_, rfl⟩
  obtain ⟨y, hy⟩ : ∃ y, (v - 8) / 16 = y := ⟨_, rfl⟩
  obtain ⟨g, hg⟩ : ∃ g, (v - 8) % 16 = g := ⟨_, rfl⟩
  have f0 : 0 ≤ f ∧ f < 16 := by omega
  have g0 : 0 ≤ g ∧ g < 16 := by omega
  have xb : Far x := by unfold Far; omega
  have yb : Far y := by unfold Far; omega
  have yb1 : Far (y + 1) := by unfold Far; omega
  unfold Tx.smooth
  have HR1 := Lib.hid (row_any t ht x f y xb yb f0.1 f0.2)
  have HR2 := Lib.hid (row_any t ht x f (y + 1) xb yb1 f0.1 f0.2)
  have HM := Lib.hid (fun W => mix_col (t.row x f y) (t.row x f (y + 1)) (16 * g) W (Tx.row_ok ht _ _ _) (Tx.row_ok ht _ _ _))
  rw [hx, hf] at HU ⊢
  rw [hy, hg] at HV ⊢
  unfold Far at yb
  clear ht he hx hf hy hg f0 xb yb1
  generalize t.row x f y = c1 at *
  generalize t.row x f (y + 1) = c2 at *
  generalize mix c1 c2 (16 * g) = c3 at *
  go_enter Try.func27, Try.ntmps27
  go_wp2_with fail
  have h0 : Below w.heap.size w ((w.alloc (.cells #[.int .i64 t.w, .int .i64 t.h, .slice A t.px.length c] 25)).alloc (.cells #[.int .u8 0, .int .u8 0, .int .u8 0, .int .u8 0] 38)) := ((Below.refl _ _).alloc (Nat.le_refl _) _).alloc (by simp) _
  refine (HT.out _ (HE.out.up h0)).mono ?_
  rintro e w1 ⟨⟨F, rfl, hF⟩, hb⟩
  have HF := Lib.hid hF
  obtain ⟨k, caps, rfl, -, -⟩ := hF
  have HB1 := Lib.hid (bstep h0 h0.size hb)
  have Z1 := Lib.hid ((hb.block (w.heap.size + 1) (by simp)).trans (new_at2 _ _ _))
  have L1 := Lib.hid (show w.heap.size + 1 < w1.heap.size by have := hb.size; simp at this; omega)
  clear h0 hb HT HE
  go_wp2_with (go_at_call 52; first | ((with_reducible refine (HU.out _).mono ?_); rintro e w' ⟨rfl, rfl⟩) | ((with_reducible refine (HV.out _).mono ?_); rintro e w' ⟨rfl, rfl⟩))
  obtain ⟨X, hX⟩ : ∃ X, X = ((w1.alloc (.cells #[.func (.func k) #[] caps] 83)).alloc (.cells #[.int .i64 x] 3)).alloc (.cells #[.int .i64 f] 3) := ⟨_, rfl⟩
  rw [← hX]
  have hXB : Below w1.heap.size w1 X := by rw [hX]; exact (((Below.refl _ _).alloc (Nat.le_refl _) _).alloc (by simp) _).alloc (by simp <;> omega) _
  have X0 : X.cell? ⟨w1.heap.size, 0, none⟩ = some (.func (.func k) #[] caps) := by rw [hX]; simp [go_sem, World.cell?_alloc_past]
  have X1 : X.cell? ⟨w1.heap.size + 1, 0, none⟩ = some (.int .i64 x) := by rw [hX]; simp [go_sem, World.cell?_alloc_past]
  have X2 : X.cell? ⟨w1.heap.size + 1 + 1, 0, none⟩ = some (.int .i64 f) := by rw [hX]; simp [go_sem]
  have HX := Lib.hid (And.intro X0 (And.intro X1 X2))
  have HXB := Lib.hid hXB
  clear hX X0 X1 X2 hXB
  refine (HR1.out _ _ _ _ _ HX.out.1 HX.out.2.1 HX.out.2.2 (HF.out.grow HXB.out)).mono ?_
  rintro e w2 ⟨rfl, hb⟩
  have HB2 := Lib.hid hb
  clear hb
  go_wp2_with fail
  refine (HR2.out _ _ _ _ _ ((HB2.out.cell (World.block_lt_of_cell? _ _ HX.out.1)).trans HX.out.1) ((HB2.out.cell (World.block_lt_of_cell? _ _ HX.out.2.1)).trans HX.out.2.1) ((HB2.out.cell (World.block_lt_of_cell? _ _ HX.out.2.2)).trans HX.out.2.2) ((HF.out.grow HXB.out).grow HB2.out)).mono ?_
  rintro e w3 ⟨rfl, hb⟩
  have HB3 := Lib.hid hb
  clear hb
  have wg : IntKind.i64.wrap (16 * g) = 16 * g := by rw [IntKind.wrap_i64]; omega
  go_wp2_with fail
  refine (HM.out _).mono ?_
  rintro e w4 ⟨rfl, hb⟩
  have HB4 := Lib.hid hb
  clear hb
  have K2 := bstep HB1.out HB1.out.size HXB.out
  have K3 := bstep K2 K2.size HB2.out
  have K4 := bstep K3 K3.size HB3.out
  have K5 := Lib.hid (bstep K4 K4.size HB4.out)
  have hz := ((((HXB.out.block _ L1.out).trans Z1.out)))
  have l2 := Nat.lt_of_lt_of_le L1.out HXB.out.size
  have hz := (HB2.out.block _ l2).trans hz
  have l3 := Nat.lt_of_lt_of_le l2 HB2.out.size
  have hz := (HB3.out.block _ l3).trans hz
  have l4 := Nat.lt_of_lt_of_le l3 HB3.out.size
  have hz : w4.heap[w.heap.size + 1]? = some (colB zC) := (HB4.out.block _ l4).trans hz
  obtain ⟨i0, i1, i2, i3⟩ := colB_cell hz
  obtain ⟨j0, j1, j2, j3⟩ := colB_free hz
  clear hz l2 l3 l4 K2 K3 K4
  go_wp2
  refine bodyPost_ret (v := .agg #[.int .u8 c3.r, .int .u8 c3.g, .int .u8 c3.b, .int .u8 c3.a]) (by simp [results, Try.results27, go_sem, *]) rfl ⟨rfl, ?_⟩
  exact (((K5.out.setCell (by simp) _).setCell (by simp) _).setCell (by simp) _).setCell (by simp) _
end Go.Proofs.Ytehkcnmjkgelkaa
