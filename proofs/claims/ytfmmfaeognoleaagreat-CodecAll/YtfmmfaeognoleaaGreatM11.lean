/-
  The reference's reader: a number, how many, a colour, a vertex, an instruction.
-/
import Derived.Test.YtfmmfaeognoleaaGreatM10
import Derived.BigQuiet
import Derived.Deep.Draws
import Derived.BigRegion
import Derived.Lib.MinMax
import Derived.Test.YtfmmfaeognoleaaGreatM9
namespace Go.Proofs.YtfmmfaeognoleaaGreat
open Go.RowKit
attribute [local go_sem ↓] Go.wp_at_zero Go.wp_at_succ

theorem nm_step {S : Src} {w : World} {p k : Nat} {n : Int} (hE : Es EN w p S.A S.L) (hn : S.L[k]? = some n) :
    ∃ b off, S.A = some ⟨b, off, none⟩ ∧ b < p ∧ ∀ W, Below p w W → W.cell? ⟨b, off + k, none⟩ = some (.int .i64 n) := by
  obtain ⟨b, off, hA, hb, hat⟩ := hE.at hn
  refine ⟨b, off, hA, hb, fun W hW => ?_⟩
  have h := atN (show AtE EN W b (off + k * EN.size) n from hat.below hW hb)
  simpa [show EN.size = 1 from rfl] using h
theorem Om.but {M : Nat → Prop} {Y t u : World} {p : Nat} (h : Om M Y t) (hb : But p t u) (hM : M p ∨ Y.heap.size ≤ p) : Om M Y u :=
  ⟨Nat.le_trans h.1 hb.size, fun b h1 h2 => (hb.block (Nat.lt_of_lt_of_le h1 h.1) (fun e => by
    subst e
    rcases hM with h3 | h3
    · exact h2 h3
    · omega)).trans (h.2 b h1 h2)⟩
theorem Rn.cast {S : Src} {p g : Nat} {w W : World} {O O' : Obj} {l : List Int} (h : Rn S p w g O l W) (e : O = O') : Rn S p w g O' l W := e ▸ h
set_option maxRecDepth 100000 in
set_option maxHeartbeats 2000000 in
theorem next_any {S : Src} (hS : S.L.length ≤ 100000) {p : Nat} {l : List Int} (w : World) (h : Nm S w p l) :
    Calls Tryz.prog 55 #[.pointer (some ⟨p, 0, none⟩)] w (NR S p (.int .i64 (nNum l).1) (nNum l).2 w) := by
  have HN := Lib.hid h
  obtain ⟨k, hk, hg, hE, rfl⟩ := h
  obtain ⟨c0, c1⟩ := nmB_cell hg
  have hpl : p < w.heap.size := HN.out.lt
  by_cases hlt : k < S.L.length
  · obtain ⟨n, hn⟩ := get_lt hlt
    obtain ⟨b, off, hA, hbp, hel⟩ := nm_step hE hn
    rw [drop_cons hn]
    show Calls Tryz.prog 55 #[.pointer (some ⟨p, 0, none⟩)] w (NR S p (.int .i64 n) (S.L.drop (k + 1)) w)
    have HK := Lib.hid (fun W (hb : But p w W) (hW : W.heap[p]? = some (nmB S (k + 1))) => show Nm S W p (S.L.drop (k + 1)) from ⟨k + 1, hlt, hW, hE.below hb.b, rfl⟩)
    have HG := Lib.hid hg
    have HEl := Lib.hid hel
    have hw1 : IntKind.i64.wrap ((k : Int) + 1) = (k : Int) + 1 := by rw [IntKind.wrap_i64]; omega
    have hw2 : IntKind.i64.wrap ((k : Int) + 1 - 1) = (k : Int) := by rw [IntKind.wrap_i64]; omega
    have hge : ¬ ((k : Int) ≥ S.L.length) := by omega
    have hAS := Lib.hid hA
    rw [hA] at c0
    clear hE hn hel hk hg hA HN
    go_enter Tryz.func55, Tryz.ntmps55
    go_upto_region 1 with fail
    go_big_quiet (fail)
    obtain ⟨W1, hW1⟩ : ∃ W, w.drewN nq = W := ⟨_, rfl⟩
    have HB1 := Lib.hid (show But p w W1 by rw [← hW1]; exact (But.refl p w).drewN)
    have hg1 : W1.heap[p]? = some (nmB S k) := by rw [← hW1]; exact HG.out
    rw [hW1]
    clear hW1 c0 c1 HG
    obtain ⟨c0, c1⟩ := nmB_cell hg1
    rw [hAS.out] at c0
    have hf1 := nmB_free hg1 1
    have hp1 : p < W1.heap.size := (Array.getElem?_eq_some_iff.1 hg1).1
    have HG1 := Lib.hid hg1
    clear hg1
    go_upto_region 4 with fail
    obtain ⟨W2, hW2⟩ : ∃ W, W1.setCell ⟨p, 1, none⟩ (.int .i64 ((k : Int) + 1)) = W := ⟨_, rfl⟩
    have HB2 := Lib.hid (show But p w W2 by rw [← hW2]; exact HB1.out.set)
    have hg2 : W2.heap[p]? = some (nmB S (k + 1)) := by rw [← hW2]; exact nmB_set HG1.out
    rw [hW2]
    clear hW2 c0 c1 hf1 HB1 HG1 hp1
    obtain ⟨c0, c1⟩ := nmB_cell hg2
    rw [hAS.out] at c0
    have c1' : W2.cell? ⟨p, 1, none⟩ = some (.int .i64 ((k : Int) + 1)) := c1
    have e0 := HEl.out W2 HB2.out.b
    have hp2 : p < W2.heap.size := (Array.getElem?_eq_some_iff.1 hg2).1
    have hb2 : b < W2.heap.size := by omega
    have HG2 := Lib.hid hg2
    have hkl : (k : Int) < S.L.length := by omega
    clear hg2 c1 HEl
    go_big_quiet (fail)
    go_wp2
    go_ret
    exact ⟨rfl, HK.out _ HB2.out.drewN HG2.out, HB2.out.drewN⟩
  · obtain rfl : k = S.L.length := by omega
    have HN2 := HN
    rw [List.drop_length] at HN2 ⊢
    show Calls Tryz.prog 55 #[.pointer (some ⟨p, 0, none⟩)] w (NR S p (.int .i64 0) [] w)
    clear hE hk hg HN hlt
    go_enter Tryz.func55, Tryz.ntmps55
    go_upto_region 1 with fail
    go_big_quiet (fail)
    go_wp2
    go_ret
    exact ⟨rfl, HN2.out.drewN, (But.refl p w).drewN⟩
set_option maxRecDepth 100000 in
set_option maxHeartbeats 2000000 in
theorem nmany_any {S : Src} (hS : S.L.length ≤ 100000) {p : Nat} {l : List Int} (w : World) (h : Nm S w p l) :
    Calls Tryz.prog 57 #[.pointer (some ⟨p, 0, none⟩)] w (NR S p (.int .i64 (nMany S.L.length l).1) (nMany S.L.length l).2 w) := by
  have hp := h.lt
  have HC := Lib.hid (fun w (h : Nm S w p l) => next_any hS w h)
  obtain ⟨n, r, e⟩ : ∃ n r, nNum l = (n, r) := ⟨_, _, rfl⟩
  have hm : nMany S.L.length l = (min n (S.L.length : Int), r) := by unfold nMany; rw [e]
  rw [hm]
  rw [e] at HC
  have HN := Lib.hid h
  clear h e hm hS
  go_enter Tryz.func57, Tryz.ntmps57
  go_upto_region 1 with fail
  have NM_t0 := Lib.hid (show Nm S w.drew p l from HN.out.keep (Below.refl _ _).drew)
  refine wp_region_held_drew (S := fun w' => Om (fun b => b = p) w w') (by kernel_rfl) (om_drew _ _) (fun hS => ?_)
  have B_t0 := Lib.hid (show But p w w.drew from ⟨(Below.refl _ _).drew, fun _ _ _ => rfl⟩)
  have M_t0 := Lib.hid (om_drew (fun b => b = p) w)
  have D_t0 := Lib.hid (show Below w.heap.size w w.drew from (Below.refl _ _).drew)
  generalize w.drew = t0 at *
  refine wpAnyH_take (i := 0) (v := .pointer (some ⟨p, 0, none⟩)) rfl (by kernel_rfl) (by kernel_rfl) (by kernel_rfl) (fun _ _ _ h => h) (Or.inl ⟨by rfl, fun w hw => by go_simp⟩) hS ?_
  refine wpAnyH_take (i := 2) (v := .pointer (some ⟨p, 0, none⟩)) rfl (by kernel_rfl) (by kernel_rfl) (by kernel_rfl) (fun _ _ _ h => h) (Or.inl ⟨by rfl, fun w hw => by go_simp⟩) hS ?_
  refine wpAnyH_take (i := 3) (v := .pointer (some ⟨p, 0, none⟩)) rfl (by kernel_rfl) (by kernel_rfl) (by kernel_rfl) (fun _ _ _ h => h) (Or.inl ⟨by rfl, fun w hw => by go_simp⟩) hS ?_
  refine wpAnyH_take (i := 4) (v := .pointer (some ⟨p, 0, none⟩)) rfl (by kernel_rfl) (by kernel_rfl) (by kernel_rfl) (fun _ _ _ h => h) (Or.inl ⟨by rfl, fun w hw => by go_simp⟩) hS ?_
  refine wpAnyH_ready (rs := [1, 5]) (by kernel_rfl) (by simp) ?_
  refine AllReadyH.cons rfl (fun K hK => ?_) ?_
  · skip
    go_simp
    with_reducible refine (HC.out t0 NM_t0.out).mono ?_
    rintro e t1 ⟨rfl, hr, hb⟩
    have B_t1 := Lib.hid (B_t0.out.trans hb)
    have M_t1 := Lib.hid (M_t0.out.but hb (.inl (rfl)))
    have N_t1 := Lib.hid hb
    have NM_t1 := Lib.hid hr
    clear hr
    clear hb
    refine hK.out _ _ M_t1.out (fun hS => ?_)
    clear hK K
    refine wpAnyH_ready (rs := [5]) (by kernel_rfl) (by simp) ?_
    refine AllReadyH.cons rfl (fun K hK => ?_) AllReadyH.nil
    have ldc : t1.cell? ⟨p, 0, none⟩ = some (.slice S.A S.L.length S.c) := NM_t1.out.cell
    have lds : p < t1.heap.size := World.block_lt_of_cell? _ _ ldc
    go_simp
    refine hK.out _ _ M_t1.out (fun hS => ?_)
    clear hK K ldc lds
    refine wpAnyH_take (i := 6) (v := .int .i64 S.L.length) rfl (by kernel_rfl) (by kernel_rfl) (by kernel_rfl) (fun _ _ _ h => h) (Or.inl ⟨by rfl, fun w hw => by go_simp⟩) hS ?_
    refine wpAnyH_take (i := 7) (v := .int .i64 (min n (S.L.length : Int))) rfl (by kernel_rfl) (by kernel_rfl) (by kernel_rfl) (fun _ _ _ h => h) (Or.inl ⟨by rfl, fun w hw => by go_simp⟩) hS ?_
    refine wpAnyH_take (i := 8) (v := .int .i64 (min n (S.L.length : Int))) rfl (by kernel_rfl) (by kernel_rfl) (by kernel_rfl) (fun _ _ _ h => h) (Or.inl ⟨by rfl, fun w hw => by go_simp⟩) hS ?_
    refine wpAnyH_done (by kernel_rfl) ?_ _
    clear hS
    go_wp2
    go_ret
    exact ⟨rfl, NM_t1.out, B_t1.out⟩
  refine AllReadyH.cons rfl (fun K hK => ?_) ?_
  · skip
    have ldc : t0.cell? ⟨p, 0, none⟩ = some (.slice S.A S.L.length S.c) := NM_t0.out.cell
    have lds : p < t0.heap.size := World.block_lt_of_cell? _ _ ldc
    go_simp
    refine hK.out _ _ M_t0.out (fun hS => ?_)
    clear hK K ldc lds
    refine wpAnyH_take (i := 6) (v := .int .i64 S.L.length) rfl (by kernel_rfl) (by kernel_rfl) (by kernel_rfl) (fun _ _ _ h => h) (Or.inl ⟨by rfl, fun w hw => by go_simp⟩) hS ?_
    refine wpAnyH_ready (rs := [1]) (by kernel_rfl) (by simp) ?_
    refine AllReadyH.cons rfl (fun K hK => ?_) AllReadyH.nil
    go_simp
    with_reducible refine (HC.out t0 NM_t0.out).mono ?_
    rintro e t4 ⟨rfl, hr, hb⟩
    have B_t4 := Lib.hid (B_t0.out.trans hb)
    have M_t4 := Lib.hid (M_t0.out.but hb (.inl (rfl)))
    have N_t4 := Lib.hid hb
    have NM_t4 := Lib.hid hr
    clear hr
    clear hb
    refine hK.out _ _ M_t4.out (fun hS => ?_)
    clear hK K
    refine wpAnyH_take (i := 7) (v := .int .i64 (min n (S.L.length : Int))) rfl (by kernel_rfl) (by kernel_rfl) (by kernel_rfl) (fun _ _ _ h => h) (Or.inl ⟨by rfl, fun w hw => by go_simp⟩) hS ?_
    refine wpAnyH_take (i := 8) (v := .int .i64 (min n (S.L.length : Int))) rfl (by kernel_rfl) (by kernel_rfl) (by kernel_rfl) (fun _ _ _ h => h) (Or.inl ⟨by rfl, fun w hw => by go_simp⟩) hS ?_
    refine wpAnyH_done (by kernel_rfl) ?_ _
    clear hS
    go_wp2
    go_ret
    exact ⟨rfl, NM_t4.out, B_t4.out⟩
  exact AllReadyH.nil
set_option maxRecDepth 100000 in
set_option maxHeartbeats 4000000 in
theorem ncol_any {S : Src} (hS : S.L.length ≤ 100000) {p : Nat} {l : List Int} (w : World) (h : Nm S w p l) :
    Calls Tryz.prog 56 #[.pointer (some ⟨p, 0, none⟩)] w (NR S p (.agg #[.int .u8 (nCol l).1.r, .int .u8 (nCol l).1.g, .int .u8 (nCol l).1.b, .int .u8 (nCol l).1.a]) (nCol l).2 w) := by
  have hp := h.lt
  have H0 := Lib.hid (show Rn S p w w.heap.size (.cells #[.int .u8 0, .int .u8 0, .int .u8 0, .int .u8 0] 23) l (w.alloc (.cells #[.int .u8 0, .int .u8 0, .int .u8 0, .int .u8 0] 23)) from ⟨h.alloc _, (But.refl p w).alloc hp _, heap_alloc_new _ _⟩)
  obtain ⟨x1, t1, e1⟩ : ∃ x t, nNum l = (x, t) := ⟨_, _, rfl⟩
  have C1 := Lib.hid (show ∀ w, Nm S w p l → Calls Tryz.prog 55 #[.pointer (some ⟨p, 0, none⟩)] w (NR S p (.int .i64 x1) t1 w) from fun w h => by have h2 := next_any hS w h; rw [e1] at h2; exact h2)
  obtain ⟨x2, t2, e2⟩ : ∃ x t, nNum t1 = (x, t) := ⟨_, _, rfl⟩
  have C2 := Lib.hid (show ∀ w, Nm S w p t1 → Calls Tryz.prog 55 #[.pointer (some ⟨p, 0, none⟩)] w (NR S p (.int .i64 x2) t2 w) from fun w h => by have h2 := next_any hS w h; rw [e2] at h2; exact h2)
  obtain ⟨x3, t3, e3⟩ : ∃ x t, nNum t2 = (x, t) := ⟨_, _, rfl⟩
  have C3 := Lib.hid (show ∀ w, Nm S w p t2 → Calls Tryz.prog 55 #[.pointer (some ⟨p, 0, none⟩)] w (NR S p (.int .i64 x3) t3 w) from fun w h => by have h2 := next_any hS w h; rw [e3] at h2; exact h2)
  obtain ⟨x4, t4, e4⟩ : ∃ x t, nNum t3 = (x, t) := ⟨_, _, rfl⟩
  have C4 := Lib.hid (show ∀ w, Nm S w p t3 → Calls Tryz.prog 55 #[.pointer (some ⟨p, 0, none⟩)] w (NR S p (.int .i64 x4) t4 w) from fun w h => by have h2 := next_any hS w h; rw [e4] at h2; exact h2)
  have hC : nCol l = (⟨x1 % 256, x2 % 256, x3 % 256, x4 % 256⟩, t4) := by unfold nCol nU8; simp only [e1, e2, e3, e4]
  rw [hC]
  have u1 : IntKind.u8.wrap x1 = x1 % 256 := IntKind.wrap_u8 x1
  generalize x1 % 256 = y1 at *
  have u2 : IntKind.u8.wrap x2 = x2 % 256 := IntKind.wrap_u8 x2
  generalize x2 % 256 = y2 at *
  have u3 : IntKind.u8.wrap x3 = x3 % 256 := IntKind.wrap_u8 x3
  generalize x3 % 256 = y3 at *
  have u4 : IntKind.u8.wrap x4 = x4 % 256 := IntKind.wrap_u8 x4
  generalize x4 % 256 = y4 at *
  clear h hC e1 e2 e3 e4
  go_enter Tryz.func56, Tryz.ntmps56
  go_wp2_with fail
  with_reducible refine (C1.out _ H0.out.n).mono ?_
  rintro e w1 ⟨rfl, hr, hb⟩
  have H1 := Lib.hid (H0.out.call hp hr hb)
  clear hr hb C1 H0
  go_wp2_with fail
  with_reducible refine (C2.out _ H1.out.n).mono ?_
  rintro e w2 ⟨rfl, hr, hb⟩
  have H2 := Lib.hid (H1.out.call hp hr hb)
  clear hr hb C2 H1
  go_wp2_with fail
  with_reducible refine (C3.out _ H2.out.n).mono ?_
  rintro e w3 ⟨rfl, hr, hb⟩
  have H3 := Lib.hid (H2.out.call hp hr hb)
  clear hr hb C3 H2
  go_wp2_with fail
  with_reducible refine (C4.out _ H3.out.n).mono ?_
  rintro e w4 ⟨rfl, hr, hb⟩
  have H4 := Lib.hid (H3.out.call hp hr hb)
  clear hr hb C4 H3
  have f0 : w4.frozen? ⟨w.heap.size, 0, none⟩ = false := by simp [World.frozen?, H4.out.g]
  have c0 := Joins.cell_of_block H4.out.g 0
  have f1 : w4.frozen? ⟨w.heap.size, 1, none⟩ = false := by simp [World.frozen?, H4.out.g]
  have c1 := Joins.cell_of_block H4.out.g 1
  have f2 : w4.frozen? ⟨w.heap.size, 2, none⟩ = false := by simp [World.frozen?, H4.out.g]
  have c2 := Joins.cell_of_block H4.out.g 2
  have f3 : w4.frozen? ⟨w.heap.size, 3, none⟩ = false := by simp [World.frozen?, H4.out.g]
  have c3 := Joins.cell_of_block H4.out.g 3
  have gl := H4.out.lt
  have HS := Lib.hid (show Rn S p w w.heap.size (.cells #[.int .u8 y1, .int .u8 y2, .int .u8 y3, .int .u8 y4] 23) t4 ((((w4.setCell ⟨w.heap.size, 0, none⟩ (.int .u8 y1)).setCell ⟨w.heap.size, 1, none⟩ (.int .u8 y2)).setCell ⟨w.heap.size, 2, none⟩ (.int .u8 y3)).setCell ⟨w.heap.size, 3, none⟩ (.int .u8 y4)) from Rn.cast ((((H4.out.set hp (Nat.le_refl _)).set hp (Nat.le_refl _)).set hp (Nat.le_refl _)).set hp (Nat.le_refl _)) (by simp))
  go_wp2_with fail
  obtain ⟨WW, hWW⟩ : ∃ W, ((((w4.setCell ⟨w.heap.size, 0, none⟩ (.int .u8 y1)).setCell ⟨w.heap.size, 1, none⟩ (.int .u8 y2)).setCell ⟨w.heap.size, 2, none⟩ (.int .u8 y3)).setCell ⟨w.heap.size, 3, none⟩ (.int .u8 y4)) = W := ⟨_, rfl⟩
  rw [hWW] at HS
  try rw [hWW]
  have k0 := Joins.cell_of_block HS.out.g 0
  have k1 := Joins.cell_of_block HS.out.g 1
  have k2 := Joins.cell_of_block HS.out.g 2
  have k3 := Joins.cell_of_block HS.out.g 3
  refine bodyPost_ret (v := .agg #[.int .u8 y1, .int .u8 y2, .int .u8 y3, .int .u8 y4]) (by simp [results, Tryz.results56, go_sem, k0, k1, k2, k3]) rfl ⟨rfl, HS.out.n, HS.out.b⟩
set_option maxRecDepth 100000 in
set_option maxHeartbeats 4000000 in
theorem nvec_any {S : Src} (hS : S.L.length ≤ 100000) {p : Nat} {l : List Int} (w : World) (h : Nm S w p l) :
    Calls Tryz.prog 58 #[.pointer (some ⟨p, 0, none⟩)] w (NR S p (.agg #[.int .i64 (nVec l).1.x, .int .i64 (nVec l).1.y, .int .i64 (nVec l).1.z, .int .i64 (nVec l).1.w, .int .i64 (nVec l).1.a, .int .i64 (nVec l).1.b, .int .i64 (nVec l).1.c, .int .i64 (nVec l).1.d]) (nVec l).2 w) := by
  have hp := h.lt
  obtain ⟨v, tl, ev⟩ : ∃ v t, nVec l = (v, t) := ⟨_, _, rfl⟩
  obtain ⟨z0, z1, z2, z3, z4, z5, z6, z7⟩ := v
  have hXn : nRep nNum 8 l = ([z0, z1, z2, z3, z4, z5, z6, z7], tl) := by
    have e1 : nRep nNum 8 l = ([(nVec l).1.x, (nVec l).1.y, (nVec l).1.z, (nVec l).1.w, (nVec l).1.a, (nVec l).1.b, (nVec l).1.c, (nVec l).1.d], (nVec l).2) := rfl
    rw [e1, ev]
  rw [ev]
  have HX := Lib.hid (show ∀ j, nRep nNum (j + 1) l = ((nRep nNum j l).1 ++ [(nNum (nRep nNum j l).2).1], (nNum (nRep nNum j l).2).2) from fun j => nrep_cons j l)
  have HL := Lib.hid (show ∀ j, (nRep nNum j l).1.length = j from fun j => nrep_len j l)
  have HX0 := Lib.hid (show nRep nNum 0 l = ([], l) from rfl)
  have HXn := Lib.hid (show nRep nNum 8 l = ([z0, z1, z2, z3, z4, z5, z6, z7], tl) from hXn)
  obtain ⟨X, hX⟩ : ∃ X : Nat → List Int × List Int, (fun j => nRep nNum j l) = X := ⟨_, rfl⟩
  have hXj : ∀ j, nRep nNum j l = X j := fun j => congrFun hX j
  simp only [hXj] at HX HL HX0 HXn
  clear hX hXj hXn
  have H0 := Lib.hid (show Rn S p w w.heap.size (.cells #[.int .i64 0, .int .i64 0, .int .i64 0, .int .i64 0, .int .i64 0, .int .i64 0, .int .i64 0, .int .i64 0] 74) l ((w.alloc (.cells #[.int .i64 0, .int .i64 0, .int .i64 0, .int .i64 0, .int .i64 0, .int .i64 0, .int .i64 0, .int .i64 0] 74)).alloc (.cells #[.int .i64 0, .int .i64 0, .int .i64 0, .int .i64 0, .int .i64 0, .int .i64 0, .int .i64 0, .int .i64 0] 127)) from (⟨h.alloc _, (But.refl p w).alloc hp _, heap_alloc_new _ _⟩ : Rn S p w w.heap.size (.cells #[.int .i64 0, .int .i64 0, .int .i64 0, .int .i64 0, .int .i64 0, .int .i64 0, .int .i64 0, .int .i64 0] 74) l (w.alloc (.cells #[.int .i64 0, .int .i64 0, .int .i64 0, .int .i64 0, .int .i64 0, .int .i64 0, .int .i64 0, .int .i64 0] 74))).alloc hp _)
  have HA0 := Lib.hid (show ((w.alloc (.cells #[.int .i64 0, .int .i64 0, .int .i64 0, .int .i64 0, .int .i64 0, .int .i64 0, .int .i64 0, .int .i64 0] 74)).alloc (.cells #[.int .i64 0, .int .i64 0, .int .i64 0, .int .i64 0, .int .i64 0, .int .i64 0, .int .i64 0, .int .i64 0] 127)).heap[w.heap.size + 1]? = some (.cells (arr 8 []) 127) from by have h := heap_alloc_new (w.alloc (.cells #[.int .i64 0, .int .i64 0, .int .i64 0, .int .i64 0, .int .i64 0, .int .i64 0, .int .i64 0, .int .i64 0] 74)) (.cells #[.int .i64 0, .int .i64 0, .int .i64 0, .int .i64 0, .int .i64 0, .int .i64 0, .int .i64 0, .int .i64 0] 127); rwa [World.size_alloc] at h)
  clear h ev
  go_enter Tryz.func58, Tryz.ntmps58
  go_wp2_with fail
  go_loopw [4] (fun i wr => ∃ j : Nat, j ≤ 8 ∧ i = .int .i64 j ∧ Rn S p w w.heap.size (.cells #[.int .i64 0, .int .i64 0, .int .i64 0, .int .i64 0, .int .i64 0, .int .i64 0, .int .i64 0, .int .i64 0] 74) (X j).2 wr ∧ wr.heap[w.heap.size + 1]? = some (.cells (arr 8 (X j).1) 127)) (fun i _ => 8 - (intOf i).toNat)
  case atStart => exact ⟨0, Nat.zero_le _, rfl, by rw [HX0.out]; exact H0.out, by rw [HX0.out]; exact HA0.out⟩
  case round =>
    obtain ⟨j, hj, rfl, hR, hA⟩ := hrel
    have HR := Lib.hid hR
    have HAr := Lib.hid hA
    clear hR hA H0 HA0 HX0
    by_cases hlt : j < 8
    · have hji : (j : Int) < 8 := by omega
      have C := Lib.hid (next_any hS wr HR.out.n)
      have hX := HX.out j
      have hlj := HL.out j
      obtain ⟨x, t2, e2⟩ : ∃ x t, nNum (X j).2 = (x, t) := ⟨_, _, rfl⟩
      rw [e2] at C hX
      have HX1 := Lib.hid hX
      clear hX e2
      go_wp2_with fail
      with_reducible refine (C.out).mono ?_
      rintro e w2 ⟨rfl, hr, hb⟩
      have H2 := Lib.hid (HR.out.call hp hr hb)
      have hgl : w.heap.size + 1 < wr.heap.size := (Array.getElem?_eq_some_iff.1 HAr.out).1
      have HA2 := Lib.hid ((hb.block hgl (by omega)).trans HAr.out)
      have gl2 : w.heap.size + 1 < w2.heap.size := Nat.lt_of_lt_of_le hgl hb.size
      have c2 := arr_cell HA2.out hlj (by omega)
      have f2 : w2.frozen? ⟨w.heap.size + 1, j, none⟩ = false := by simp [World.frozen?, HA2.out]
      have hHR3 := Lib.hid (show Rn S p w w.heap.size (.cells #[.int .i64 0, .int .i64 0, .int .i64 0, .int .i64 0, .int .i64 0, .int .i64 0, .int .i64 0, .int .i64 0] 74) (X (j + 1)).2 (w2.setCell ⟨w.heap.size + 1, j, none⟩ (.int .i64 x)) by rw [HX1.out]; exact H2.out.other hp (Nat.le_succ _) (by omega))
      have hHA3 := Lib.hid (show (w2.setCell ⟨w.heap.size + 1, j, none⟩ (.int .i64 x)).heap[w.heap.size + 1]? = some (.cells (arr 8 (X (j + 1)).1) 127) by
        rw [HX1.out, heap_setCell_same _ _ _ _ _ _ HA2.out]
        have h := arr_set (n := 8) (ys := (X j).1) x (by omega)
        rw [hlj] at h
        rw [h])
      clear hr hb C HR HAr H2 HA2 hgl
      go_wp2_with fail
      go_roundw
      case rel => exact ⟨j + 1, by omega, by go_num, hHR3.out, hHA3.out⟩
      case measure => simp [intOf]; omega
    · obtain rfl : j = 8 := by omega
      rw [HXn.out] at HR HAr
      have HA1 := Lib.hid (show wr.heap[w.heap.size + 1]? = some (.cells #[.int .i64 z0, .int .i64 z1, .int .i64 z2, .int .i64 z3, .int .i64 z4, .int .i64 z5, .int .i64 z6, .int .i64 z7] 127) from HAr.out)
      have d0 := Joins.cell_of_block HA1.out 0
      have d1 := Joins.cell_of_block HA1.out 1
      have d2 := Joins.cell_of_block HA1.out 2
      have d3 := Joins.cell_of_block HA1.out 3
      have d4 := Joins.cell_of_block HA1.out 4
      have d5 := Joins.cell_of_block HA1.out 5
      have d6 := Joins.cell_of_block HA1.out 6
      have d7 := Joins.cell_of_block HA1.out 7
      have gA : w.heap.size + 1 < wr.heap.size := (Array.getElem?_eq_some_iff.1 HA1.out).1
      clear HAr HXn HX HL
      have f0 : wr.frozen? ⟨w.heap.size, 0, none⟩ = false := by simp [World.frozen?, HR.out.g]
      have c0 := Joins.cell_of_block HR.out.g 0
      have f1 : wr.frozen? ⟨w.heap.size, 1, none⟩ = false := by simp [World.frozen?, HR.out.g]
      have c1 := Joins.cell_of_block HR.out.g 1
      have f2 : wr.frozen? ⟨w.heap.size, 2, none⟩ = false := by simp [World.frozen?, HR.out.g]
      have c2 := Joins.cell_of_block HR.out.g 2
      have f3 : wr.frozen? ⟨w.heap.size, 3, none⟩ = false := by simp [World.frozen?, HR.out.g]
      have c3 := Joins.cell_of_block HR.out.g 3
      have f4 : wr.frozen? ⟨w.heap.size, 4, none⟩ = false := by simp [World.frozen?, HR.out.g]
      have c4 := Joins.cell_of_block HR.out.g 4
      have f5 : wr.frozen? ⟨w.heap.size, 5, none⟩ = false := by simp [World.frozen?, HR.out.g]
      have c5 := Joins.cell_of_block HR.out.g 5
      have f6 : wr.frozen? ⟨w.heap.size, 6, none⟩ = false := by simp [World.frozen?, HR.out.g]
      have c6 := Joins.cell_of_block HR.out.g 6
      have f7 : wr.frozen? ⟨w.heap.size, 7, none⟩ = false := by simp [World.frozen?, HR.out.g]
      have c7 := Joins.cell_of_block HR.out.g 7
      have gl := HR.out.lt
      have HS := Lib.hid (show Rn S p w w.heap.size (.cells #[.int .i64 z0, .int .i64 z1, .int .i64 z2, .int .i64 z3, .int .i64 z4, .int .i64 z5, .int .i64 z6, .int .i64 z7] 74) tl ((((((((wr.setCell ⟨w.heap.size, 0, none⟩ (.int .i64 z0)).setCell ⟨w.heap.size, 1, none⟩ (.int .i64 z1)).setCell ⟨w.heap.size, 2, none⟩ (.int .i64 z2)).setCell ⟨w.heap.size, 3, none⟩ (.int .i64 z3)).setCell ⟨w.heap.size, 4, none⟩ (.int .i64 z4)).setCell ⟨w.heap.size, 5, none⟩ (.int .i64 z5)).setCell ⟨w.heap.size, 6, none⟩ (.int .i64 z6)).setCell ⟨w.heap.size, 7, none⟩ (.int .i64 z7)) from Rn.cast ((((((((HR.out.set hp (Nat.le_refl _)).set hp (Nat.le_refl _)).set hp (Nat.le_refl _)).set hp (Nat.le_refl _)).set hp (Nat.le_refl _)).set hp (Nat.le_refl _)).set hp (Nat.le_refl _)).set hp (Nat.le_refl _)) (by simp))
      go_wp2_with fail
      obtain ⟨WW, hWW⟩ : ∃ W, ((((((((wr.setCell ⟨w.heap.size, 0, none⟩ (.int .i64 z0)).setCell ⟨w.heap.size, 1, none⟩ (.int .i64 z1)).setCell ⟨w.heap.size, 2, none⟩ (.int .i64 z2)).setCell ⟨w.heap.size, 3, none⟩ (.int .i64 z3)).setCell ⟨w.heap.size, 4, none⟩ (.int .i64 z4)).setCell ⟨w.heap.size, 5, none⟩ (.int .i64 z5)).setCell ⟨w.heap.size, 6, none⟩ (.int .i64 z6)).setCell ⟨w.heap.size, 7, none⟩ (.int .i64 z7)) = W := ⟨_, rfl⟩
      rw [hWW] at HS
      try rw [hWW]
      have k0 := Joins.cell_of_block HS.out.g 0
      have k1 := Joins.cell_of_block HS.out.g 1
      have k2 := Joins.cell_of_block HS.out.g 2
      have k3 := Joins.cell_of_block HS.out.g 3
      have k4 := Joins.cell_of_block HS.out.g 4
      have k5 := Joins.cell_of_block HS.out.g 5
      have k6 := Joins.cell_of_block HS.out.g 6
      have k7 := Joins.cell_of_block HS.out.g 7
      refine bodyPost_ret (v := .agg #[.int .i64 z0, .int .i64 z1, .int .i64 z2, .int .i64 z3, .int .i64 z4, .int .i64 z5, .int .i64 z6, .int .i64 z7]) (by simp [results, Tryz.results58, go_sem, k0, k1, k2, k3, k4, k5, k6, k7]) rfl ⟨rfl, HS.out.n, HS.out.b⟩
set_option maxRecDepth 100000 in
set_option maxHeartbeats 4000000 in
theorem nins_any {S : Src} (hS : S.L.length ≤ 100000) {p : Nat} {l : List Int} (w : World) (h : Nm S w p l) :
    Calls Tryz.prog 59 #[.pointer (some ⟨p, 0, none⟩)] w (NR S p (.agg #[.int .u8 (nIns l).1.o, .int .u8 (nIns l).1.d, .int .u8 (nIns l).1.a, .int .u8 (nIns l).1.b, .int .i64 (nIns l).1.n]) (nIns l).2 w) := by
  have hp := h.lt
  obtain ⟨z0, z1, z2, z3, z4, tl, ev, hXn⟩ : ∃ z0 z1 z2 z3 z4 tl, nIns l = (⟨z0 % 256, z1 % 256, z2 % 256, z3 % 256, z4⟩, tl) ∧ nRep nNum 5 l = ([z0, z1, z2, z3, z4], tl) := ⟨_, _, _, _, _, _, rfl, rfl⟩
  rw [ev]
  have u0 : IntKind.u8.wrap z0 = z0 % 256 := IntKind.wrap_u8 z0
  obtain ⟨y0, hy0⟩ : ∃ y, z0 % 256 = y := ⟨_, rfl⟩
  rw [hy0] at u0 ⊢
  have u1 : IntKind.u8.wrap z1 = z1 % 256 := IntKind.wrap_u8 z1
  obtain ⟨y1, hy1⟩ : ∃ y, z1 % 256 = y := ⟨_, rfl⟩
  rw [hy1] at u1 ⊢
  have u2 : IntKind.u8.wrap z2 = z2 % 256 := IntKind.wrap_u8 z2
  obtain ⟨y2, hy2⟩ : ∃ y, z2 % 256 = y := ⟨_, rfl⟩
  rw [hy2] at u2 ⊢
  have u3 : IntKind.u8.wrap z3 = z3 % 256 := IntKind.wrap_u8 z3
  obtain ⟨y3, hy3⟩ : ∃ y, z3 % 256 = y := ⟨_, rfl⟩
  rw [hy3] at u3 ⊢
  have HX := Lib.hid (show ∀ j, nRep nNum (j + 1) l = ((nRep nNum j l).1 ++ [(nNum (nRep nNum j l).2).1], (nNum (nRep nNum j l).2).2) from fun j => nrep_cons j l)
  have HL := Lib.hid (show ∀ j, (nRep nNum j l).1.length = j from fun j => nrep_len j l)
  have HX0 := Lib.hid (show nRep nNum 0 l = ([], l) from rfl)
  have HXn := Lib.hid (show nRep nNum 5 l = ([z0, z1, z2, z3, z4], tl) from hXn)
  obtain ⟨X, hX⟩ : ∃ X : Nat → List Int × List Int, (fun j => nRep nNum j l) = X := ⟨_, rfl⟩
  have hXj : ∀ j, nRep nNum j l = X j := fun j => congrFun hX j
  simp only [hXj] at HX HL HX0 HXn
  clear hX hXj hXn
  have H0 := Lib.hid (show Rn S p w w.heap.size (.cells #[.int .u8 0, .int .u8 0, .int .u8 0, .int .u8 0, .int .i64 0] 76) l ((w.alloc (.cells #[.int .u8 0, .int .u8 0, .int .u8 0, .int .u8 0, .int .i64 0] 76)).alloc (.cells #[.int .i64 0, .int .i64 0, .int .i64 0, .int .i64 0, .int .i64 0] 147)) from (⟨h.alloc _, (But.refl p w).alloc hp _, heap_alloc_new _ _⟩ : Rn S p w w.heap.size (.cells #[.int .u8 0, .int .u8 0, .int .u8 0, .int .u8 0, .int .i64 0] 76) l (w.alloc (.cells #[.int .u8 0, .int .u8 0, .int .u8 0, .int .u8 0, .int .i64 0] 76))).alloc hp _)
  have HA0 := Lib.hid (show ((w.alloc (.cells #[.int .u8 0, .int .u8 0, .int .u8 0, .int .u8 0, .int .i64 0] 76)).alloc (.cells #[.int .i64 0, .int .i64 0, .int .i64 0, .int .i64 0, .int .i64 0] 147)).heap[w.heap.size + 1]? = some (.cells (arr 5 []) 147) from by have h := heap_alloc_new (w.alloc (.cells #[.int .u8 0, .int .u8 0, .int .u8 0, .int .u8 0, .int .i64 0] 76)) (.cells #[.int .i64 0, .int .i64 0, .int .i64 0, .int .i64 0, .int .i64 0] 147); rwa [World.size_alloc] at h)
  clear h ev hy0 hy1 hy2 hy3
  go_enter Tryz.func59, Tryz.ntmps59
  go_wp2_with fail
  go_loopw [4] (fun i wr => ∃ j : Nat, j ≤ 5 ∧ i = .int .i64 j ∧ Rn S p w w.heap.size (.cells #[.int .u8 0, .int .u8 0, .int .u8 0, .int .u8 0, .int .i64 0] 76) (X j).2 wr ∧ wr.heap[w.heap.size + 1]? = some (.cells (arr 5 (X j).1) 147)) (fun i _ => 5 - (intOf i).toNat)
  case atStart => exact ⟨0, Nat.zero_le _, rfl, by rw [HX0.out]; exact H0.out, by rw [HX0.out]; exact HA0.out⟩
  case round =>
    obtain ⟨j, hj, rfl, hR, hA⟩ := hrel
    have HR := Lib.hid hR
    have HAr := Lib.hid hA
    clear hR hA H0 HA0 HX0
    by_cases hlt : j < 5
    · have hji : (j : Int) < 5 := by omega
      have C := Lib.hid (next_any hS wr HR.out.n)
      have hX := HX.out j
      have hlj := HL.out j
      obtain ⟨x, t2, e2⟩ : ∃ x t, nNum (X j).2 = (x, t) := ⟨_, _, rfl⟩
      rw [e2] at C hX
      have HX1 := Lib.hid hX
      clear hX e2
      go_wp2_with fail
      with_reducible refine (C.out).mono ?_
      rintro e w2 ⟨rfl, hr, hb⟩
      have H2 := Lib.hid (HR.out.call hp hr hb)
      have hgl : w.heap.size + 1 < wr.heap.size := (Array.getElem?_eq_some_iff.1 HAr.out).1
      have HA2 := Lib.hid ((hb.block hgl (by omega)).trans HAr.out)
      have gl2 : w.heap.size + 1 < w2.heap.size := Nat.lt_of_lt_of_le hgl hb.size
      have c2 := arr_cell HA2.out hlj (by omega)
      have f2 : w2.frozen? ⟨w.heap.size + 1, j, none⟩ = false := by simp [World.frozen?, HA2.out]
      have hHR3 := Lib.hid (show Rn S p w w.heap.size (.cells #[.int .u8 0, .int .u8 0, .int .u8 0, .int .u8 0, .int .i64 0] 76) (X (j + 1)).2 (w2.setCell ⟨w.heap.size + 1, j, none⟩ (.int .i64 x)) by rw [HX1.out]; exact H2.out.other hp (Nat.le_succ _) (by omega))
      have hHA3 := Lib.hid (show (w2.setCell ⟨w.heap.size + 1, j, none⟩ (.int .i64 x)).heap[w.heap.size + 1]? = some (.cells (arr 5 (X (j + 1)).1) 147) by
        rw [HX1.out, heap_setCell_same _ _ _ _ _ _ HA2.out]
        have h := arr_set (n := 5) (ys := (X j).1) x (by omega)
        rw [hlj] at h
        rw [h])
      clear hr hb C HR HAr H2 HA2 hgl
      go_wp2_with fail
      go_roundw
      case rel => exact ⟨j + 1, by omega, by go_num, hHR3.out, hHA3.out⟩
      case measure => simp [intOf]; omega
    · obtain rfl : j = 5 := by omega
      rw [HXn.out] at HR HAr
      have HA1 := Lib.hid (show wr.heap[w.heap.size + 1]? = some (.cells #[.int .i64 z0, .int .i64 z1, .int .i64 z2, .int .i64 z3, .int .i64 z4] 147) from HAr.out)
      have d0 := Joins.cell_of_block HA1.out 0
      have d1 := Joins.cell_of_block HA1.out 1
      have d2 := Joins.cell_of_block HA1.out 2
      have d3 := Joins.cell_of_block HA1.out 3
      have d4 := Joins.cell_of_block HA1.out 4
      have gA : w.heap.size + 1 < wr.heap.size := (Array.getElem?_eq_some_iff.1 HA1.out).1
      clear HAr HXn HX HL
      have f0 : wr.frozen? ⟨w.heap.size, 0, none⟩ = false := by simp [World.frozen?, HR.out.g]
      have c0 := Joins.cell_of_block HR.out.g 0
      have f1 : wr.frozen? ⟨w.heap.size, 1, none⟩ = false := by simp [World.frozen?, HR.out.g]
      have c1 := Joins.cell_of_block HR.out.g 1
      have f2 : wr.frozen? ⟨w.heap.size, 2, none⟩ = false := by simp [World.frozen?, HR.out.g]
      have c2 := Joins.cell_of_block HR.out.g 2
      have f3 : wr.frozen? ⟨w.heap.size, 3, none⟩ = false := by simp [World.frozen?, HR.out.g]
      have c3 := Joins.cell_of_block HR.out.g 3
      have f4 : wr.frozen? ⟨w.heap.size, 4, none⟩ = false := by simp [World.frozen?, HR.out.g]
      have c4 := Joins.cell_of_block HR.out.g 4
      have gl := HR.out.lt
      have HS := Lib.hid (show Rn S p w w.heap.size (.cells #[.int .u8 y0, .int .u8 y1, .int .u8 y2, .int .u8 y3, .int .i64 z4] 76) tl (((((wr.setCell ⟨w.heap.size, 0, none⟩ (.int .u8 y0)).setCell ⟨w.heap.size, 1, none⟩ (.int .u8 y1)).setCell ⟨w.heap.size, 2, none⟩ (.int .u8 y2)).setCell ⟨w.heap.size, 3, none⟩ (.int .u8 y3)).setCell ⟨w.heap.size, 4, none⟩ (.int .i64 z4)) from Rn.cast (((((HR.out.set hp (Nat.le_refl _)).set hp (Nat.le_refl _)).set hp (Nat.le_refl _)).set hp (Nat.le_refl _)).set hp (Nat.le_refl _)) (by simp))
      go_wp2_with fail
      obtain ⟨WW, hWW⟩ : ∃ W, (((((wr.setCell ⟨w.heap.size, 0, none⟩ (.int .u8 y0)).setCell ⟨w.heap.size, 1, none⟩ (.int .u8 y1)).setCell ⟨w.heap.size, 2, none⟩ (.int .u8 y2)).setCell ⟨w.heap.size, 3, none⟩ (.int .u8 y3)).setCell ⟨w.heap.size, 4, none⟩ (.int .i64 z4)) = W := ⟨_, rfl⟩
      rw [hWW] at HS
      try rw [hWW]
      have k0 := Joins.cell_of_block HS.out.g 0
      have k1 := Joins.cell_of_block HS.out.g 1
      have k2 := Joins.cell_of_block HS.out.g 2
      have k3 := Joins.cell_of_block HS.out.g 3
      have k4 := Joins.cell_of_block HS.out.g 4
      refine bodyPost_ret (v := .agg #[.int .u8 y0, .int .u8 y1, .int .u8 y2, .int .u8 y3, .int .i64 z4]) (by simp [results, Tryz.results59, go_sem, k0, k1, k2, k3, k4]) rfl ⟨rfl, HS.out.n, HS.out.b⟩
end Go.Proofs.YtfmmfaeognoleaaGreat
/-
  The reference's reader in a loop that appends to a row of the call's own.
-/
namespace Go.Proofs.YtfmmfaeognoleaaGreat
open Go.RowKit
attribute [local go_sem ↓] Go.wp_at_zero Go.wp_at_succ

/-- The blocks that a loop turns: the reader's, and one more. -/
def MP (p g : Nat) (b : Nat) : Prop := b = p ∨ b = g
/-- In a loop that began at W0: the reader goes on, block g holds O, rows of the loop's own lie from B on. -/
structure Lp (S : Src) (p : Nat) (w W0 : World) (B g : Nat) (O : Obj) (l : List Int) (W : World) : Prop where
  hp : p < w.heap.size
  hg : w.heap.size ≤ g
  h0 : w.heap.size ≤ W0.heap.size
  hB : W0.heap.size ≤ B
  gB : g < B
  z : B ≤ W.heap.size
  r : Rn S p w g O l W
  m : Om (MP p g) W0 W
section
variable {S : Src} {p g B o n c cx : Nat} {w W0 W W' W2 : World} {O O' : Obj} {l l' : List Int} {u v : Value} {j : Option Nat} {A Ax : Option Addr}
theorem Lp.lt (h : Lp S p w W0 B g O l W) : g < W.heap.size := h.r.lt
theorem Lp.pg (h : Lp S p w W0 B g O l W) : p < g := Nat.lt_of_lt_of_le h.hp h.hg
theorem Lp.call (h : Lp S p w W0 B g O l W) (hr : Nm S W' p l') (hb : But p W W') : Lp S p w W0 B g O l' W' :=
  ⟨h.hp, h.hg, h.h0, h.hB, h.gB, Nat.le_trans h.z hb.size, h.r.call h.pg hr hb, h.m.but hb (.inl (.inl rfl))⟩
theorem Lp.alloc (h : Lp S p w W0 B g O l W) (o : Obj) : Lp S p w W0 B g O l (W.alloc o) :=
  ⟨h.hp, h.hg, h.h0, h.hB, h.gB, by have := h.z; simp; omega, h.r.alloc h.hp o, h.m.alloc o⟩
theorem Lp.drew (h : Lp S p w W0 B g O l W) : Lp S p w W0 B g O l W.drew :=
  ⟨h.hp, h.hg, h.h0, h.hB, h.gB, h.z, ⟨h.r.n.keep (Below.refl _ _).drew, h.r.b.trans (but_of (Below.refl _ _).drew (by have := h.r.n.lt; omega)), h.r.g⟩, h.m⟩
theorem Lp.set {cs : Array Value} {T : TypeId} (h : Lp S p w W0 B g (.cells cs T) l W) : Lp S p w W0 B g (.cells (cs.setIfInBounds o u) T) l (W.setCell ⟨g, o, none⟩ u) :=
  ⟨h.hp, h.hg, h.h0, h.hB, h.gB, by have := h.z; simpa using this, h.r.set h.hp h.hg, h.m.set (.inl (.inr rfl))⟩
theorem Lp.cast (h : Lp S p w W0 B g O l W) (e : O = O') : Lp S p w W0 B g O' l W := e ▸ h
theorem Lp.grown (h : Lp S p w W0 B g O l W) (hg : W.grownBy W' j) (hj : ∀ k, j = some k → B ≤ k) : Lp S p w W0 B g O l W' :=
  ⟨h.hp, h.hg, h.h0, h.hB, h.gB, Nat.le_trans h.z hg.size, h.r.grown h.hp hg fun k e => by have := hj k e; have := h.hB; have := h.gB; have := h.h0; omega, h.m.grown hg fun k e => .inr (Nat.le_trans h.hB (hj k e))⟩
theorem Lp.free {cs : Array Value} {T : TypeId} (h : Lp S p w W0 B g (.cells cs T) l W) (o : Nat) : W.frozen? ⟨g, o, none⟩ = false := by simp [World.frozen?, h.r.g]
theorem Lp.cell {cs : Array Value} {T : TypeId} (h : Lp S p w W0 B g (.cells cs T) l W) (o : Nat) : W.cell? ⟨g, o, none⟩ = cs[o]? := cell_of_row W g o cs T (0, 0) h.r.g
theorem Lp.own {α : Type} {E : Elem α} {xs : List α} (h : Lp S p w W0 B g O l W) (ho : OwnE E W B v xs) (hb : But p W W') : OwnE E W' B v xs := hb.own ho (Nat.lt_of_lt_of_le h.hp (Nat.le_trans h.h0 h.hB))
theorem Lp.ownN {α β : Type} {E : Elem (Lo α)} {F : Elem β} {inn : α → List β} {ls : List (Lo α)} (h : Lp S p w W0 B g O l W) (ho : OwnN E F inn W B v ls) (hb : But p W W') : OwnN E F inn W' B v ls := hb.ownN ho (Nat.lt_of_lt_of_le h.hp (Nat.le_trans h.h0 h.hB))
/-- A block of W0 that the loop doesn't turn. -/
theorem Lp.stay (h : Lp S p w W0 B g O l W) {b : Nat} (hb : b < W0.heap.size) (h1 : b ≠ p) (h2 : b ≠ g) : W.heap[b]? = W0.heap[b]? := h.m.2 b hb (fun e => e.elim h1 h2)
theorem om_true {Y t t' : World} (h : Om (fun _ => True) Y t) (hs : t.heap.size ≤ t'.heap.size) : Om (fun _ => True) Y t' := ⟨Nat.le_trans h.1 hs, fun _ _ h2 => absurd trivial h2⟩
end
section
variable {α β : Type} {E : Elem α} {S : Src} {p g B n c cx Bx : Nat} {w W0 t : World} {O : Obj} {l : List Int} {T : TypeId} {A Ax : Option Addr} {xs : List α} {x : α} {o : Oper} {k : Act} {Q : Exit → Act → World → Prop}
theorem opw_fl {K : Act → World → Prop} (R : Row E T) (h : Lp S p w W0 B g O l t) (ho : OwnE E t B (.slice A n c) xs) (he : Es E t Bx Ax [x]) (s y : Operand)
    (hop : o.op = .call { callee := .builtin .append, args := #[s, y], argTypes := #[T, T] }) (hs : k.eval s = .slice A n c) (hx : k.eval y = .slice Ax 1 cx) (hn : n ≤ 100000)
    (hK : ∀ A' c' w', Lp S p w W0 B g O l w' → OwnE E w' B (.slice A' (n + 1) c') (xs ++ [x]) → t.heap.size ≤ w'.heap.size → K (k.put o.dst (.slice A' (n + 1) c')) w') : o.wp Tryz.prog k t K Q := by
  obtain ⟨hl, -, -⟩ := ownE_es ho
  refine opw_append_es (ys := [x]) R s y cx hop hs hx ho he (by omega) (by simp) h.z fun v' w' h1 h2 _ => ?_
  obtain ⟨ho', -⟩ := ownE_app ho h1 h2 h.z
  obtain ⟨A', c', rfl⟩ := ho'.form
  have e : (xs ++ [x]).length = n + 1 := by rw [List.length_append, hl]; rfl
  rw [e] at ho' ⊢
  exact hK A' c' w' (h.grown h2 (ownE_ge ho)) ho' h2.size
theorem wpl_fl {ops : Array Oper} {rest : List Oper} (hgd : o.guard = none) (R : Row E T) (h : Lp S p w W0 B g O l t) (ho : OwnE E t B (.slice A n c) xs) (he : Es E t Bx Ax [x]) (s y : Operand)
    (hop : o.op = .call { callee := .builtin .append, args := #[s, y], argTypes := #[T, T] }) (hs : k.eval s = .slice A n c) (hx : k.eval y = .slice Ax 1 cx) (hn : n ≤ 100000)
    (hK : ∀ A' c' w', Lp S p w W0 B g O l w' → OwnE E w' B (.slice A' (n + 1) c') (xs ++ [x]) → wpList Tryz.prog ops Q rest (k.put o.dst (.slice A' (n + 1) c')) w') : wpList Tryz.prog ops Q (o :: rest) k t :=
  wpList_plain hgd fun _ hK2 => opw_fl R h ho he s y hop hs hx hn fun A' c' w' h1 h2 _ => hK2 _ _ (hK A' c' w' h1 h2)
end
section
variable {α β : Type} {E : Elem (Lo α)} {F : Elem β} {inn : α → List β} {S : Src} {p g B n c cx Bx : Nat} {w W0 t : World} {O : Obj} {l : List Int} {T : TypeId} {A Ax : Option Addr} {xs : List (Lo α)} {x : Lo α} {o : Oper} {k : Act} {Q : Exit → Act → World → Prop}
theorem opw_ne {K : Act → World → Prop} (R : Row E T) (h : Lp S p w W0 B g O l t) (ho : OwnN E F inn t B (.slice A n c) xs) (he : Es E t Bx Ax [x]) (hi : EsP F t (fun b => B ≤ b ∧ (Value.slice A n c).ownBlock ≠ some b) x.A (inn x.x)) (hc : (inn x.x).length ≤ x.c) (s y : Operand)
    (hop : o.op = .call { callee := .builtin .append, args := #[s, y], argTypes := #[T, T] }) (hs : k.eval s = .slice A n c) (hx : k.eval y = .slice Ax 1 cx) (hn : n ≤ 100000)
    (hK : ∀ A' c' w', Lp S p w W0 B g O l w' → OwnN E F inn w' B (.slice A' (n + 1) c') (xs ++ [x]) → t.heap.size ≤ w'.heap.size → K (k.put o.dst (.slice A' (n + 1) c')) w') : o.wp Tryz.prog k t K Q := by
  obtain ⟨hl, -, -⟩ := ownE_es ho.own
  refine opw_append_es (ys := [x]) R s y cx hop hs hx ho.own he (by omega) (by simp) h.z fun v' w' h1 h2 h3 => ?_
  obtain ⟨ho', -⟩ := ho.app (Below.refl _ _) h.z (by simpa [Elem.flat] using h1) h2 h3 hi hc
  obtain ⟨A', c', rfl⟩ := ho'.own.form
  have e : (xs ++ [x]).length = n + 1 := by rw [List.length_append, hl]; rfl
  rw [e] at ho' ⊢
  exact hK A' c' w' (h.grown h2 (ownE_ge ho.own)) ho' h2.size
theorem wpl_ne {ops : Array Oper} {rest : List Oper} (hgd : o.guard = none) (R : Row E T) (h : Lp S p w W0 B g O l t) (ho : OwnN E F inn t B (.slice A n c) xs) (he : Es E t Bx Ax [x]) (hi : EsP F t (fun b => B ≤ b ∧ (Value.slice A n c).ownBlock ≠ some b) x.A (inn x.x)) (hc : (inn x.x).length ≤ x.c) (s y : Operand)
    (hop : o.op = .call { callee := .builtin .append, args := #[s, y], argTypes := #[T, T] }) (hs : k.eval s = .slice A n c) (hx : k.eval y = .slice Ax 1 cx) (hn : n ≤ 100000)
    (hK : ∀ A' c' w', Lp S p w W0 B g O l w' → OwnN E F inn w' B (.slice A' (n + 1) c') (xs ++ [x]) → wpList Tryz.prog ops Q rest (k.put o.dst (.slice A' (n + 1) c')) w') : wpList Tryz.prog ops Q (o :: rest) k t :=
  wpList_plain hgd fun _ hK2 => opw_ne R h ho he hi hc s y hop hs hx hn fun A' c' w' h1 h2 _ => hK2 _ _ (hK A' c' w' h1 h2)
end
section
variable {α β : Type} {E : Elem α} {S : Src} {p g B : Nat} {w W0 W W' : World} {O : Obj} {l : List Int} {v : Value}
theorem Lp.ownS {xs : List α} {o : Nat} {u : Value} (h : Lp S p w W0 B g O l W) (ho : OwnE E W B v xs) : OwnE E (W.setCell ⟨g, o, none⟩ u) B v xs := ho.setCell h.gB
theorem Lp.ownNS {E : Elem (Lo α)} {F : Elem β} {inn : α → List β} {ls : List (Lo α)} {o : Nat} {u : Value} (h : Lp S p w W0 B g O l W) (ho : OwnN E F inn W B v ls) : OwnN E F inn (W.setCell ⟨g, o, none⟩ u) B v ls := ho.set h.gB
/-- How a loop begins: at a world in which block g holds O. -/
theorem Rn.lp (h : Rn S p w g O l W) (hp : p < w.heap.size) (hg : w.heap.size ≤ g) (hB : W.heap.size = B) : Lp S p w W B g O l W :=
  ⟨hp, hg, h.b.size, by omega, by have := h.lt; omega, by omega, h, om_refl _ _⟩
theorem OwnN.om {E : Elem (Lo α)} {F : Elem β} {inn : α → List β} {ls : List (Lo α)} {M : Nat → Prop} (h : OwnN E F inn W B v ls) (hm : Om M W W') (hM : ∀ b, B ≤ b → b < W.heap.size → ¬ M b) : OwnN E F inn W' B v ls := by
  refine ⟨?_, fun x hx => (h.els x hx).keep fun b hb hlt => hm.2 b hlt (hM b hb.1 hlt), h.cap⟩
  obtain ⟨hl, h2⟩ := h.own
  refine ⟨hl, ?_⟩
  rcases h2 with h2 | ⟨j, cap, cur, rfl, hj, hh, hr⟩
  · exact .inl h2
  · exact .inr ⟨j, cap, cur, rfl, hj, (hm.2 j (Array.getElem?_eq_some_iff.1 hh).1 (hM j hj (Array.getElem?_eq_some_iff.1 hh).1)).trans hh, hr⟩
end
/-- What a call reads that makes a row of its own. -/
def NRL {α β : Type} (S : Src) (F : Elem β) (inn : α → List β) (val : Lo α → Value) (p : Nat) (x : α) (t : List Int) (w : World) (e : Ending) (w' : World) : Prop :=
  ∃ A c, e = .returned (val ⟨x, A, c⟩) ∧ OwnE F w' w.heap.size (.slice A (inn x).length c) (inn x) ∧ Nm S w' p t ∧ But p w w'
end Go.Proofs.YtfmmfaeognoleaaGreat
/-
  The reference's reader: a draw.
-/
namespace Go.Proofs.YtfmmfaeognoleaaGreat
open Go.RowKit
attribute [local go_sem ↓] Go.wp_at_zero Go.wp_at_succ

set_option maxRecDepth 100000 in
set_option maxHeartbeats 8000000 in
theorem ndraw_any {S : Src} (hS : S.L.length ≤ 100000) {p : Nat} {l : List Int} (w : World) (h : Nm S w p l) :
    Calls Tryz.prog 60 #[.pointer (some ⟨p, 0, none⟩)] w (NRL S ER Dr.tris vD p (nDrw S.L.length l).1 (nDrw S.L.length l).2 w) := by
  obtain ⟨RR⟩ := rowR
  have hp := h.lt
  obtain ⟨z0, z1, z2, z3, tl, hXn, hD⟩ : ∃ z0 z1 z2 z3 t4, nRep nNum 4 l = ([z0, z1, z2, z3], t4) ∧ nDrw S.L.length l = (⟨z0, z1, z2, decide (z3 = 1), (nList S.L.length nTri t4).1⟩, (nList S.L.length nTri t4).2) := ⟨_, _, _, _, _, rfl, rfl⟩
  rw [hD]
  obtain ⟨ob, hob⟩ : ∃ b, decide (z3 = 1) = b := ⟨_, rfl⟩
  rw [hob]
  have hob2 : (z3 == 1) = ob := by rw [← hob]; rfl
  obtain ⟨n, t5, emn⟩ : ∃ n t, nMany S.L.length tl = (n, t) := ⟨_, _, rfl⟩
  have hNn : n ≤ 100000 := by
    have h1 : min (nNum tl).1 (S.L.length : Int) = n := congrArg Prod.fst emn
    omega
  have hl5 : nList S.L.length nTri tl = nRep nTri n.toNat t5 := by unfold nList; rw [emn]
  rw [hl5]
  obtain ⟨k, hk⟩ : ∃ k, n.toNat = k := ⟨_, rfl⟩
  rw [hk]
  show Calls Tryz.prog 60 #[.pointer (some ⟨p, 0, none⟩)] w (NRL S ER Dr.tris vD p ⟨z0, z1, z2, ob, (nRep nTri k t5).1⟩ (nRep nTri k t5).2 w)
  have HY := Lib.hid (show ∀ j, nRep nTri (j + 1) t5 = ((nRep nTri j t5).1 ++ [(nTri (nRep nTri j t5).2).1], (nTri (nRep nTri j t5).2).2) from fun j => rfl)
  have HYL := Lib.hid (show ∀ j, (nRep nTri j t5).1.length = j from fun j => nrep_len j t5)
  have HY0 := Lib.hid (show nRep nTri 0 t5 = ([], t5) from rfl)
  obtain ⟨Y, hY⟩ : ∃ Y : Nat → List Tr × List Int, (fun j => nRep nTri j t5) = Y := ⟨_, rfl⟩
  have hYj : ∀ j, nRep nTri j t5 = Y j := fun j => congrFun hY j
  simp only [hYj] at HY HYL HY0 ⊢
  clear hY hYj
  have HX := Lib.hid (show ∀ j, nRep nNum (j + 1) l = ((nRep nNum j l).1 ++ [(nNum (nRep nNum j l).2).1], (nNum (nRep nNum j l).2).2) from fun j => nrep_cons j l)
  have HL := Lib.hid (show ∀ j, (nRep nNum j l).1.length = j from fun j => nrep_len j l)
  have HX0 := Lib.hid (show nRep nNum 0 l = ([], l) from rfl)
  have HXn := Lib.hid (show nRep nNum 4 l = ([z0, z1, z2, z3], tl) from hXn)
  obtain ⟨X, hX⟩ : ∃ X : Nat → List Int × List Int, (fun j => nRep nNum j l) = X := ⟨_, rfl⟩
  have hXj : ∀ j, nRep nNum j l = X j := fun j => congrFun hX j
  simp only [hXj] at HX HL HX0 HXn
  clear hX hXj hXn
  have H0 := Lib.hid (show Rn S p w w.heap.size (.cells #[.int .i64 0, .int .i64 0, .int .i64 0, .bool false, .slice none 0 0] 51) l ((w.alloc (.cells #[.int .i64 0, .int .i64 0, .int .i64 0, .bool false, .slice none 0 0] 51)).alloc (.cells #[.int .i64 0, .int .i64 0, .int .i64 0, .int .i64 0] 72)) from (⟨h.alloc _, (But.refl p w).alloc hp _, heap_alloc_new _ _⟩ : Rn S p w w.heap.size (.cells #[.int .i64 0, .int .i64 0, .int .i64 0, .bool false, .slice none 0 0] 51) l (w.alloc (.cells #[.int .i64 0, .int .i64 0, .int .i64 0, .bool false, .slice none 0 0] 51))).alloc hp _)
  have HA0 := Lib.hid (show ((w.alloc (.cells #[.int .i64 0, .int .i64 0, .int .i64 0, .bool false, .slice none 0 0] 51)).alloc (.cells #[.int .i64 0, .int .i64 0, .int .i64 0, .int .i64 0] 72)).heap[w.heap.size + 1]? = some (.cells (arr 4 []) 72) from by have h := heap_alloc_new (w.alloc (.cells #[.int .i64 0, .int .i64 0, .int .i64 0, .bool false, .slice none 0 0] 51)) (.cells #[.int .i64 0, .int .i64 0, .int .i64 0, .int .i64 0] 72); rwa [World.size_alloc] at h)
  clear h hD hl5
  go_enter Tryz.func60, Tryz.ntmps60
  go_wp2_with fail
  go_loopw [4] (fun i wr => ∃ j : Nat, j ≤ 4 ∧ i = .int .i64 j ∧ Rn S p w w.heap.size (.cells #[.int .i64 0, .int .i64 0, .int .i64 0, .bool false, .slice none 0 0] 51) (X j).2 wr ∧ wr.heap[w.heap.size + 1]? = some (.cells (arr 4 (X j).1) 72)) (fun i _ => 4 - (intOf i).toNat)
  case atStart => exact ⟨0, Nat.zero_le _, rfl, by rw [HX0.out]; exact H0.out, by rw [HX0.out]; exact HA0.out⟩
  case round =>
    obtain ⟨j, hj, rfl, hR, hA⟩ := hrel
    have HR := Lib.hid hR
    have HAr := Lib.hid hA
    clear hR hA H0 HA0 HX0
    by_cases hlt : j < 4
    · have hji : (j : Int) < 4 := by omega
      have C := Lib.hid (next_any hS wr HR.out.n)
      have hX := HX.out j
      have hlj := HL.out j
      obtain ⟨x, t2, e2⟩ : ∃ x t, nNum (X j).2 = (x, t) := ⟨_, _, rfl⟩
      rw [e2] at C hX
      have HX1 := Lib.hid hX
      clear hX e2
      go_wp2_with fail
      with_reducible refine (C.out).mono ?_
      rintro e w2 ⟨rfl, hr, hb⟩
      have H2 := Lib.hid (HR.out.call hp hr hb)
      have hgl : w.heap.size + 1 < wr.heap.size := (Array.getElem?_eq_some_iff.1 HAr.out).1
      have HA2 := Lib.hid ((hb.block hgl (by omega)).trans HAr.out)
      have gl2 : w.heap.size + 1 < w2.heap.size := Nat.lt_of_lt_of_le hgl hb.size
      have c2 := arr_cell HA2.out hlj (by omega)
      have f2 : w2.frozen? ⟨w.heap.size + 1, j, none⟩ = false := by simp [World.frozen?, HA2.out]
      have hHR3 := Lib.hid (show Rn S p w w.heap.size (.cells #[.int .i64 0, .int .i64 0, .int .i64 0, .bool false, .slice none 0 0] 51) (X (j + 1)).2 (w2.setCell ⟨w.heap.size + 1, j, none⟩ (.int .i64 x)) by rw [HX1.out]; exact H2.out.other hp (Nat.le_succ _) (by omega))
      have hHA3 := Lib.hid (show (w2.setCell ⟨w.heap.size + 1, j, none⟩ (.int .i64 x)).heap[w.heap.size + 1]? = some (.cells (arr 4 (X (j + 1)).1) 72) by
        rw [HX1.out, heap_setCell_same _ _ _ _ _ _ HA2.out]
        have h := arr_set (n := 4) (ys := (X j).1) x (by omega)
        rw [hlj] at h
        rw [h])
      clear hr hb C HR HAr H2 HA2 hgl
      go_wp2_with fail
      go_roundw
      case rel => exact ⟨j + 1, by omega, by go_num, hHR3.out, hHA3.out⟩
      case measure => simp [intOf]; omega
    · obtain rfl : j = 4 := by omega
      rw [HXn.out] at HR HAr
      have HA1 := Lib.hid (show wr.heap[w.heap.size + 1]? = some (.cells #[.int .i64 z0, .int .i64 z1, .int .i64 z2, .int .i64 z3] 72) from HAr.out)
      have d0 := Joins.cell_of_block HA1.out 0
      have d1 := Joins.cell_of_block HA1.out 1
      have d2 := Joins.cell_of_block HA1.out 2
      have d3 := Joins.cell_of_block HA1.out 3
      have gA : w.heap.size + 1 < wr.heap.size := (Array.getElem?_eq_some_iff.1 HA1.out).1
      clear HAr HXn HX HL
      obtain ⟨g2, hg2⟩ : ∃ g, wr.heap.size = g := ⟨_, rfl⟩
      have hpg : p < g2 := by omega
      have hwg : w.heap.size < g2 := by omega
      have H6 := Lib.hid (show Rn S p w g2 (.cells #[.int .i64 z0, .int .i64 z1, .int .i64 z2, .bool ob, .slice none 0 0] 51) tl (wr.alloc (.cells #[.int .i64 z0, .int .i64 z1, .int .i64 z2, .bool ob, .slice none 0 0] 51)) by rw [← hg2]; exact (HR.out.alloc hp _).two (heap_alloc_new _ _))
      have HO6 := Lib.hid (HR.out.alloc hp (.cells #[.int .i64 z0, .int .i64 z1, .int .i64 z2, .bool ob, .slice none 0 0] 51)).g
      clear HR HA1
      go_upto_region 7 with fail
      try rw [hg2]
      obtain ⟨W6, hW6⟩ : ∃ W, wr.alloc (.cells #[.int .i64 z0, .int .i64 z1, .int .i64 z2, .bool ob, .slice none 0 0] 51) = W := ⟨_, rfl⟩
      rw [hW6] at H6 HO6
      rw [hW6]
      have CM := Lib.hid (nmany_any hS W6 H6.out.n)
      rw [emn] at CM
      clear hW6 d0 d1 d2 d3 gA
      go_wp2_with fail
      with_reducible refine (CM.out).mono ?_
      rintro e w7 ⟨rfl, hr, hb⟩
      have HRz := Lib.hid ((hb.block (Array.getElem?_eq_some_iff.1 HO6.out).1 (by omega)).trans HO6.out)
      have H7 := Lib.hid (H6.out.call hpg hr hb)
      obtain ⟨B, hB⟩ : ∃ B, w7.heap.size = B := ⟨_, rfl⟩
      have HL7 := Lib.hid (H7.out.lp hp (by omega) hB)
      have hgB : g2 < B := HL7.out.gB
      clear hr hb CM H6 HO6 H7 hg2 emn
      go_wp2_with fail
      go_loopw [7] (fun i wr => ∃ j : Nat, j ≤ k ∧ i = .int .i64 j ∧ ∃ A c, Lp S p w w7 B g2 (.cells #[.int .i64 z0, .int .i64 z1, .int .i64 z2, .bool ob, .slice A j c] 51) (Y j).2 wr ∧ OwnE ER wr B (.slice A j c) (Y j).1) (fun i _ => k - (intOf i).toNat)
      case atStart => exact ⟨0, Nat.zero_le _, rfl, none, 0, by rw [HY0.out]; exact HL7.out, by rw [HY0.out]; exact OwnE.nil _ _⟩
      case round =>
        obtain ⟨j, hj, rfl, A, c, hL, hO⟩ := hrel
        have HL := Lib.hid hL
        have HO := Lib.hid hO
        clear hL hO HL7 HY0
        by_cases hlt : j < k
        · have hji : (j : Int) < n := by omega
          have hYj := HY.out j
          obtain ⟨x1, r1, e1⟩ : ∃ x t, nNum (Y j).2 = (x, t) := ⟨_, _, rfl⟩
          have C1 := Lib.hid (show ∀ w, Nm S w p (Y j).2 → Calls Tryz.prog 55 #[.pointer (some ⟨p, 0, none⟩)] w (NR S p (.int .i64 x1) r1 w) from fun w h => by have h2 := next_any hS w h; rw [e1] at h2; exact h2)
          obtain ⟨x2, r2, e2⟩ : ∃ x t, nNum r1 = (x, t) := ⟨_, _, rfl⟩
          have C2 := Lib.hid (show ∀ w, Nm S w p r1 → Calls Tryz.prog 55 #[.pointer (some ⟨p, 0, none⟩)] w (NR S p (.int .i64 x2) r2 w) from fun w h => by have h2 := next_any hS w h; rw [e2] at h2; exact h2)
          obtain ⟨x3, r3, e3⟩ : ∃ x t, nNum r2 = (x, t) := ⟨_, _, rfl⟩
          have C3 := Lib.hid (show ∀ w, Nm S w p r2 → Calls Tryz.prog 55 #[.pointer (some ⟨p, 0, none⟩)] w (NR S p (.int .i64 x3) r3 w) from fun w h => by have h2 := next_any hS w h; rw [e3] at h2; exact h2)
          obtain ⟨x4, r4, e4⟩ : ∃ x t, nNum r3 = (x, t) := ⟨_, _, rfl⟩
          have C4 := Lib.hid (show ∀ w, Nm S w p r3 → Calls Tryz.prog 55 #[.pointer (some ⟨p, 0, none⟩)] w (NR S p (.int .i64 x4) r4 w) from fun w h => by have h2 := next_any hS w h; rw [e4] at h2; exact h2)
          have hT : nTri (Y j).2 = (⟨x1, x2, x3, x4⟩, r4) := by unfold nTri; simp only [e1, e2, e3, e4]
          rw [hT] at hYj
          have HY1 := Lib.hid hYj
          clear hYj hT e1 e2 e3 e4
          go_wp2_with fail
          with_reducible refine (C1.out _ HL.out.r.n).mono ?_
          rintro e w1 ⟨rfl, hr, hb⟩
          have HL1 := Lib.hid (HL.out.call hr hb)
          have HO1 := Lib.hid (HL.out.own HO.out hb)
          clear hr hb C1 HL HO
          go_wp2_with fail
          with_reducible refine (C2.out _ HL1.out.r.n).mono ?_
          rintro e w2 ⟨rfl, hr, hb⟩
          have HL2 := Lib.hid (HL1.out.call hr hb)
          have HO2 := Lib.hid (HL1.out.own HO1.out hb)
          clear hr hb C2 HL1 HO1
          go_wp2_with fail
          with_reducible refine (C3.out _ HL2.out.r.n).mono ?_
          rintro e w3 ⟨rfl, hr, hb⟩
          have HL3 := Lib.hid (HL2.out.call hr hb)
          have HO3 := Lib.hid (HL2.out.own HO2.out hb)
          clear hr hb C3 HL2 HO2
          go_wp2_with fail
          with_reducible refine (C4.out _ HL3.out.r.n).mono ?_
          rintro e w4 ⟨rfl, hr, hb⟩
          have HL4 := Lib.hid (HL3.out.call hr hb)
          have HO4 := Lib.hid (HL3.out.own HO3.out hb)
          clear hr hb C4 HL3 HO3
          have c4 : w4.cell? ⟨g2, 4, none⟩ = some (.slice A j c) := HL4.out.cell 4
          have gl4 := HL4.out.lt
          have HL5 := Lib.hid (HL4.out.alloc (.cells #[.int .i64 x1, .int .i64 x2, .int .i64 x3, .int .i64 x4] 86))
          have HO5 := Lib.hid (HO4.out.alloc (.cells #[.int .i64 x1, .int .i64 x2, .int .i64 x3, .int .i64 x4] 86))
          have HE5 := Lib.hid (es_one (E := ER) (x := ⟨x1, x2, x3, x4⟩) (cs := #[.int .i64 x1, .int .i64 x2, .int .i64 x3, .int .i64 x4]) rfl (show (w4.alloc (.cells #[.int .i64 x1, .int .i64 x2, .int .i64 x3, .int .i64 x4] 86)).heap[w4.heap.size]? = some (.cells #[.int .i64 x1, .int .i64 x2, .int .i64 x3, .int .i64 x4] 86 (0, 0)) from heap_alloc_new _ _))
          clear HL4 HO4
          go_wp2_with (at_builtin; refine wpl_fl rfl RR HL5.out HO5.out HE5.out _ _ rfl rfl rfl (by omega) ?_; intro A' c' w5 hL hO; have HL6 := Lib.hid hL; have HO6 := Lib.hid hO; have c5 : w5.cell? ⟨g2, 4, none⟩ = some (.slice A j c) := hL.cell 4; have f5 := hL.free 4; have gl5 := hL.lt; clear hL hO)
          go_roundw
          case rel => exact ⟨j + 1, by omega, by go_num, A', c', by rw [HY1.out]; exact HL6.out.set.cast (by simp), by rw [HY1.out]; exact HL6.out.ownS HO6.out⟩
          case measure => simp [intOf]; omega
        · obtain rfl : j = k := by omega
          have hji : ¬ (j : Int) < n := by omega
          have HRr := Lib.hid (HL.out.r.two ((HL.out.stay (b := w.heap.size) (by have := HL.out.h0; have := HL.out.hB; omega) (by omega) (by omega)).trans HRz.out))
          have b0 : wr.cell? ⟨g2, 0, none⟩ = some (.int .i64 z0) := HL.out.cell 0
          have b1 : wr.cell? ⟨g2, 1, none⟩ = some (.int .i64 z1) := HL.out.cell 1
          have b2 : wr.cell? ⟨g2, 2, none⟩ = some (.int .i64 z2) := HL.out.cell 2
          have b3 : wr.cell? ⟨g2, 3, none⟩ = some (.bool ob) := HL.out.cell 3
          have b4 : wr.cell? ⟨g2, 4, none⟩ = some (.slice A j c) := HL.out.cell 4
          have gl := HL.out.lt
          have f0 : wr.frozen? ⟨w.heap.size, 0, none⟩ = false := by simp [World.frozen?, HRr.out.g]
          have c0 := Joins.cell_of_block HRr.out.g 0
          have f1 : wr.frozen? ⟨w.heap.size, 1, none⟩ = false := by simp [World.frozen?, HRr.out.g]
          have c1 := Joins.cell_of_block HRr.out.g 1
          have f2 : wr.frozen? ⟨w.heap.size, 2, none⟩ = false := by simp [World.frozen?, HRr.out.g]
          have c2 := Joins.cell_of_block HRr.out.g 2
          have f3 : wr.frozen? ⟨w.heap.size, 3, none⟩ = false := by simp [World.frozen?, HRr.out.g]
          have c3 := Joins.cell_of_block HRr.out.g 3
          have f4 : wr.frozen? ⟨w.heap.size, 4, none⟩ = false := by simp [World.frozen?, HRr.out.g]
          have c4 := Joins.cell_of_block HRr.out.g 4
          have gl1 := HRr.out.lt
          have HS := Lib.hid (show Rn S p w w.heap.size (.cells #[.int .i64 z0, .int .i64 z1, .int .i64 z2, .bool ob, .slice A j c] 51) (Y j).2 (((((wr.setCell ⟨w.heap.size, 0, none⟩ (.int .i64 z0)).setCell ⟨w.heap.size, 1, none⟩ (.int .i64 z1)).setCell ⟨w.heap.size, 2, none⟩ (.int .i64 z2)).setCell ⟨w.heap.size, 3, none⟩ (.bool ob)).setCell ⟨w.heap.size, 4, none⟩ (.slice A j c)) from Rn.cast (((((HRr.out.set hp (Nat.le_refl _)).set hp (Nat.le_refl _)).set hp (Nat.le_refl _)).set hp (Nat.le_refl _)).set hp (Nat.le_refl _)) (by simp))
          have HOS := Lib.hid (show OwnE ER (((((wr.setCell ⟨w.heap.size, 0, none⟩ (.int .i64 z0)).setCell ⟨w.heap.size, 1, none⟩ (.int .i64 z1)).setCell ⟨w.heap.size, 2, none⟩ (.int .i64 z2)).setCell ⟨w.heap.size, 3, none⟩ (.bool ob)).setCell ⟨w.heap.size, 4, none⟩ (.slice A j c)) B (.slice A j c) (Y j).1 from (((((HO.out.setCell (show w.heap.size < B by omega)).setCell (show w.heap.size < B by omega)).setCell (show w.heap.size < B by omega)).setCell (show w.heap.size < B by omega)).setCell (show w.heap.size < B by omega)))
          go_wp2_with fail
          obtain ⟨WW, hWW⟩ : ∃ W, (((((wr.setCell ⟨w.heap.size, 0, none⟩ (.int .i64 z0)).setCell ⟨w.heap.size, 1, none⟩ (.int .i64 z1)).setCell ⟨w.heap.size, 2, none⟩ (.int .i64 z2)).setCell ⟨w.heap.size, 3, none⟩ (.bool ob)).setCell ⟨w.heap.size, 4, none⟩ (.slice A j c)) = W := ⟨_, rfl⟩
          rw [hWW] at HS HOS
          try rw [hWW]
          have k0 := Joins.cell_of_block HS.out.g 0
          have k1 := Joins.cell_of_block HS.out.g 1
          have k2 := Joins.cell_of_block HS.out.g 2
          have k3 := Joins.cell_of_block HS.out.g 3
          have k4 := Joins.cell_of_block HS.out.g 4
          refine bodyPost_ret (v := .agg #[.int .i64 z0, .int .i64 z1, .int .i64 z2, .bool ob, .slice A j c]) (by simp [results, Tryz.results60, go_sem, k0, k1, k2, k3, k4]) rfl ⟨A, c, ?_, ?_, HS.out.n, HS.out.b⟩
          · show Ending.returned (.agg #[.int .i64 z0, .int .i64 z1, .int .i64 z2, .bool ob, .slice A j c]) = .returned (.agg #[.int .i64 z0, .int .i64 z1, .int .i64 z2, .bool ob, .slice A (Y j).1.length c])
            rw [HYL.out]
          · show OwnE ER WW w.heap.size (.slice A (Y j).1.length c) (Y j).1
            rw [HYL.out]
            exact HOS.out.less (by omega)
end Go.Proofs.YtfmmfaeognoleaaGreat
