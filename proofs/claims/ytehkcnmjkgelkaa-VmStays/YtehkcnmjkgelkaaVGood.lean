/-
  The contract of vm.Run of what may run.
-/
import Derived.Test.YtehkcnmjkgelkaaVBad
namespace Go.Proofs.Ytehkcnmjkgelkaa
open Go.RowKit C
attribute [local go_sem ↓] Go.wp_at_zero Go.wp_at_succ
attribute [local go_sem] store_func

/-- What holds of the worlds within the loop of Run. -/
structure RunI (w : World) (g p : Nat) (t : Tx) (B : Option Addr) (kc : Nat) (L : List Int) (wr : World) : Prop where
  below : Below w.heap.size w wr
  regs : wr.heap[g]? = some (RB L)
  put : wr.heap[p]? = some (PB g)
  res : wr.heap[w.heap.size + 1 + 1]? = some (RB zero8)
  tex : wr.heap[w.heap.size]? = some (txB t B kc)
theorem len8 {L : List Int} (h : L.length = 8) : ∃ l0 l1 l2 l3 l4 l5 l6 l7, L = [l0, l1, l2, l3, l4, l5, l6, l7] := by
  match L, h with
  | [l0, l1, l2, l3, l4, l5, l6, l7], _ => exact ⟨l0, l1, l2, l3, l4, l5, l6, l7, rfl⟩
theorem RunI.grow {w : World} {g p : Nat} {t : Tx} {B : Option Addr} {kc : Nat} {L : List Int} {a b : World} (h : RunI w g p t B kc L a) (hb : Below a.heap.size a b) : RunI w g p t B kc L b :=
  ⟨bstep h.below h.below.size hb, (hb.block _ (RB_lt h.regs)).trans h.regs, (hb.block _ (Array.getElem?_eq_some_iff.1 h.put).1).trans h.put, (hb.block _ (RB_lt h.res)).trans h.res, txB_grow h.tex hb⟩
theorem RunI.only {w : World} {g p : Nat} {t : Tx} {B : Option Addr} {kc : Nat} {L L2 : List Int} {a b : World} (h : RunI w g p t B kc L a) (hg : w.heap.size + 1 + 1 < g ∧ p ≠ g) (ho : Onlyw g a b) (hr : b.heap[g]? = some (RB L2)) : RunI w g p t B kc L2 b :=
  ⟨h.below.trans (ho.below _ (by omega)), hr, ho.keep hg.2 h.put, ho.keep (by omega) h.res, ho.keep (by omega) h.tex⟩
theorem stepR_eq (t : Tx) (x : In) (L : List Int) : stepR t x L = if x.o = 12 then L else if x.o = 13 then putL L x.d.toNat (colL (t.near (ra x L) (rb x L))) else if x.o = 14 then putL L x.d.toNat (colL (t.smooth (ra x L) (rb x L))) else putL L x.d.toNat [rck x (ra x L) (rb x L)] := rfl
theorem nxt_le {x : In} {k n : Nat} (hx : x.ok) (h1 : oneB x k n = true) (hk : k < n) (a : Int) : nxt x k a ≤ n := by
  obtain ⟨-, -, -, -, -, -, h, -⟩ := one_in hx h1
  unfold nxt
  split
  · rename_i e
    have := h e.1
    omega
  · omega
theorem new_cell {w : World} {p : Addr} {v : Value} (o : Obj) (h : w.cell? p = some v) : (w.alloc o).cell? p = some v := (new_below w o).cell (World.block_lt_of_cell? _ _ h) ▸ h
theorem onlyw_drew (g : Nat) (X : World) : Onlyw g X X.drew := ⟨fun _ _ _ => rfl, fun b _ => (Below.refl b X).drew⟩
set_option maxRecDepth 100000 in
set_option maxHeartbeats 8000000 in
theorem run_good (l : List In) (A : Option Addr) (c : Nat) (t : Tx) (B : Option Addr) (kc : Nat) (r0 r1 r2 r3 r4 r5 r6 r7 : Int) (hok : ∀ x ∈ l, x.ok) (ht : t.ok) (w : World) (he : Es EI w w.heap.size A l) (hp : Es EC w w.heap.size B t.px) (hc : chkT l t = 0) (hc2 : chk l = 0) :
    Calls Try.prog 11 #[.slice A l.length c, .agg #[.int .i64 t.w, .int .i64 t.h, .slice B t.px.length kc], .agg #[.int .i64 r0, .int .i64 r1, .int .i64 r2, .int .i64 r3, .int .i64 r4, .int .i64 r5, .int .i64 r6, .int .i64 r7]] w fun e w' => e = .returned (.tuple #[.agg (regC (fin l t l.length 0 ([r0, r1, r2, r3, r4, r5, r6, r7].map w32) 0).1), .int .i64 (fin l t l.length 0 ([r0, r1, r2, r3, r4, r5, r6, r7].map w32) 0).2, .int .i64 0]) ∧ Below w.heap.size w w' := by
  obtain ⟨hl1, hl2, hone⟩ := chk_ok hc2
  have HC := Lib.hid (fun w (h : Es EI w w.heap.size A l) => vcheck_any l A c t B kc hok w h)
  rw [hc] at HC
  have HE := Lib.hid he
  have HP := Lib.hid hp
  have HOK := Lib.hid (fun (k : Nat) x (h : l[k]? = some x) => And.intro (hok x (List.mem_of_getElem? h)) (hone k x h))
  have HTK := Lib.hid ht
  have HM := Lib.hid (map_reg (xs := [r0, r1, r2, r3, r4, r5, r6, r7]) rfl)
  have HL := Lib.hid (fun (k : Nat) (h : k < l.length) => get_lt h)
  have HPUT := Lib.hid (fun W b off c g (hb : b ≠ g) (hg : W.heap[g]? = some (RB zero8)) hx => put_any 0 [r0, r1, r2, r3, r4, r5, r6, r7] b off c g zero8 rfl (Nat.le_refl 8) W hg hb hx)
  have e8 : putL zero8 0 [r0, r1, r2, r3, r4, r5, r6, r7] = [r0, r1, r2, r3, r4, r5, r6, r7].map w32 := rfl
  rw [e8] at HPUT
  clear e8
  obtain ⟨M, hM⟩ : ∃ M, [r0, r1, r2, r3, r4, r5, r6, r7].map w32 = M := ⟨_, rfl⟩
  rw [hM] at HPUT HM ⊢
  obtain ⟨F, hF⟩ : ∃ F, fin l t l.length 0 M 0 = F := ⟨_, rfl⟩
  rw [hF]
  have HF := Lib.hid hF
  have HFE := Lib.hid (fun f k L s => fin_end (l := l) (t := t) (f := f) (k := k) (L := L) (s := s))
  clear he hp hok ht hone hc hc2 hF hM
  obtain ⟨n, hn⟩ : ∃ n, l.length = n := ⟨_, rfl⟩
  rw [hn] at HC HL HFE HF hl1 hl2 HOK ⊢
  clear hn
  have hb3 : Below w.heap.size w (((w.alloc (.cells #[.int .i64 t.w, .int .i64 t.h, .slice B t.px.length kc] 25)).alloc (.cells #[.int .i64 r0, .int .i64 r1, .int .i64 r2, .int .i64 r3, .int .i64 r4, .int .i64 r5, .int .i64 r6, .int .i64 r7] 26)).alloc (.cells #[.int .i64 0, .int .i64 0, .int .i64 0, .int .i64 0, .int .i64 0, .int .i64 0, .int .i64 0, .int .i64 0] 26)) := ((new_below _ _).alloc (by simp) _).alloc (by simp; omega) _
  have HB3 := Lib.hid hb3
  have HE3 := Lib.hid (HE.out.up hb3)
  clear hb3
  have HZ := Lib.hid (new_at3 w (.cells #[.int .i64 t.w, .int .i64 t.h, .slice B t.px.length kc] 25) (.cells #[.int .i64 r0, .int .i64 r1, .int .i64 r2, .int .i64 r3, .int .i64 r4, .int .i64 r5, .int .i64 r6, .int .i64 r7] 26) (RB zero8))
  have HZ1 := Lib.hid (show (((w.alloc (.cells #[.int .i64 t.w, .int .i64 t.h, .slice B t.px.length kc] 25)).alloc (.cells #[.int .i64 r0, .int .i64 r1, .int .i64 r2, .int .i64 r3, .int .i64 r4, .int .i64 r5, .int .i64 r6, .int .i64 r7] 26)).alloc (.cells #[.int .i64 0, .int .i64 0, .int .i64 0, .int .i64 0, .int .i64 0, .int .i64 0, .int .i64 0, .int .i64 0] 26)).heap[w.heap.size + 1]? = some (RB [r0, r1, r2, r3, r4, r5, r6, r7]) from new_keep _ (new_at2 w _ _))
  have HZ2 := Lib.hid (show (((w.alloc (.cells #[.int .i64 t.w, .int .i64 t.h, .slice B t.px.length kc] 25)).alloc (.cells #[.int .i64 r0, .int .i64 r1, .int .i64 r2, .int .i64 r3, .int .i64 r4, .int .i64 r5, .int .i64 r6, .int .i64 r7] 26)).alloc (.cells #[.int .i64 0, .int .i64 0, .int .i64 0, .int .i64 0, .int .i64 0, .int .i64 0, .int .i64 0, .int .i64 0] 26)).heap[w.heap.size]? = some (txB t B kc) from new_keep _ (new_at20 w _ _))
  go_enter Try.func11, Try.ntmps11
  go_wp2_with (go_at_call 22; (with_reducible refine (HC.out _ HE3.out).mono ?_); rintro e w1 ⟨rfl, hb⟩; have HB1 := Lib.hid (bstep HB3.out HB3.out.size hb); have HR2 := Lib.hid ((hb.block _ (by simp <;> omega)).trans HZ.out); have HR1 := Lib.hid ((hb.block _ (by simp <;> omega)).trans HZ1.out); have HR0 := Lib.hid ((hb.block _ (by simp <;> omega)).trans HZ2.out); have HS1 := Lib.hid (show w.heap.size + 1 + 1 < w1.heap.size by have := hb.size; simp at this; omega); obtain ⟨c0, c1, c2⟩ := txB_cell HR0.out; clear hb)
  have XB := Lib.hid (show Below w.heap.size w ((w1.alloc (.cells #[.int .i64 0, .int .i64 0, .int .i64 0, .int .i64 0, .int .i64 0, .int .i64 0, .int .i64 0, .int .i64 0] 26)).alloc (.cells #[.func (.func 23) #[] #[.pointer (some ⟨w1.heap.size, 0, none⟩)]] 61)) from (HB1.out.alloc HB1.out.size _).alloc (by have := HB1.out.size; simp; omega) _)
  have XG := Lib.hid (show ((w1.alloc (.cells #[.int .i64 0, .int .i64 0, .int .i64 0, .int .i64 0, .int .i64 0, .int .i64 0, .int .i64 0, .int .i64 0] 26)).alloc (.cells #[.func (.func 23) #[] #[.pointer (some ⟨w1.heap.size, 0, none⟩)]] 61)).heap[w1.heap.size]? = some (RB zero8) from new_at20 w1 _ _)
  have XP := Lib.hid (show ((w1.alloc (.cells #[.int .i64 0, .int .i64 0, .int .i64 0, .int .i64 0, .int .i64 0, .int .i64 0, .int .i64 0, .int .i64 0] 26)).alloc (.cells #[.func (.func 23) #[] #[.pointer (some ⟨w1.heap.size, 0, none⟩)]] 61)).heap[w1.heap.size + 1]? = some (PB w1.heap.size) from new_at2 w1 _ _)
  have XR := Lib.hid (show ((w1.alloc (.cells #[.int .i64 0, .int .i64 0, .int .i64 0, .int .i64 0, .int .i64 0, .int .i64 0, .int .i64 0, .int .i64 0] 26)).alloc (.cells #[.func (.func 23) #[] #[.pointer (some ⟨w1.heap.size, 0, none⟩)]] 61)).heap[w.heap.size + 1 + 1]? = some (RB zero8) from new_keep _ (new_keep _ HR2.out))
  have X1 := Lib.hid (show ((w1.alloc (.cells #[.int .i64 0, .int .i64 0, .int .i64 0, .int .i64 0, .int .i64 0, .int .i64 0, .int .i64 0, .int .i64 0] 26)).alloc (.cells #[.func (.func 23) #[] #[.pointer (some ⟨w1.heap.size, 0, none⟩)]] 61)).heap[w.heap.size + 1]? = some (RB [r0, r1, r2, r3, r4, r5, r6, r7]) from new_keep _ (new_keep _ HR1.out))
  have X0 := Lib.hid (show ((w1.alloc (.cells #[.int .i64 0, .int .i64 0, .int .i64 0, .int .i64 0, .int .i64 0, .int .i64 0, .int .i64 0, .int .i64 0] 26)).alloc (.cells #[.func (.func 23) #[] #[.pointer (some ⟨w1.heap.size, 0, none⟩)]] 61)).heap[w.heap.size]? = some (txB t B kc) from new_keep _ (new_keep _ HR0.out))
  clear c0 c1 c2 HR0 HR1 HR2 HB1 HZ HZ1 HZ2 HB3 HE3 HC
  have HS := Lib.hid HS1.out
  clear HS1
  generalize ((w1.alloc (.cells #[.int .i64 0, .int .i64 0, .int .i64 0, .int .i64 0, .int .i64 0, .int .i64 0, .int .i64 0, .int .i64 0] 26)).alloc (.cells #[.func (.func 23) #[] #[.pointer (some ⟨w1.heap.size, 0, none⟩)]] 61)) = X at *
  generalize w1.heap.size = g at *
  obtain ⟨p, hp⟩ : ∃ p, g + 1 = p := ⟨_, rfl⟩
  rw [hp] at XP ⊢
  have HPG := Lib.hid hp
  have hpg : p ≠ g := by omega
  clear hp
  refine wp_region_held_drew (S := fun w' => ∃ x : OnlyG g X, w' = x.w) (by kernel_rfl) ⟨⟨_, onlyw_drew g _⟩, rfl⟩ (fun hS => ?_)
  have yp : ∀ x : OnlyG g X, x.w.cell? ⟨p, 0, none⟩ = some (.func (.func 23) #[] #[.pointer (some ⟨g, 0, none⟩)]) := fun x => x.cell (PB_cell XP.out) hpg
  refine wpAnyH_take (i := 0) (v := .func (.func 23) #[] #[.pointer (some ⟨g, 0, none⟩)]) rfl (by kernel_rfl) (by kernel_rfl) (by kernel_rfl) (fun _ _ _ h => h) (Or.inl ⟨by rfl, fun w hw => by obtain ⟨x, rfl⟩ := hw; go_simp⟩) hS ?_
  try simp only [Act.put, List.setIfInBounds_toArray, List.set_cons_zero, List.set_cons_succ, List.getElem_toArray, List.getElem_cons_zero]
  refine wpAnyH_take (i := 1) (v := .slice (some ⟨w.heap.size + 1, 0, none⟩) 8 8) rfl (by kernel_rfl) (by kernel_rfl) (by kernel_rfl) (fun _ _ _ h => h) (Or.inl ⟨by rfl, fun w hw => by obtain ⟨x, rfl⟩ := hw; go_simp⟩) hS ?_
  try simp only [Act.put, List.setIfInBounds_toArray, List.set_cons_zero, List.set_cons_succ, List.getElem_toArray, List.getElem_cons_zero, List.getElem_cons_succ]
  refine wpAnyH_ready (rs := [2]) (by kernel_rfl) (by simp) ?_
  refine AllReadyH.cons rfl (fun K hK => ?_) AllReadyH.nil
  go_simp
  have hpx := HPUT.out X.drew (w.heap.size + 1) 0 8 g (by have := HS.out; omega) XG.out (fun j u h => ints_at (w := X.drew) (t := 26) X1.out h)
  refine hpx.mono ?_
  clear hpx
  rintro e W ⟨rfl, ho, hb⟩
  have HO := Lib.hid ((onlyw_drew g X).trans ho.w)
  have HG := Lib.hid hb
  clear ho hb
  refine hK.out _ _ ⟨⟨_, HO.out⟩, rfl⟩ (fun hS => ?_)
  clear hK K
  try simp only [Act.put, List.setIfInBounds_toArray, List.set_cons_zero, List.set_cons_succ, List.getElem_toArray, List.getElem_cons_zero, List.getElem_cons_succ]
  refine wpAnyH_done (by kernel_rfl) ?_ _
  have WB := Lib.hid (show Below w.heap.size w W from XB.out.trans (HO.out.below _ (by have := HS.out; omega)))
  have WP := Lib.hid (HO.out.keep hpg XP.out)
  have WR := Lib.hid (HO.out.keep (by have := HS.out; omega) XR.out)
  have W0 := Lib.hid (HO.out.keep (by have := HS.out; omega) X0.out)
  have HGW := Lib.hid (show w.heap.size + 1 + 1 < g ∧ p ≠ g from ⟨HS.out, hpg⟩)
  clear yp HO XB XG XP XR X1 X0 hS HPUT
  go_wp2_with fail
  go_loopw [13, 14] (fun st i wr => ∃ (k f s : Nat) (L : List Int), i = .int .i64 k ∧ st = .int .i64 s ∧ k ≤ n ∧ s ≤ k ∧ n - k ≤ f ∧ fin l t f k L s = F ∧ Reg L ∧ RunI w g p t B kc L wr) (fun _ i _ => n - (intOf i).toNat)
  case atStart => exact ⟨0, n, 0, M, rfl, rfl, Nat.zero_le _, Nat.le_refl _, Nat.le_refl _, HF.out, HM.out, WB.out, HG.out, WP.out, WR.out, W0.out⟩
  case round =>
    clear WB WP WR W0 HG HF
    obtain ⟨k, f, s, L, rfl, rfl, hk, hs, hf, hfin, hreg, hI⟩ := hrel
    have HI := Lib.hid hI
    have HFI := Lib.hid hfin
    have HRG := Lib.hid hreg
    clear hI hfin hreg
    by_cases hlt : k < n
    · obtain ⟨x, hx⟩ := HL.out k hlt
      obtain ⟨xok, x1⟩ := HOK.out k x hx
      obtain ⟨b0, off, rfl, hb0, hat⟩ := HE.out.at hx
      have hat2 := show AtE EI wr b0 (off + k * 5) x from hat.below HI.out.below hb0
      have hbw := Nat.lt_of_lt_of_le hb0 HI.out.below.size
      obtain ⟨f, rfl⟩ : ∃ f', f = f' + 1 := ⟨f - 1, by omega⟩
      have hst := HFI.out.symm.trans (fin_step hx)
      clear hb0 hat hx
      obtain ⟨o, di, ai, bi, N⟩ := x
      obtain ⟨hd, ha, hb, hd4, -, -, -, -⟩ := one_in xok x1
      have xok2 := xok
      obtain ⟨⟨o0, o1⟩, ⟨d0, -⟩, ⟨a0, -⟩, ⟨b0', -⟩, -⟩ := xok2
      dsimp only at hd ha hb hd4 o0 o1 d0 a0 b0'
      obtain ⟨d, rfl⟩ : ∃ d : Nat, di = d := ⟨di.toNat, by omega⟩
      obtain ⟨a, rfl⟩ : ∃ a : Nat, ai = a := ⟨ai.toNat, by omega⟩
      obtain ⟨b, rfl⟩ : ∃ b : Nat, bi = b := ⟨bi.toNat, by omega⟩
      obtain ⟨c0, c1, c2, c3, c4⟩ := atI hat2
      have ha8 : a < 8 := by omega
      have hb8 : b < 8 := by omega
      have XOK := Lib.hid xok
      have X1 := Lib.hid x1
      obtain ⟨u, hu⟩ : ∃ u, ra ⟨o, d, a, b, N⟩ L = u := ⟨_, rfl⟩
      obtain ⟨v, hv⟩ : ∃ v, rb ⟨o, d, a, b, N⟩ L = v := ⟨_, rfl⟩
      have hui : I32 u := hu ▸ HRG.out.at a
      have hvi : I32 v := hv ▸ HRG.out.at b
      have HU := Lib.hid hui
      have HV := Lib.hid hvi
      rw [hu] at hst
      have HNXL := Lib.hid (nxt_le xok x1 (by omega) u)
      have HNX := Lib.hid (fun W => next_any ⟨o, d, a, b, N⟩ k n xok x1 (by omega) u W)
      obtain ⟨m, hm⟩ : ∃ m, nxt ⟨o, d, a, b, N⟩ k u = m := ⟨_, rfl⟩
      have hgt := nxt_gt ⟨o, d, a, b, N⟩ k u
      rw [hm] at hst HNX HNXL hgt
      have HMN := Lib.hid (show m ≤ n ∧ s + 1 ≤ m ∧ n - m ≤ f ∧ k + 1 ≤ m by have := HNXL.out; omega)
      have HR := Lib.hid (stepR_reg t ⟨o, d, a, b, N⟩ HRG.out)
      have HSTP := Lib.hid (show stepR t ⟨o, d, a, b, N⟩ L = stepR t ⟨o, d, a, b, N⟩ L from rfl)
      have hra := hu
      have hrb := hv
      have hstp := stepR_eq t ⟨o, d, a, b, N⟩ L
      rw [hu, hv] at hstp
      obtain ⟨L2, hL2⟩ : ∃ L2, stepR t ⟨o, d, a, b, N⟩ L = L2 := ⟨_, rfl⟩
      rw [hL2] at hst HR hstp
      have HST := Lib.hid hst.symm
      have HR2 := Lib.hid HR.out
      have hca : wr.cell? ⟨g, a, none⟩ = some (.int .i64 u) := hu ▸ RB_cell HI.out.regs (by rw [HRG.out.1]; exact ha8)
      have hcb : wr.cell? ⟨g, b, none⟩ = some (.int .i64 v) := hv ▸ RB_cell HI.out.regs (by rw [HRG.out.1]; exact hb8)
      have HSTEP := Lib.hid hstp
      have hd8 : d ≤ 7 := by omega
      have hd4 := Lib.hid hd4
      clear xok x1 hat2 hui hvi hst hra hrb hstp hm hgt hu hv hL2 HR HSTP HNXL hd ha hb d0 a0 b0'
      have Q0 := Lib.hid (show (wr.alloc (.cells #[.int .u8 o, .int .u8 d, .int .u8 a, .int .u8 b, .int .i64 N] 45)).heap[wr.heap.size]? = some (inB ⟨o, d, a, b, N⟩) from new_at1 _ _)
      have I0 := Lib.hid (HI.out.grow (new_below wr (.cells #[.int .u8 o, .int .u8 d, .int .u8 a, .int .u8 b, .int .i64 N] 45)))
      have hgq := RB_lt HI.out.regs
      have k0 := new_cell (.cells #[.int .u8 o, .int .u8 d, .int .u8 a, .int .u8 b, .int .i64 N] 45) hca
      have k1 := new_cell (.cells #[.int .u8 o, .int .u8 d, .int .u8 a, .int .u8 b, .int .i64 N] 45) hcb
      go_wp2_with fail
      clear c0 c1 c2 c3 c4 hca hcb
      obtain ⟨c0, c1, c2, c3, c4⟩ := inB_cell Q0.out
      generalize wr.alloc (.cells #[.int .u8 o, .int .u8 d, .int .u8 a, .int .u8 b, .int .i64 N] 45) = Y at *
      generalize wr.heap.size = q at *
      have hqg : q ≠ g := by omega
      have ya : ∀ z : Grow Y, z.w.cell? ⟨g, a, none⟩ = some (.int .i64 u) := fun z => z.cell k0
      have yb : ∀ z : Grow Y, z.w.cell? ⟨g, b, none⟩ = some (.int .i64 v) := fun z => z.cell k1
      have y2 : ∀ z : Grow Y, z.w.cell? ⟨q, 2, none⟩ = some (.int .u8 a) := fun z => z.cell c2
      have y3 : ∀ z : Grow Y, z.w.cell? ⟨q, 3, none⟩ = some (.int .u8 b) := fun z => z.cell c3
      have ne1 := Grow.ne Y
      refine wp_region_grow (by kernel_rfl) (by kernel_rfl) ?_
      repeat (first | go_big_quiet_skip | go_big_quiet_step (fail))
      refine wpQuiet_nil ?_
      rintro _ ⟨z, rfl⟩
      have IZ := Lib.hid (I0.out.grow z.below)
      have QZ := Lib.hid ((z.below.block _ (Array.getElem?_eq_some_iff.1 Q0.out).1).trans Q0.out)
      clear ya yb y2 y3 ne1 k0 k1 c0 c1 c2 c3 c4 I0 Q0 HI
      generalize z.w = Z at *
      clear z
      obtain ⟨y0, y1, y2, y3, y4⟩ := inB_cell QZ.out
      rcases Classical.em (o = 12) with e12 | e12
      · skip
        subst e12
        clear o0 o1
        obtain rfl : L2 = L := by have h := HSTEP.out; rw [if_pos rfl] at h; exact h
        have I2 := Lib.hid IZ.out
        have Q2 := Lib.hid QZ.out
        clear HSTEP HRG hd4 IZ QZ y0 y1 y2 y3 y4
        generalize Z = T2 at *
        obtain ⟨e0, e1, e2, e3, e4⟩ := inB_cell Q2.out
        have B21 := Lib.hid (show Below w.heap.size w T2 from I2.out.below)
        go_wp2_with (go_at_call 29; (with_reducible refine (HNX.out _).mono ?_); rintro e T3 ⟨rfl, hb⟩; have I3 := Lib.hid (I2.out.grow hb); clear hb)
        go_roundw
        case rel => exact ⟨m, f, s + 1, _, by go_num, by go_num, HMN.out.1, HMN.out.2.1, HMN.out.2.2.1, HST.out, HR2.out, I3.out⟩
        case measure => have := HMN.out.2.2.2; simp [intOf]; omega
      rcases Classical.em (o = 13) with e13 | e13
      · skip
        subst e13
        clear o0 o1 e12
        have hs2 := HSTEP.out
        rw [if_neg (by decide), if_pos rfl] at hs2
        obtain ⟨col, hcol⟩ : ∃ col, t.near u v = col := ⟨_, rfl⟩
        have hcall := fun W (h : Es EC W W.heap.size B t.px) => near_any t B kc u v (by have := HU.out; unfold I64; omega) (by have := HV.out; unfold I64; omega) W h
        have hcok : col.ok := hcol ▸ Tx.at_ok HTK.out _ _
        rw [hcol] at hs2 hcall
        obtain rfl : L2 = putL L d (colL col) := hs2
        have HCALL := Lib.hid hcall
        have HCOK := Lib.hid hcok
        have HL8 := Lib.hid HRG.out.1
        have HD4 := Lib.hid (show d + 4 ≤ 8 by have := hd4.out (.inl rfl); omega)
        have ESZ := Lib.hid ((HP.out.up IZ.out.below.drew : Es EC Z.drew Z.drew.heap.size B t.px))
        clear hcol hcall hcok hd4 HSTEP HRG
        go_wp2_with fail
        have yp : ∀ x : OnlyG g Z, x.w.cell? ⟨p, 0, none⟩ = some (.func (.func 23) #[] #[.pointer (some ⟨g, 0, none⟩)]) := fun x => x.cell (PB_cell IZ.out.put) HGW.out.2
        have x0 : ∀ x : OnlyG g Z, x.w.cell? ⟨q, 0, none⟩ = some (.int .u8 13) := fun x => x.cell y0 hqg
        have x1 : ∀ x : OnlyG g Z, x.w.cell? ⟨q, 1, none⟩ = some (.int .u8 d) := fun x => x.cell y1 hqg
        have x2 : ∀ x : OnlyG g Z, x.w.cell? ⟨q, 2, none⟩ = some (.int .u8 a) := fun x => x.cell y2 hqg
        have x3 : ∀ x : OnlyG g Z, x.w.cell? ⟨q, 3, none⟩ = some (.int .u8 b) := fun x => x.cell y3 hqg
        have x4 : ∀ x : OnlyG g Z, x.w.cell? ⟨q, 4, none⟩ = some (.int .i64 N) := fun x => x.cell y4 hqg
        have hwg : w.heap.size ≠ g := by have := HGW.out.1; omega
        obtain ⟨j0, j1, j2⟩ := txB_cell IZ.out.tex
        have t0 : ∀ x : OnlyG g Z, x.w.cell? ⟨w.heap.size, 0, none⟩ = some (.int .i64 t.w) := fun x => x.cell j0 hwg
        have t1 : ∀ x : OnlyG g Z, x.w.cell? ⟨w.heap.size, 1, none⟩ = some (.int .i64 t.h) := fun x => x.cell j1 hwg
        have t2 : ∀ x : OnlyG g Z, x.w.cell? ⟨w.heap.size, 2, none⟩ = some (.slice B t.px.length kc) := fun x => x.cell j2 hwg
        have ZG := Lib.hid IZ.out.regs
        clear y0 y1 y2 y3 y4 j0 j1 j2
        refine wp_region_held_drew (S := fun w' => ∃ x : OnlyG g Z, w' = x.w) (by kernel_rfl) ⟨⟨_, onlyw_drew g _⟩, rfl⟩ (fun hS => ?_)
        refine wpAnyH_take (i := 0) (v := .func (.func 25) #[] #[.pointer (some ⟨p, 0, none⟩)]) rfl (by kernel_rfl) (by kernel_rfl) (by kernel_rfl) (fun _ _ _ h => h) (Or.inl ⟨by rfl, fun w hw => by obtain ⟨x, rfl⟩ := hw; go_simp⟩) hS ?_
        try simp only [Act.put, List.setIfInBounds_toArray, List.set_cons_zero, List.set_cons_succ, List.getElem_toArray, List.getElem_cons_zero]
        refine wpAnyH_take (i := 1) (v := .pointer (some ⟨q, 1, none⟩)) rfl (by kernel_rfl) (by kernel_rfl) (by kernel_rfl) (fun _ _ _ h => h) (Or.inl ⟨by rfl, fun w hw => by obtain ⟨x, rfl⟩ := hw; go_simp⟩) hS ?_
        try simp only [Act.put, List.setIfInBounds_toArray, List.set_cons_zero, List.set_cons_succ, List.getElem_toArray, List.getElem_cons_zero, List.getElem_cons_succ]
        refine wpAnyH_take (i := 2) (v := .int .u8 d) rfl (by kernel_rfl) (by kernel_rfl) (by kernel_rfl) (fun _ _ _ h => h) (Or.inl ⟨by rfl, fun w hw => by obtain ⟨x, rfl⟩ := hw; go_simp⟩) hS ?_
        try simp only [Act.put, List.setIfInBounds_toArray, List.set_cons_zero, List.set_cons_succ, List.getElem_toArray, List.getElem_cons_zero, List.getElem_cons_succ]
        refine wpAnyH_take (i := 3) (v := .agg #[.int .i64 t.w, .int .i64 t.h, .slice B t.px.length kc]) rfl (by kernel_rfl) (by kernel_rfl) (by kernel_rfl) (fun _ _ _ h => h) (Or.inl ⟨by rfl, fun w hw => by obtain ⟨x, rfl⟩ := hw; go_simp⟩) hS ?_
        try simp only [Act.put, List.setIfInBounds_toArray, List.set_cons_zero, List.set_cons_succ, List.getElem_toArray, List.getElem_cons_zero, List.getElem_cons_succ]
        refine wpAnyH_take (i := 4) (v := .int .i64 u) rfl (by kernel_rfl) (by kernel_rfl) (by kernel_rfl) (fun _ _ _ h => h) (Or.inl ⟨by rfl, fun w hw => by obtain ⟨x, rfl⟩ := hw; go_simp⟩) hS ?_
        try simp only [Act.put, List.setIfInBounds_toArray, List.set_cons_zero, List.set_cons_succ, List.getElem_toArray, List.getElem_cons_zero, List.getElem_cons_succ]
        refine wpAnyH_take (i := 5) (v := .int .i64 v) rfl (by kernel_rfl) (by kernel_rfl) (by kernel_rfl) (fun _ _ _ h => h) (Or.inl ⟨by rfl, fun w hw => by obtain ⟨x, rfl⟩ := hw; go_simp⟩) hS ?_
        try simp only [Act.put, List.setIfInBounds_toArray, List.set_cons_zero, List.set_cons_succ, List.getElem_toArray, List.getElem_cons_zero, List.getElem_cons_succ]
        refine wpAnyH_ready (rs := [6]) (by kernel_rfl) (by simp) ?_
        refine AllReadyH.cons rfl (fun K hK => ?_) AllReadyH.nil
        go_simp
        with_reducible refine (HCALL.out _ ESZ.out).mono ?_
        rintro e T ⟨rfl, hb⟩
        have BT := Lib.hid hb
        have GT := Lib.hid ((BT.out.block _ (RB_lt ZG.out)).trans ZG.out)
        have PT := Lib.hid ((BT.out.block _ (Array.getElem?_eq_some_iff.1 IZ.out.put).1).trans IZ.out.put)
        have OT := Lib.hid ((onlyw_drew g Z).trans (onlyw_of hb (Nat.le_of_lt (RB_lt ZG.out))))
        clear hb HCALL
        refine hK.out _ _ ⟨⟨_, OT.out⟩, rfl⟩ (fun hS => ?_)
        clear hK K
        try simp only [Act.put, List.setIfInBounds_toArray, List.set_cons_zero, List.set_cons_succ, List.getElem_toArray, List.getElem_cons_zero, List.getElem_cons_succ]
        refine wpAnyH_ready (rs := [7]) (by kernel_rfl) (by simp) ?_
        refine AllReadyH.cons rfl (fun K hK => ?_) AllReadyH.nil
        go_simp
        have htl := tell_any d col HCOK.out g p L HL8.out HD4.out T GT.out PT.out
        with_reducible refine htl.mono ?_
        rintro e T2 ⟨rfl, ho, hb⟩
        have OT2 := Lib.hid (OT.out.trans ho)
        have GT2 := Lib.hid hb
        clear ho hb htl
        refine hK.out _ _ ⟨⟨_, OT2.out⟩, rfl⟩ (fun hS => ?_)
        clear hK K
        try simp only [Act.put, List.setIfInBounds_toArray, List.set_cons_zero, List.set_cons_succ, List.getElem_toArray, List.getElem_cons_zero, List.getElem_cons_succ]
        refine wpAnyH_done (by kernel_rfl) ?_ _
        have I2 := Lib.hid (IZ.out.only HGW.out OT2.out GT2.out)
        have Q2 := Lib.hid (OT2.out.keep hqg QZ.out)
        clear yp x0 x1 x2 x3 x4 t0 t1 t2 hS OT2 OT GT GT2 IZ QZ ZG BT PT hwg
        obtain ⟨e0, e1, e2, e3, e4⟩ := inB_cell Q2.out
        have B21 := Lib.hid (show Below w.heap.size w T2 from I2.out.below)
        go_wp2_with (go_at_call 29; (with_reducible refine (HNX.out _).mono ?_); rintro e T3 ⟨rfl, hb⟩; have I3 := Lib.hid (I2.out.grow hb); clear hb)
        go_roundw
        case rel => exact ⟨m, f, s + 1, _, by go_num, by go_num, HMN.out.1, HMN.out.2.1, HMN.out.2.2.1, HST.out, HR2.out, I3.out⟩
        case measure => have := HMN.out.2.2.2; simp [intOf]; omega
      rcases Classical.em (o = 14) with e14 | e14
      · skip
        subst e14
        clear o0 o1 e12 e13
        have hs2 := HSTEP.out
        rw [if_neg (by decide), if_neg (by decide), if_pos rfl] at hs2
        obtain ⟨col, hcol⟩ : ∃ col, t.smooth u v = col := ⟨_, rfl⟩
        have hcall := fun W (h : Es EC W W.heap.size B t.px) => smooth_any t HTK.out B kc u v (by have := HU.out; unfold Far; omega) (by have := HV.out; unfold Far; omega) W h
        have hcok : col.ok := hcol ▸ Tx.smooth_ok HTK.out _ _
        rw [hcol] at hs2 hcall
        obtain rfl : L2 = putL L d (colL col) := hs2
        have HCALL := Lib.hid hcall
        have HCOK := Lib.hid hcok
        have HL8 := Lib.hid HRG.out.1
        have HD4 := Lib.hid (show d + 4 ≤ 8 by have := hd4.out (.inr rfl); omega)
        have ESZ := Lib.hid ((HP.out.up IZ.out.below.drew : Es EC Z.drew Z.drew.heap.size B t.px))
        clear hcol hcall hcok hd4 HSTEP HRG
        go_wp2_with fail
        have yp : ∀ x : OnlyG g Z, x.w.cell? ⟨p, 0, none⟩ = some (.func (.func 23) #[] #[.pointer (some ⟨g, 0, none⟩)]) := fun x => x.cell (PB_cell IZ.out.put) HGW.out.2
        have x0 : ∀ x : OnlyG g Z, x.w.cell? ⟨q, 0, none⟩ = some (.int .u8 14) := fun x => x.cell y0 hqg
        have x1 : ∀ x : OnlyG g Z, x.w.cell? ⟨q, 1, none⟩ = some (.int .u8 d) := fun x => x.cell y1 hqg
        have x2 : ∀ x : OnlyG g Z, x.w.cell? ⟨q, 2, none⟩ = some (.int .u8 a) := fun x => x.cell y2 hqg
        have x3 : ∀ x : OnlyG g Z, x.w.cell? ⟨q, 3, none⟩ = some (.int .u8 b) := fun x => x.cell y3 hqg
        have x4 : ∀ x : OnlyG g Z, x.w.cell? ⟨q, 4, none⟩ = some (.int .i64 N) := fun x => x.cell y4 hqg
        have hwg : w.heap.size ≠ g := by have := HGW.out.1; omega
        obtain ⟨j0, j1, j2⟩ := txB_cell IZ.out.tex
        have t0 : ∀ x : OnlyG g Z, x.w.cell? ⟨w.heap.size, 0, none⟩ = some (.int .i64 t.w) := fun x => x.cell j0 hwg
        have t1 : ∀ x : OnlyG g Z, x.w.cell? ⟨w.heap.size, 1, none⟩ = some (.int .i64 t.h) := fun x => x.cell j1 hwg
        have t2 : ∀ x : OnlyG g Z, x.w.cell? ⟨w.heap.size, 2, none⟩ = some (.slice B t.px.length kc) := fun x => x.cell j2 hwg
        have ZG := Lib.hid IZ.out.regs
        clear y0 y1 y2 y3 y4 j0 j1 j2
        refine wp_region_held_drew (S := fun w' => ∃ x : OnlyG g Z, w' = x.w) (by kernel_rfl) ⟨⟨_, onlyw_drew g _⟩, rfl⟩ (fun hS => ?_)
        refine wpAnyH_take (i := 0) (v := .func (.func 25) #[] #[.pointer (some ⟨p, 0, none⟩)]) rfl (by kernel_rfl) (by kernel_rfl) (by kernel_rfl) (fun _ _ _ h => h) (Or.inl ⟨by rfl, fun w hw => by obtain ⟨x, rfl⟩ := hw; go_simp⟩) hS ?_
        try simp only [Act.put, List.setIfInBounds_toArray, List.set_cons_zero, List.set_cons_succ, List.getElem_toArray, List.getElem_cons_zero]
        refine wpAnyH_take (i := 1) (v := .pointer (some ⟨q, 1, none⟩)) rfl (by kernel_rfl) (by kernel_rfl) (by kernel_rfl) (fun _ _ _ h => h) (Or.inl ⟨by rfl, fun w hw => by obtain ⟨x, rfl⟩ := hw; go_simp⟩) hS ?_
        try simp only [Act.put, List.setIfInBounds_toArray, List.set_cons_zero, List.set_cons_succ, List.getElem_toArray, List.getElem_cons_zero, List.getElem_cons_succ]
        refine wpAnyH_take (i := 2) (v := .int .u8 d) rfl (by kernel_rfl) (by kernel_rfl) (by kernel_rfl) (fun _ _ _ h => h) (Or.inl ⟨by rfl, fun w hw => by obtain ⟨x, rfl⟩ := hw; go_simp⟩) hS ?_
        try simp only [Act.put, List.setIfInBounds_toArray, List.set_cons_zero, List.set_cons_succ, List.getElem_toArray, List.getElem_cons_zero, List.getElem_cons_succ]
        refine wpAnyH_take (i := 3) (v := .agg #[.int .i64 t.w, .int .i64 t.h, .slice B t.px.length kc]) rfl (by kernel_rfl) (by kernel_rfl) (by kernel_rfl) (fun _ _ _ h => h) (Or.inl ⟨by rfl, fun w hw => by obtain ⟨x, rfl⟩ := hw; go_simp⟩) hS ?_
        try simp only [Act.put, List.setIfInBounds_toArray, List.set_cons_zero, List.set_cons_succ, List.getElem_toArray, List.getElem_cons_zero, List.getElem_cons_succ]
        refine wpAnyH_take (i := 4) (v := .int .i64 u) rfl (by kernel_rfl) (by kernel_rfl) (by kernel_rfl) (fun _ _ _ h => h) (Or.inl ⟨by rfl, fun w hw => by obtain ⟨x, rfl⟩ := hw; go_simp⟩) hS ?_
        try simp only [Act.put, List.setIfInBounds_toArray, List.set_cons_zero, List.set_cons_succ, List.getElem_toArray, List.getElem_cons_zero, List.getElem_cons_succ]
        refine wpAnyH_take (i := 5) (v := .int .i64 v) rfl (by kernel_rfl) (by kernel_rfl) (by kernel_rfl) (fun _ _ _ h => h) (Or.inl ⟨by rfl, fun w hw => by obtain ⟨x, rfl⟩ := hw; go_simp⟩) hS ?_
        try simp only [Act.put, List.setIfInBounds_toArray, List.set_cons_zero, List.set_cons_succ, List.getElem_toArray, List.getElem_cons_zero, List.getElem_cons_succ]
        refine wpAnyH_ready (rs := [6]) (by kernel_rfl) (by simp) ?_
        refine AllReadyH.cons rfl (fun K hK => ?_) AllReadyH.nil
        go_simp
        with_reducible refine (HCALL.out _ ESZ.out).mono ?_
        rintro e T ⟨rfl, hb⟩
        have BT := Lib.hid hb
        have GT := Lib.hid ((BT.out.block _ (RB_lt ZG.out)).trans ZG.out)
        have PT := Lib.hid ((BT.out.block _ (Array.getElem?_eq_some_iff.1 IZ.out.put).1).trans IZ.out.put)
        have OT := Lib.hid ((onlyw_drew g Z).trans (onlyw_of hb (Nat.le_of_lt (RB_lt ZG.out))))
        clear hb HCALL
        refine hK.out _ _ ⟨⟨_, OT.out⟩, rfl⟩ (fun hS => ?_)
        clear hK K
        try simp only [Act.put, List.setIfInBounds_toArray, List.set_cons_zero, List.set_cons_succ, List.getElem_toArray, List.getElem_cons_zero, List.getElem_cons_succ]
        refine wpAnyH_ready (rs := [7]) (by kernel_rfl) (by simp) ?_
        refine AllReadyH.cons rfl (fun K hK => ?_) AllReadyH.nil
        go_simp
        have htl := tell_any d col HCOK.out g p L HL8.out HD4.out T GT.out PT.out
        with_reducible refine htl.mono ?_
        rintro e T2 ⟨rfl, ho, hb⟩
        have OT2 := Lib.hid (OT.out.trans ho)
        have GT2 := Lib.hid hb
        clear ho hb htl
        refine hK.out _ _ ⟨⟨_, OT2.out⟩, rfl⟩ (fun hS => ?_)
        clear hK K
        try simp only [Act.put, List.setIfInBounds_toArray, List.set_cons_zero, List.set_cons_succ, List.getElem_toArray, List.getElem_cons_zero, List.getElem_cons_succ]
        refine wpAnyH_done (by kernel_rfl) ?_ _
        have I2 := Lib.hid (IZ.out.only HGW.out OT2.out GT2.out)
        have Q2 := Lib.hid (OT2.out.keep hqg QZ.out)
        clear yp x0 x1 x2 x3 x4 t0 t1 t2 hS OT2 OT GT GT2 IZ QZ ZG BT PT hwg
        obtain ⟨e0, e1, e2, e3, e4⟩ := inB_cell Q2.out
        have B21 := Lib.hid (show Below w.heap.size w T2 from I2.out.below)
        go_wp2_with (go_at_call 29; (with_reducible refine (HNX.out _).mono ?_); rintro e T3 ⟨rfl, hb⟩; have I3 := Lib.hid (I2.out.grow hb); clear hb)
        go_roundw
        case rel => exact ⟨m, f, s + 1, _, by go_num, by go_num, HMN.out.1, HMN.out.2.1, HMN.out.2.2.1, HST.out, HR2.out, I3.out⟩
        case measure => have := HMN.out.2.2.2; simp [intOf]; omega
      have hs2 := HSTEP.out
      rw [if_neg e12, if_neg e13, if_neg e14] at hs2
      have hrk := fun W => reckoned_any ⟨o, d, a, b, N⟩ k n XOK.out X1.out e12 e13 e14 u v HU.out HV.out W
      obtain ⟨R, hR⟩ : ∃ R, rck ⟨o, d, a, b, N⟩ u v = R := ⟨_, rfl⟩
      rw [hR] at hs2 hrk
      obtain rfl : L2 = putL L d [R] := hs2
      have HRK := Lib.hid hrk
      have HL8 := Lib.hid HRG.out.1
      have HD8 := Lib.hid (show d + 1 ≤ 8 by omega)
      have e12' : (o == 12) = false := by simpa using e12
      have e13' : (o == 13) = false := by simpa using e13
      have e14' : (o == 14) = false := by simpa using e14
      clear hR hrk hd4 HSTEP HRG e12 e13 e14 HP HTK
      go_wp2_with fail
      have yp : ∀ x : OnlyG g Z, x.w.cell? ⟨p, 0, none⟩ = some (.func (.func 23) #[] #[.pointer (some ⟨g, 0, none⟩)]) := fun x => x.cell (PB_cell IZ.out.put) HGW.out.2
      have x0 : ∀ x : OnlyG g Z, x.w.cell? ⟨q, 0, none⟩ = some (.int .u8 o) := fun x => x.cell y0 hqg
      have x1 : ∀ x : OnlyG g Z, x.w.cell? ⟨q, 1, none⟩ = some (.int .u8 d) := fun x => x.cell y1 hqg
      have x2 : ∀ x : OnlyG g Z, x.w.cell? ⟨q, 2, none⟩ = some (.int .u8 a) := fun x => x.cell y2 hqg
      have x3 : ∀ x : OnlyG g Z, x.w.cell? ⟨q, 3, none⟩ = some (.int .u8 b) := fun x => x.cell y3 hqg
      have x4 : ∀ x : OnlyG g Z, x.w.cell? ⟨q, 4, none⟩ = some (.int .i64 N) := fun x => x.cell y4 hqg
      have hwg : w.heap.size ≠ g := by have := HGW.out.1; omega
      obtain ⟨j0, j1, j2⟩ := txB_cell IZ.out.tex
      have t0 : ∀ x : OnlyG g Z, x.w.cell? ⟨w.heap.size, 0, none⟩ = some (.int .i64 t.w) := fun x => x.cell j0 hwg
      have t1 : ∀ x : OnlyG g Z, x.w.cell? ⟨w.heap.size, 1, none⟩ = some (.int .i64 t.h) := fun x => x.cell j1 hwg
      have t2 : ∀ x : OnlyG g Z, x.w.cell? ⟨w.heap.size, 2, none⟩ = some (.slice B t.px.length kc) := fun x => x.cell j2 hwg
      have ZG := Lib.hid IZ.out.regs
      clear y0 y1 y2 y3 y4 j0 j1 j2
      refine wp_region_held_drew (S := fun w' => ∃ x : OnlyG g Z, w' = x.w) (by kernel_rfl) ⟨⟨_, onlyw_drew g _⟩, rfl⟩ (fun hS => ?_)
      refine wpAnyH_take (i := 0) (v := .func (.func 23) #[] #[.pointer (some ⟨g, 0, none⟩)]) rfl (by kernel_rfl) (by kernel_rfl) (by kernel_rfl) (fun _ _ _ h => h) (Or.inl ⟨by rfl, fun w hw => by obtain ⟨x, rfl⟩ := hw; go_simp⟩) hS ?_
      try simp only [Act.put, List.setIfInBounds_toArray, List.set_cons_zero, List.set_cons_succ, List.getElem_toArray, List.getElem_cons_zero]
      refine wpAnyH_take (i := 1) (v := .pointer (some ⟨q, 1, none⟩)) rfl (by kernel_rfl) (by kernel_rfl) (by kernel_rfl) (fun _ _ _ h => h) (Or.inl ⟨by rfl, fun w hw => by obtain ⟨x, rfl⟩ := hw; go_simp⟩) hS ?_
      try simp only [Act.put, List.setIfInBounds_toArray, List.set_cons_zero, List.set_cons_succ, List.getElem_toArray, List.getElem_cons_zero, List.getElem_cons_succ]
      refine wpAnyH_take (i := 2) (v := .int .u8 d) rfl (by kernel_rfl) (by kernel_rfl) (by kernel_rfl) (fun _ _ _ h => h) (Or.inl ⟨by rfl, fun w hw => by obtain ⟨x, rfl⟩ := hw; go_simp⟩) hS ?_
      try simp only [Act.put, List.setIfInBounds_toArray, List.set_cons_zero, List.set_cons_succ, List.getElem_toArray, List.getElem_cons_zero, List.getElem_cons_succ]
      refine wpAnyH_take (i := 3) (v := .agg #[.int .u8 o, .int .u8 d, .int .u8 a, .int .u8 b, .int .i64 N]) rfl (by kernel_rfl) (by kernel_rfl) (by kernel_rfl) (fun _ _ _ h => h) (Or.inl ⟨by rfl, fun w hw => by obtain ⟨x, rfl⟩ := hw; go_simp⟩) hS ?_
      try simp only [Act.put, List.setIfInBounds_toArray, List.set_cons_zero, List.set_cons_succ, List.getElem_toArray, List.getElem_cons_zero, List.getElem_cons_succ]
      refine wpAnyH_take (i := 4) (v := .int .i64 u) rfl (by kernel_rfl) (by kernel_rfl) (by kernel_rfl) (fun _ _ _ h => h) (Or.inl ⟨by rfl, fun w hw => by obtain ⟨x, rfl⟩ := hw; go_simp⟩) hS ?_
      try simp only [Act.put, List.setIfInBounds_toArray, List.set_cons_zero, List.set_cons_succ, List.getElem_toArray, List.getElem_cons_zero, List.getElem_cons_succ]
      refine wpAnyH_take (i := 5) (v := .int .i64 v) rfl (by kernel_rfl) (by kernel_rfl) (by kernel_rfl) (fun _ _ _ h => h) (Or.inl ⟨by rfl, fun w hw => by obtain ⟨x, rfl⟩ := hw; go_simp⟩) hS ?_
      try simp only [Act.put, List.setIfInBounds_toArray, List.set_cons_zero, List.set_cons_succ, List.getElem_toArray, List.getElem_cons_zero, List.getElem_cons_succ]
      refine wpAnyH_ready (rs := [6]) (by kernel_rfl) (by simp) ?_
      refine AllReadyH.cons rfl (fun K hK => ?_) AllReadyH.nil
      go_simp
      with_reducible refine (HRK.out _).mono ?_
      rintro e T ⟨rfl, hb⟩
      have BT := Lib.hid hb
      have GT := Lib.hid ((BT.out.block _ (RB_lt ZG.out)).trans ZG.out)
      have OT := Lib.hid ((onlyw_drew g Z).trans (onlyw_of hb (Nat.le_of_lt (RB_lt ZG.out))))
      have TG := Lib.hid (RB_lt GT.out)
      clear hb HRK
      refine hK.out _ _ ⟨⟨_, OT.out⟩, rfl⟩ (fun hS => ?_)
      clear hK K
      try simp only [Act.put, List.setIfInBounds_toArray, List.set_cons_zero, List.set_cons_succ, List.getElem_toArray, List.getElem_cons_zero, List.getElem_cons_succ]
      refine wpAnyH_ready (rs := [7]) (by kernel_rfl) (by simp) ?_
      refine AllReadyH.cons rfl (fun K hK => ?_) AllReadyH.nil
      go_simp
      have PT := Lib.hid (new_at1 T (.cells #[.int .i64 R] 3))
      have OT1 := Lib.hid (OT.out.trans (onlyw_of (new_below T (.cells #[.int .i64 R] 3)) (Nat.le_of_lt TG.out)))
      have GT1 := Lib.hid (new_keep (.cells #[.int .i64 R] 3) GT.out)
      refine hK.out _ _ ⟨⟨_, OT1.out⟩, rfl⟩ (fun hS => ?_)
      clear hK K
      try simp only [Act.put, List.setIfInBounds_toArray, List.set_cons_zero, List.set_cons_succ, List.getElem_toArray, List.getElem_cons_zero, List.getElem_cons_succ]
      refine wpAnyH_ready (rs := [8]) (by kernel_rfl) (by simp) ?_
      refine AllReadyH.cons rfl (fun K hK => ?_) AllReadyH.nil
      go_simp
      have htl := put_any d [R] T.heap.size 0 1 g L HL8.out HD8.out (T.alloc (.cells #[.int .i64 R] 3)) GT1.out (by have := TG.out; omega) (fun j u h => ints_at (t := 3) PT.out h)
      refine htl.mono ?_
      rintro e T2 ⟨rfl, ho, hb⟩
      have OT2 := Lib.hid (OT1.out.trans ho.w)
      have GT2 := Lib.hid hb
      clear ho hb htl
      refine hK.out _ _ ⟨⟨_, OT2.out⟩, rfl⟩ (fun hS => ?_)
      clear hK K
      try simp only [Act.put, List.setIfInBounds_toArray, List.set_cons_zero, List.set_cons_succ, List.getElem_toArray, List.getElem_cons_zero, List.getElem_cons_succ]
      refine wpAnyH_done (by kernel_rfl) ?_ _
      have I2 := Lib.hid (IZ.out.only HGW.out OT2.out GT2.out)
      have Q2 := Lib.hid (OT2.out.keep hqg QZ.out)
      clear OT1 GT1 TG yp x0 x1 x2 x3 x4 t0 t1 t2 hS OT2 OT GT GT2 IZ QZ ZG BT PT hwg
      obtain ⟨e0, e1, e2, e3, e4⟩ := inB_cell Q2.out
      have B21 := Lib.hid (show Below w.heap.size w T2 from I2.out.below)
      go_wp2_with (go_at_call 29; (with_reducible refine (HNX.out _).mono ?_); rintro e T3 ⟨rfl, hb⟩; have I3 := Lib.hid (I2.out.grow hb); clear hb)
      go_roundw
      case rel => exact ⟨m, f, s + 1, _, by go_num, by go_num, HMN.out.1, HMN.out.2.1, HMN.out.2.2.1, HST.out, HR2.out, I3.out⟩
      case measure => have := HMN.out.2.2.2; simp [intOf]; omega
    · obtain rfl : k = n := by omega
      have hfe := HFI.out
      rw [HFE.out _ _ _ _ (Nat.le_refl k)] at hfe
      have h8 := HRG.out.1
      have RG := Lib.hid HI.out.regs
      have BW := Lib.hid HI.out.below
      have RR := Lib.hid HI.out.res
      clear HFI HRG HI HFE HOK HL HE HP HTK HM
      subst hfe
      obtain ⟨l0, l1, l2, l3, l4, l5, l6, l7, hL8⟩ := len8 h8
      have E8 := Lib.hid hL8
      rw [hL8] at RG
      clear hL8
      obtain ⟨c0, c1, c2, c3, c4, c5, c6, c7⟩ := RB_cells RR.out
      obtain ⟨f0, f1, f2, f3, f4, f5, f6, f7⟩ := RB_frees RR.out
      obtain ⟨g0, g1, g2, g3, g4, g5, g6, g7⟩ := RB_cells RG.out
      go_wp2_with fail
      have hR := RB_set8 l0 l1 l2 l3 l4 l5 l6 l7 RR.out
      have hB := RB_put8 (l0 := l0) (l1 := l1) (l2 := l2) (l3 := l3) (l4 := l4) (l5 := l5) (l6 := l6) (l7 := l7) BW.out (show w.heap.size ≤ w.heap.size + 1 + 1 by omega)
      clear c0 c1 c2 c3 c4 c5 c6 c7 f0 f1 f2 f3 f4 f5 f6 f7 g0 g1 g2 g3 g4 g5 g6 g7 RR RG BW
      revert hR hB
      generalize ((((((((wr.setCell ⟨w.heap.size + 1 + 1, 0, none⟩ (.int .i64 l0)).setCell ⟨w.heap.size + 1 + 1, 1, none⟩ (.int .i64 l1)).setCell ⟨w.heap.size + 1 + 1, 2, none⟩ (.int .i64 l2)).setCell ⟨w.heap.size + 1 + 1, 3, none⟩ (.int .i64 l3)).setCell ⟨w.heap.size + 1 + 1, 4, none⟩ (.int .i64 l4)).setCell ⟨w.heap.size + 1 + 1, 5, none⟩ (.int .i64 l5)).setCell ⟨w.heap.size + 1 + 1, 6, none⟩ (.int .i64 l6)).setCell ⟨w.heap.size + 1 + 1, 7, none⟩ (.int .i64 l7)) = W4
      intro hR hB
      have HB := Lib.hid hB
      obtain ⟨c0, c1, c2, c3, c4, c5, c6, c7⟩ := RB_cells hR
      clear hB hR
      refine bodyPost_ret (v := .tuple #[.agg (regC [l0, l1, l2, l3, l4, l5, l6, l7]), .int .i64 s, .int .i64 0]) (by simp [results, Try.results11, go_sem, *]; rfl) rfl ⟨by rw [E8.out], HB.out⟩
end Go.Proofs.Ytehkcnmjkgelkaa
