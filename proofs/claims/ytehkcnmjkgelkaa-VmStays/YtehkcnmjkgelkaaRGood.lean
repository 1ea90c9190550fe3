/-
  The contract of the reference's Run of what may run.
-/
import Derived.Test.YtehkcnmjkgelkaaVGood
import Derived.Test.YtehkcnmjkgelkaaRBad
import Derived.Test.YtehkcnmjkgelkaaRSmooth
import Derived.Test.YtehkcnmjkgelkaaRValue
namespace Go.Proofs.Ytehkcnmjkgelkaa
open Go.RowKit C
attribute [local go_sem ↓] Go.wp_at_zero Go.wp_at_succ

theorem putL_keep : ∀ (xs : List Int) (L : List Int) (d k : Nat), d + xs.length ≤ k → (putL L d xs).getD k 0 = L.getD k 0
  | [], _, _, _, _ => rfl
  | x :: xs, L, d, k, h => by
    rw [putL, putL_keep xs _ (d + 1) k (by simp at h; omega)]
    simp only [List.getD_eq_getElem?_getD]
    rw [List.getElem?_set_ne (by simp at h; omega)]
theorem putL_col {c : Col} (h : c.ok) (L : List Int) (d : Nat) : putL L d (colL c) = (((L.set d c.r).set (d + 1) c.g).set (d + 2) c.b).set (d + 3) c.a := by
  obtain ⟨hr, hg, hb, ha⟩ := h
  simp only [colL, putL]
  rw [w32_id (by omega), w32_id (by omega), w32_id (by omega), w32_id (by omega)]
/-- What holds of the worlds within the loop of the reference's Run. -/
structure RunJ (w : World) (t : Tx) (B : Option Addr) (kc : Nat) (L : List Int) (wr : World) : Prop where
  below : Below w.heap.size w wr
  regs : wr.heap[w.heap.size + 1]? = some (RB L)
  res : wr.heap[w.heap.size + 1 + 1]? = some (RB zero8)
  tex : wr.heap[w.heap.size]? = some (txB t B kc)
theorem RunJ.grow {w : World} {t : Tx} {B : Option Addr} {kc : Nat} {L : List Int} {a b : World} (h : RunJ w t B kc L a) (hb : Below a.heap.size a b) : RunJ w t B kc L b :=
  ⟨bstep h.below h.below.size hb, (hb.block _ (RB_lt h.regs)).trans h.regs, (hb.block _ (RB_lt h.res)).trans h.res, txB_grow h.tex hb⟩
theorem RunJ.only {w : World} {t : Tx} {B : Option Addr} {kc : Nat} {L L2 : List Int} {a b : World} (h : RunJ w t B kc L a) (ho : Onlyw (w.heap.size + 1) a b) (hr : b.heap[w.heap.size + 1]? = some (RB L2)) : RunJ w t B kc L2 b :=
  ⟨h.below.trans (ho.below _ (by omega)), hr, ho.keep (by omega) h.res, ho.keep (by omega) h.tex⟩
theorem Onlyw.set {g : Nat} {a b : World} (h : Onlyw g a b) (o : Nat) (v : Value) : Onlyw g a (b.setCell ⟨g, o, none⟩ v) := h.trans ((Only.refl g b).setCell o v).w

theorem at1_keep {w : World} {h q : Nat} {o : Obj} (hq : q ≠ h) (e : w.heap[q]? = some o) (k : Nat) (v : Value) : (w.setCell ⟨h, k, none⟩ v).heap[q]? = some o := (heap_setCell_other _ _ _ _ hq).trans e
theorem put4_keep {w : World} {h q : Nat} {o : Obj} (hq : q ≠ h) (e : w.heap[q]? = some o) (a b c d : Value) :
    ((((w.setCell ⟨h, 0, none⟩ a).setCell ⟨h, 1, none⟩ b).setCell ⟨h, 2, none⟩ c).setCell ⟨h, 3, none⟩ d).heap[q]? = some o := by
  rw [heap_setCell_other _ _ _ _ hq, heap_setCell_other _ _ _ _ hq, heap_setCell_other _ _ _ _ hq, heap_setCell_other _ _ _ _ hq]
  exact e
theorem RunJ.put4 {w : World} {t : Tx} {B : Option Addr} {kc : Nat} {L : List Int} {x : World} {h : Nat} (i : RunJ w t B kc L x) (hh : w.heap.size + 1 + 1 < h) (a b c d : Value) :
    RunJ w t B kc L ((((x.setCell ⟨h, 0, none⟩ a).setCell ⟨h, 1, none⟩ b).setCell ⟨h, 2, none⟩ c).setCell ⟨h, 3, none⟩ d) :=
  ⟨(((i.below.setCell (p := ⟨h, 0, none⟩) (by show w.heap.size ≤ h; omega) a).setCell (p := ⟨h, 1, none⟩) (by show w.heap.size ≤ h; omega) b).setCell (p := ⟨h, 2, none⟩) (by show w.heap.size ≤ h; omega) c).setCell (p := ⟨h, 3, none⟩) (by show w.heap.size ≤ h; omega) d,
    put4_keep (by omega) i.regs a b c d, put4_keep (by omega) i.res a b c d, put4_keep (by omega) i.tex a b c d⟩
set_option maxRecDepth 100000 in
set_option maxHeartbeats 8000000 in
theorem rrun_good (l : List In) (A : Option Addr) (c : Nat) (t : Tx) (B : Option Addr) (kc : Nat) (r0 r1 r2 r3 r4 r5 r6 r7 : Int) (hok : ∀ x ∈ l, x.ok) (ht : t.ok) (hR : ∀ v ∈ [r0, r1, r2, r3, r4, r5, r6, r7], I64 v) (w : World) (he : Es EI w w.heap.size A l) (hp : Es EC w w.heap.size B t.px) (hc : chkT l t = 0) (hc2 : chk l = 0) :
    Calls Try.prog 12 #[.slice A l.length c, .agg #[.int .i64 t.w, .int .i64 t.h, .slice B t.px.length kc], .agg #[.int .i64 r0, .int .i64 r1, .int .i64 r2, .int .i64 r3, .int .i64 r4, .int .i64 r5, .int .i64 r6, .int .i64 r7]] w fun e w' => e = .returned (.tuple #[.agg (regC (fin l t l.length 0 ([r0, r1, r2, r3, r4, r5, r6, r7].map w32) 0).1), .int .i64 (fin l t l.length 0 ([r0, r1, r2, r3, r4, r5, r6, r7].map w32) 0).2, .int .i64 0]) ∧ Below w.heap.size w w' := by
  obtain ⟨hl1, hl2, hone⟩ := chk_ok hc2
  have hs : (l.any tex && !t.right) = false := by
    unfold chkT at hc
    rw [if_neg (by omega)] at hc
    by_cases e : l.any tex = true ∧ t.right = false
    · rw [if_pos e] at hc; omega
    · cases h1 : l.any tex <;> cases h2 : t.right <;> simp_all
  have HC := Lib.hid (fun w (h : Es EI w w.heap.size A l) => rcheck_any l A c hok w h)
  rw [hc2] at HC
  have HS := Lib.hid (fun w (e : Es EI w w.heap.size A l) => rsamples_any l A c (by omega) w e)
  have HR := Lib.hid (rright_tex t B kc)
  have HE := Lib.hid he
  have HP := Lib.hid hp
  have HOK := Lib.hid (fun (k : Nat) x (h : l[k]? = some x) => And.intro (hok x (List.mem_of_getElem? h)) (hone k x h))
  have HTK := Lib.hid ht
  have HM := Lib.hid (map_reg (xs := [r0, r1, r2, r3, r4, r5, r6, r7]) rfl)
  have HL := Lib.hid (fun (k : Nat) (h : k < l.length) => get_lt h)
  have hG : ∀ j : Nat, j < 8 → ∃ u, [r0, r1, r2, r3, r4, r5, r6, r7][j]? = some u ∧ I64 u := by
    intro j hj
    have hj' : j < [r0, r1, r2, r3, r4, r5, r6, r7].length := hj
    exact ⟨_, List.getElem?_eq_getElem hj', hR _ (List.getElem_mem hj')⟩
  have HG := Lib.hid hG
  have HSN := Lib.hid (fun (j : Nat) (u : Int) (h : [r0, r1, r2, r3, r4, r5, r6, r7][j]? = some u) => And.intro (putL_snoc [r0, r1, r2, r3, r4, r5, r6, r7] [r0, r1, r2, r3, r4, r5, r6, r7] 0 j u h) (show (putL [r0, r1, r2, r3, r4, r5, r6, r7] 0 ([r0, r1, r2, r3, r4, r5, r6, r7].take j)).getD j 0 = u by
    rw [putL_keep _ _ _ _ (by simp; omega), List.getD_eq_getElem?_getD, h]; rfl))
  have HLN := Lib.hid (fun (j : Nat) => show (putL [r0, r1, r2, r3, r4, r5, r6, r7] 0 ([r0, r1, r2, r3, r4, r5, r6, r7].take j)).length = 8 from putL_length _ _ _)
  have e8 : putL [r0, r1, r2, r3, r4, r5, r6, r7] 0 ([r0, r1, r2, r3, r4, r5, r6, r7].take 8) = [r0, r1, r2, r3, r4, r5, r6, r7].map w32 := rfl
  obtain ⟨M, hM⟩ : ∃ M, [r0, r1, r2, r3, r4, r5, r6, r7].map w32 = M := ⟨_, rfl⟩
  rw [hM] at HM e8 ⊢
  have HE8 := Lib.hid e8
  obtain ⟨F, hF⟩ : ∃ F, fin l t l.length 0 M 0 = F := ⟨_, rfl⟩
  rw [hF]
  have HF := Lib.hid hF
  have HFE := Lib.hid (fun f k L s => fin_end (l := l) (t := t) (f := f) (k := k) (L := L) (s := s))
  obtain ⟨sm, hsm⟩ : ∃ sm, l.any tex = sm := ⟨_, rfl⟩
  obtain ⟨rt, hrt⟩ : ∃ rt, t.right = rt := ⟨_, rfl⟩
  rw [hsm] at HS hs
  rw [hrt] at HR hs
  clear he hp hok ht hone hc hc2 hF hM hR e8 hG hsm hrt
  obtain ⟨n, hn⟩ : ∃ n, l.length = n := ⟨_, rfl⟩
  rw [hn] at HC HS HL HFE HF hl1 hl2 HOK ⊢
  clear hn
  have hb3 : Below w.heap.size w (((w.alloc (.cells #[.int .i64 t.w, .int .i64 t.h, .slice B t.px.length kc] 25)).alloc (.cells #[.int .i64 r0, .int .i64 r1, .int .i64 r2, .int .i64 r3, .int .i64 r4, .int .i64 r5, .int .i64 r6, .int .i64 r7] 26)).alloc (.cells #[.int .i64 0, .int .i64 0, .int .i64 0, .int .i64 0, .int .i64 0, .int .i64 0, .int .i64 0, .int .i64 0] 26)) := ((new_below _ _).alloc (by simp) _).alloc (by simp; omega) _
  have HB3 := Lib.hid hb3
  have HE3 := Lib.hid (HE.out.up hb3)
  clear hb3
  have HJ := Lib.hid (show RunJ w t B kc [r0, r1, r2, r3, r4, r5, r6, r7] (((w.alloc (.cells #[.int .i64 t.w, .int .i64 t.h, .slice B t.px.length kc] 25)).alloc (.cells #[.int .i64 r0, .int .i64 r1, .int .i64 r2, .int .i64 r3, .int .i64 r4, .int .i64 r5, .int .i64 r6, .int .i64 r7] 26)).alloc (.cells #[.int .i64 0, .int .i64 0, .int .i64 0, .int .i64 0, .int .i64 0, .int .i64 0, .int .i64 0, .int .i64 0] 26)) from ⟨HB3.out, new_keep _ (new_at2 w _ _), new_at3 w _ _ _, new_keep _ (new_at20 w _ _)⟩)
  go_enter Try.func12, Try.ntmps12
  go_upto_region 5 with (first
    | (go_at_call 30; (with_reducible refine (HC.out _ HE3.out).mono ?_); rintro e w1 ⟨rfl, hb⟩; have J1 := Lib.hid (HJ.out.grow hb); have HE1 := Lib.hid (HE3.out.up hb); clear hb)
    | (go_at_call 31; (with_reducible refine (HS.out _ HE1.out).mono ?_); rintro e w2 ⟨rfl, hb⟩; have J2 := Lib.hid (J1.out.grow hb); obtain ⟨d0, d1, d2⟩ := txB_cell J2.out.tex; clear hb)
    | (go_at_call 32; (with_reducible refine (HR.out _).mono ?_); rintro e w3 ⟨rfl, hb⟩; have J3 := Lib.hid (J2.out.grow hb); clear hb))
  clear d0 d1 d2 HJ J1 J2 HE1 HE3 HB3 HC HS HR
  go_cut [31] from 27 to 31 (fun s wc => s = .bool false ∧ w3 = wc)
  case first =>
    cases sm
    · cases rt
      all_goals
        go_wp2_with fail
        go_meet
        case rel => exact ⟨rfl, rfl⟩
    · cases rt
      · simp at hs
      · go_wp2_with fail
        go_meet
        case rel => exact ⟨rfl, rfl⟩
  obtain ⟨rfl, rfl⟩ := hcut
  clear hs
  go_wp2_with fail
  have J4 := Lib.hid J3.out
  go_loopw [11] (fun i wr => ∃ j : Nat, j ≤ 8 ∧ i = .int .i64 j ∧ RunJ w t B kc (putL [r0, r1, r2, r3, r4, r5, r6, r7] 0 ([r0, r1, r2, r3, r4, r5, r6, r7].take j)) wr) (fun i _ => 8 - (intOf i).toNat)
  case atStart => exact ⟨0, by omega, rfl, J4.out⟩
  case round =>
    clear J4 J3
    obtain ⟨j, hj, rfl, hI⟩ := hrel
    have HI := Lib.hid hI
    clear hI
    by_cases hlt : j < 8
    · obtain ⟨u, hu, hu2⟩ := HG.out j hlt
      obtain ⟨hs1, hs2⟩ := HSN.out j u hu
      have HW := Lib.hid (fun w' => rwrap32_any u hu2 w')
      have HSS := Lib.hid hs1
      have hlen := HLN.out j
      have hcell := RB_cell HI.out.regs (k := j) (by omega)
      rw [hs2] at hcell
      clear hs1 hs2 hu hu2
      obtain ⟨v, hv⟩ : ∃ v, w32 u = v := ⟨_, rfl⟩
      rw [hv] at HW HSS
      have hf := RB_free HI.out.regs j
      have hblk := RB_set (k := j) v HI.out.regs
      have HJ := Lib.hid (HI.out.only ((onlyw_refl (w.heap.size + 1) wr).set j (.int .i64 v)) hblk)
      have hlt' : (j : Int) < 8 := by omega
      clear hblk hv
      rw [Nat.zero_add] at HSS
      generalize putL [r0, r1, r2, r3, r4, r5, r6, r7] 0 ([r0, r1, r2, r3, r4, r5, r6, r7].take j) = LL at *
      go_wp2_with (go_at_call 33; (with_reducible refine (HW.out _).mono ?_); rintro e w4 ⟨rfl, rfl⟩)
      go_roundw
      case rel => exact ⟨j + 1, by omega, by go_num, by rw [HSS.out]; exact HJ.out⟩
      case measure => simp [intOf]; omega
    · have hj8 : j = 8 := by omega
      have hji := HI.out
      rw [hj8, HE8.out] at hji
      have HJ8 := Lib.hid hji
      have hlt' : ¬ (j : Int) < 8 := by omega
      clear HI HSN HLN HG HE8 hj8 hji hj
      go_wp2_with fail
      have HM2 := Lib.hid HM.out
      go_loopw [12, 13] (fun st i wq => ∃ (k f s : Nat) (L : List Int), i = .int .i64 k ∧ st = .int .i64 s ∧ k ≤ n ∧ s ≤ k ∧ n - k ≤ f ∧ fin l t f k L s = F ∧ Reg L ∧ RunJ w t B kc L wq) (fun _ i _ => n - (intOf i).toNat)
      case atStart => exact ⟨0, n, 0, M, rfl, rfl, Nat.zero_le _, Nat.le_refl _, Nat.le_refl _, HF.out, HM2.out, HJ8.out⟩
      case round =>
        rename World => wq
        clear HF HM HM2 HJ8
        obtain ⟨k, f, s, L, rfl, rfl, hk, hs, hf, hfin, hreg, hI⟩ := hrel
        have HI := Lib.hid hI
        have HFI := Lib.hid hfin
        have HRG := Lib.hid hreg
        clear hI hfin hreg
        by_cases hlt : k < n
        · obtain ⟨x, hx⟩ := HL.out k hlt
          obtain ⟨xok, x1⟩ := HOK.out k x hx
          obtain ⟨b0, off, rfl, hb0, hat⟩ := HE.out.at hx
          have hat2 := show AtE EI wq b0 (off + k * 5) x from hat.below HI.out.below hb0
          have hbw := Nat.lt_of_lt_of_le hb0 HI.out.below.size
          obtain ⟨f, rfl⟩ : ∃ f', f = f' + 1 := ⟨f - 1, by omega⟩
          have hst := HFI.out.symm.trans (fin_step hx)
          clear hb0 hat hx
          obtain ⟨o, di, ai, bi, N⟩ := x
          obtain ⟨hd, ha, hb, hd4, -, -, h12, -⟩ := one_in xok x1
          have xok2 := xok
          obtain ⟨⟨o0, o1⟩, ⟨d0, -⟩, ⟨a0, -⟩, ⟨b0', -⟩, -⟩ := xok2
          dsimp only at hd ha hb hd4 o0 o1 d0 a0 b0' h12
          obtain ⟨d, rfl⟩ : ∃ d : Nat, di = d := ⟨di.toNat, by omega⟩
          obtain ⟨a, rfl⟩ : ∃ a : Nat, ai = a := ⟨ai.toNat, by omega⟩
          obtain ⟨b, rfl⟩ : ∃ b : Nat, bi = b := ⟨bi.toNat, by omega⟩
          obtain ⟨c0, c1, c2, c3, c4⟩ := atI hat2
          have ha8 : a < 8 := by omega
          have hb8 : b < 8 := by omega
          have XOK := Lib.hid xok
          have X1 := Lib.hid x1
          obtain ⟨u, hu⟩ : ∃ u, ra ⟨o, d, a, b, N⟩ L = u := ⟨_, rfl⟩
          obtain ⟨v, hv⟩ : ∃ v, rb ⟨o, d, a, b, N⟩ L = v := ⟨_, rfl⟩
          have hui : I32 u := hu ▸ HRG.out.at a
          have hvi : I32 v := hv ▸ HRG.out.at b
          have HU := Lib.hid hui
          have HV := Lib.hid hvi
          rw [hu] at hst
          have HNXL := Lib.hid (nxt_le xok x1 (by omega) u)
          have hnx : o = 12 ∧ u ≠ 0 → tgt ⟨o, d, a, b, N⟩ k = (nxt ⟨o, d, a, b, N⟩ k u : Nat) := by
            intro h
            unfold tgt nxt
            rw [if_pos h.1, if_pos h]
            have := h12 h.1
            dsimp only
            omega
          have hnt := fun (h : o = 12 ∧ u ≠ 0) W => rtarget_any ⟨o, d, a, b, N⟩ k (by omega) (by intro e; have := h12 e; dsimp only; omega) W
          have hm1 : ¬ (o = 12 ∧ u ≠ 0) → nxt ⟨o, d, a, b, N⟩ k u = k + 1 := fun h => if_neg h
          obtain ⟨m, hm⟩ : ∃ m, nxt ⟨o, d, a, b, N⟩ k u = m := ⟨_, rfl⟩
          have hgt := nxt_gt ⟨o, d, a, b, N⟩ k u
          rw [hm] at hst HNXL hgt hnx hm1
          have HNX := Lib.hid (fun (h : o = 12 ∧ u ≠ 0) W => by have e := hnt h W; rw [hnx h] at e; exact e)
          have HM1 := Lib.hid hm1
          have HMN := Lib.hid (show m ≤ n ∧ s + 1 ≤ m ∧ n - m ≤ f ∧ k + 1 ≤ m by have := HNXL.out; omega)
          have HR := Lib.hid (stepR_reg t ⟨o, d, a, b, N⟩ HRG.out)
          have hstp := stepR_eq t ⟨o, d, a, b, N⟩ L
          rw [hu, hv] at hstp
          obtain ⟨L2, hL2⟩ : ∃ L2, stepR t ⟨o, d, a, b, N⟩ L = L2 := ⟨_, rfl⟩
          rw [hL2] at hst HR hstp
          have HST := Lib.hid hst.symm
          have HR2 := Lib.hid HR.out
          have hca : wq.cell? ⟨w.heap.size + 1, a, none⟩ = some (.int .i64 u) := hu ▸ RB_cell HI.out.regs (by rw [HRG.out.1]; exact ha8)
          have hcb : wq.cell? ⟨w.heap.size + 1, b, none⟩ = some (.int .i64 v) := hv ▸ RB_cell HI.out.regs (by rw [HRG.out.1]; exact hb8)
          have HSTEP := Lib.hid hstp
          have hd8 : d ≤ 7 := by omega
          have hd4 := Lib.hid hd4
          clear xok x1 hat2 hui hvi hst hstp hm hgt hu hv hL2 HR HNXL hd ha hb d0 a0 b0' hnx hnt hm1 h12
          have QY := Lib.hid (show (wq.alloc (.cells #[.int .u8 o, .int .u8 d, .int .u8 a, .int .u8 b, .int .i64 N] 45)).heap[wq.heap.size]? = some (inB ⟨o, d, a, b, N⟩) from new_at1 _ _)
          have IY := Lib.hid (HI.out.grow (new_below wq (.cells #[.int .u8 o, .int .u8 d, .int .u8 a, .int .u8 b, .int .i64 N] 45)))
          have hgq := RB_lt HI.out.regs
          have ca := new_cell (.cells #[.int .u8 o, .int .u8 d, .int .u8 a, .int .u8 b, .int .i64 N] 45) hca
          have cb := new_cell (.cells #[.int .u8 o, .int .u8 d, .int .u8 a, .int .u8 b, .int .i64 N] 45) hcb
          go_upto_region 15 with fail
          clear c0 c1 c2 c3 c4 hca hcb HI
          generalize wq.alloc (.cells #[.int .u8 o, .int .u8 d, .int .u8 a, .int .u8 b, .int .i64 N] 45) = Y at *
          generalize wq.heap.size = q at *
          have hqg : q ≠ w.heap.size + 1 := by omega
          obtain ⟨y0, y1, y2, y3, y4⟩ := inB_cell QY.out
          obtain ⟨t0, t1, t2⟩ := txB_cell IY.out.tex
          rcases Classical.em (o = 12) with e12 | e12
          · skip
            subst e12
            clear o0 o1
            obtain rfl : L2 = L := by have h := HSTEP.out; rw [if_pos rfl] at h; exact h
            have I3 := Lib.hid IY.out
            clear HSTEP HRG IY hd4
            rcases Classical.em (u = 0) with e0 | e0
            · skip
              obtain rfl : m = k + 1 := HM1.out (fun h => h.2 e0)
              subst e0
              clear HM1 HNX HU
              go_wp2_with fail
              go_roundw
              case rel => exact ⟨_, f, s + 1, _, by go_num, by go_num, HMN.out.1, HMN.out.2.1, HMN.out.2.2.1, HST.out, HR2.out, I3.out⟩
              case measure => have := HMN.out.2.2.2; simp [intOf]; omega
            have hu0 : (u == 0) = false := by simpa using e0
            have HT := Lib.hid (HNX.out ⟨rfl, e0⟩)
            clear HM1 HNX HU e0
            go_wp2_with (go_at_call 34; (with_reducible refine (HT.out _).mono ?_); rintro e T ⟨rfl, hb⟩; have I4 := Lib.hid (I3.out.grow hb); clear hb)
            go_roundw
            case rel => exact ⟨_, f, s + 1, _, by go_num, by go_num, HMN.out.1, HMN.out.2.1, HMN.out.2.2.1, HST.out, HR2.out, I4.out⟩
            case measure => have := HMN.out.2.2.2; simp [intOf]; omega
          rcases Classical.em (o = 13) with e13 | e13
          · skip
            subst e13
            clear o0 o1 e12
            have hs2 := HSTEP.out
            rw [if_neg (show ¬ (13 : Int) = 12 by decide), if_pos rfl] at hs2
            obtain ⟨col, hcol⟩ : ∃ col, t.near u v = col := ⟨_, rfl⟩
            have hcok : col.ok := hcol ▸ Tx.at_ok HTK.out _ _
            rw [hcol] at hs2
            have HL2 := Lib.hid (hs2.trans (show putL L d (colL col) = _ from putL_col hcok L d))
            have HCOK := Lib.hid hcok
            have hd4 := hd4.out (.inl rfl)
            obtain rfl : m = k + 1 := HM1.out (fun h => absurd h.1 (show ¬ (13 : Int) = 12 by decide))
            have ESY := Lib.hid (HP.out.up IY.out.below)
            have hcall := fun W (h : Es EC W W.heap.size B t.px) => rnear_any t B kc u v (by have := HU.out; unfold Far; omega) (by have := HV.out; unfold Far; omega) W h
            rw [hcol] at hcall
            have HCALL := Lib.hid hcall
            clear hcol hcall hcok hs2 HSTEP HM1 HNX HU HV
            go_upto_region 27 with (go_at_call 20; (with_reducible refine (HCALL.out _ ESY.out).mono ?_); rintro e T ⟨rfl, hb⟩; have I0 := Lib.hid (IY.out.grow hb); have Q0 := Lib.hid ((hb.block _ (Array.getElem?_eq_some_iff.1 QY.out).1).trans QY.out); have hgT := RB_lt I0.out.regs; have hrT := RB_lt I0.out.res; have hqT := (Array.getElem?_eq_some_iff.1 Q0.out).1; clear hb)
            have C1 := Lib.hid (show (T.alloc (.cells #[.int .u8 col.r, .int .u8 col.g, .int .u8 col.b, .int .u8 col.a] 38)).heap[T.heap.size]? = some (colB col) from new_at1 _ _)
            have I1 := Lib.hid (I0.out.grow (new_below T (.cells #[.int .u8 col.r, .int .u8 col.g, .int .u8 col.b, .int .u8 col.a] 38)))
            have Q1 := Lib.hid (new_keep (.cells #[.int .u8 col.r, .int .u8 col.g, .int .u8 col.b, .int .u8 col.a] 38) Q0.out)
            clear I0 Q0 IY QY y0 y1 y2 y3 y4 ca cb ESY HCALL t0 t1 t2
            generalize T.alloc (.cells #[.int .u8 col.r, .int .u8 col.g, .int .u8 col.b, .int .u8 col.a] 38) = T1 at *
            generalize T.heap.size = h at *
            have hhg : h ≠ w.heap.size + 1 := by omega
            have HLL := Lib.hid HRG.out.1
            clear HRG
            obtain ⟨LL, hLL⟩ : ∃ LL, L = LL := ⟨_, rfl⟩
            rw [hLL] at HLL I1 HL2
            clear hLL
            have lc := RB_cell I1.out.regs (k := d) (by have := HLL.out; omega)
            have lf := RB_free I1.out.regs (d)
            have x0 := (inB_cell Q1.out).1
            have x1 := (inB_cell Q1.out).2.1
            have cf := (colB_cell C1.out).1
            have I2 := Lib.hid (I1.out.only ((onlyw_refl (w.heap.size + 1) T1).set (d) (.int .i64 col.r)) (RB_set (k := d) col.r I1.out.regs))
            have Q2 := Lib.hid (at1_keep hqg Q1.out (d) (.int .i64 col.r))
            have C2 := Lib.hid (at1_keep hhg C1.out (d) (.int .i64 col.r))
            have HLL2 := Lib.hid (show (LL.set (d) col.r).length = 8 by rw [List.length_set]; exact HLL.out)
            generalize LL.getD (d) 0 = z at *
            obtain ⟨v0, v1⟩ := HCOK.out.1
            go_upto_region 30 with fail
            clear lc lf x0 x1 cf I1 Q1 C1 HLL v0 v1
            generalize T1.setCell ⟨w.heap.size + 1, d, none⟩ (.int .i64 col.r) = T1 at *
            have I1 := I2
            have Q1 := Q2
            have C1 := C2
            have HLL := HLL2
            clear I2 Q2 C2 HLL2
            generalize LL.set (d) col.r = LL at *
            have lc := RB_cell I1.out.regs (k := d + 1) (by have := HLL.out; omega)
            have lf := RB_free I1.out.regs (d + 1)
            have x0 := (inB_cell Q1.out).1
            have x1 := (inB_cell Q1.out).2.1
            have cf := (colB_cell C1.out).2.1
            have I2 := Lib.hid (I1.out.only ((onlyw_refl (w.heap.size + 1) T1).set (d + 1) (.int .i64 col.g)) (RB_set (k := d + 1) col.g I1.out.regs))
            have Q2 := Lib.hid (at1_keep hqg Q1.out (d + 1) (.int .i64 col.g))
            have C2 := Lib.hid (at1_keep hhg C1.out (d + 1) (.int .i64 col.g))
            have HLL2 := Lib.hid (show (LL.set (d + 1) col.g).length = 8 by rw [List.length_set]; exact HLL.out)
            generalize LL.getD (d + 1) 0 = z at *
            have wk : IntKind.u8.wrap ((d : Int) + 1) = ((d + 1 : Nat) : Int) := by rw [IntKind.wrap_u8]; omega
            obtain ⟨v0, v1⟩ := HCOK.out.2.1
            go_upto_region 31 with fail
            clear lc lf x0 x1 cf I1 Q1 C1 HLL v0 v1 wk
            generalize T1.setCell ⟨w.heap.size + 1, d + 1, none⟩ (.int .i64 col.g) = T1 at *
            have I1 := I2
            have Q1 := Q2
            have C1 := C2
            have HLL := HLL2
            clear I2 Q2 C2 HLL2
            generalize LL.set (d + 1) col.g = LL at *
            have lc := RB_cell I1.out.regs (k := d + 2) (by have := HLL.out; omega)
            have lf := RB_free I1.out.regs (d + 2)
            have x0 := (inB_cell Q1.out).1
            have x1 := (inB_cell Q1.out).2.1
            have cf := (colB_cell C1.out).2.2.1
            have I2 := Lib.hid (I1.out.only ((onlyw_refl (w.heap.size + 1) T1).set (d + 2) (.int .i64 col.b)) (RB_set (k := d + 2) col.b I1.out.regs))
            have Q2 := Lib.hid (at1_keep hqg Q1.out (d + 2) (.int .i64 col.b))
            have C2 := Lib.hid (at1_keep hhg C1.out (d + 2) (.int .i64 col.b))
            have HLL2 := Lib.hid (show (LL.set (d + 2) col.b).length = 8 by rw [List.length_set]; exact HLL.out)
            generalize LL.getD (d + 2) 0 = z at *
            have wk : IntKind.u8.wrap ((d : Int) + 2) = ((d + 2 : Nat) : Int) := by rw [IntKind.wrap_u8]; omega
            obtain ⟨v0, v1⟩ := HCOK.out.2.2.1
            go_upto_region 32 with fail
            clear lc lf x0 x1 cf I1 Q1 C1 HLL v0 v1 wk
            generalize T1.setCell ⟨w.heap.size + 1, d + 2, none⟩ (.int .i64 col.b) = T1 at *
            have I1 := I2
            have Q1 := Q2
            have C1 := C2
            have HLL := HLL2
            clear I2 Q2 C2 HLL2
            generalize LL.set (d + 2) col.b = LL at *
            have lc := RB_cell I1.out.regs (k := d + 3) (by have := HLL.out; omega)
            have lf := RB_free I1.out.regs (d + 3)
            have x0 := (inB_cell Q1.out).1
            have x1 := (inB_cell Q1.out).2.1
            have cf := (colB_cell C1.out).2.2.2
            have I2 := Lib.hid (I1.out.only ((onlyw_refl (w.heap.size + 1) T1).set (d + 3) (.int .i64 col.a)) (RB_set (k := d + 3) col.a I1.out.regs))
            have Q2 := Lib.hid (at1_keep hqg Q1.out (d + 3) (.int .i64 col.a))
            have C2 := Lib.hid (at1_keep hhg C1.out (d + 3) (.int .i64 col.a))
            have HLL2 := Lib.hid (show (LL.set (d + 3) col.a).length = 8 by rw [List.length_set]; exact HLL.out)
            generalize LL.getD (d + 3) 0 = z at *
            have wk : IntKind.u8.wrap ((d : Int) + 3) = ((d + 3 : Nat) : Int) := by rw [IntKind.wrap_u8]; omega
            obtain ⟨v0, v1⟩ := HCOK.out.2.2.2
            clear I1 Q1 C1 HLL Q2 C2 HLL2
            go_wp2_with fail
            have I3 := Lib.hid I2.out
            rw [← HL2.out] at I3
            go_roundw
            case rel => exact ⟨_, f, s + 1, _, by go_num, by go_num, HMN.out.1, HMN.out.2.1, HMN.out.2.2.1, HST.out, HR2.out, I3.out⟩
            case measure => have := HMN.out.2.2.2; simp [intOf]; omega
          rcases Classical.em (o = 14) with e14 | e14
          · skip
            subst e14
            clear o0 o1 e12 e13
            have hs2 := HSTEP.out
            rw [if_neg (show ¬ (14 : Int) = 12 by decide), if_neg (show ¬ (14 : Int) = 13 by decide), if_pos rfl] at hs2
            obtain ⟨col, hcol⟩ : ∃ col, t.smooth u v = col := ⟨_, rfl⟩
            have hcok : col.ok := hcol ▸ Tx.smooth_ok HTK.out _ _
            rw [hcol] at hs2
            have HL2 := Lib.hid (hs2.trans (show putL L d (colL col) = _ from putL_col hcok L d))
            have HCOK := Lib.hid hcok
            have hd4 := hd4.out (.inr rfl)
            obtain rfl : m = k + 1 := HM1.out (fun h => absurd h.1 (show ¬ (14 : Int) = 12 by decide))
            have ESY := Lib.hid (HP.out.up IY.out.below)
            have hcall2 := fun W (h : Es EC W W.heap.size B t.px) => rsmooth_any t HTK.out B kc u v (by have := HU.out; unfold Far; omega) (by have := HV.out; unfold Far; omega) W h
            rw [hcol] at hcall2
            have HCALL2 := Lib.hid hcall2
            obtain ⟨cc, hcc⟩ : ∃ cc, t.near u v = cc := ⟨_, rfl⟩
            have hcall := fun W (h : Es EC W W.heap.size B t.px) => rnear_any t B kc u v (by have := HU.out; unfold Far; omega) (by have := HV.out; unfold Far; omega) W h
            rw [hcc] at hcall
            have HCALL := Lib.hid hcall
            clear hcol hcall hcall2 hcc hcok hs2 HSTEP HM1 HNX HU HV
            go_upto_region 27 with (go_at_call 20; (with_reducible refine (HCALL.out _ ESY.out).mono ?_); rintro e T ⟨rfl, hb⟩; have I0 := Lib.hid (IY.out.grow hb); have Q0 := Lib.hid ((hb.block _ (Array.getElem?_eq_some_iff.1 QY.out).1).trans QY.out); have hgT := RB_lt I0.out.regs; have hrT := RB_lt I0.out.res; have hqT := (Array.getElem?_eq_some_iff.1 Q0.out).1; clear hb)
            have C1 := Lib.hid (show (T.alloc (.cells #[.int .u8 cc.r, .int .u8 cc.g, .int .u8 cc.b, .int .u8 cc.a] 38)).heap[T.heap.size]? = some (colB cc) from new_at1 _ _)
            have I1 := Lib.hid (I0.out.grow (new_below T (.cells #[.int .u8 cc.r, .int .u8 cc.g, .int .u8 cc.b, .int .u8 cc.a] 38)))
            have Q1 := Lib.hid (new_keep (.cells #[.int .u8 cc.r, .int .u8 cc.g, .int .u8 cc.b, .int .u8 cc.a] 38) Q0.out)
            clear I0 Q0 IY QY y0 y1 y2 y3 y4 ca cb ESY HCALL t0 t1 t2
            generalize T.alloc (.cells #[.int .u8 cc.r, .int .u8 cc.g, .int .u8 cc.b, .int .u8 cc.a] 38) = T1 at *
            generalize T.heap.size = h at *
            have hhg : h ≠ w.heap.size + 1 := by omega
            have ES1 := Lib.hid (HP.out.up I1.out.below)
            obtain ⟨t0, t1, t2⟩ := txB_cell I1.out.tex
            obtain ⟨x0, x1, x2, x3, x4⟩ := inB_cell Q1.out
            go_upto_region 29 with (go_at_call 21; (with_reducible refine (HCALL2.out _ ES1.out).mono ?_); rintro e T2 ⟨rfl, hb⟩; have I5 := Lib.hid (I1.out.grow hb); have Q5 := Lib.hid ((hb.block _ (Array.getElem?_eq_some_iff.1 Q1.out).1).trans Q1.out); have C5 := Lib.hid ((hb.block _ (Array.getElem?_eq_some_iff.1 C1.out).1).trans C1.out); obtain ⟨c0, c1, c2, c3⟩ := colB_cell C5.out; obtain ⟨f0, f1, f2, f3⟩ := colB_free C5.out; clear hb)
            have C6 := colB_set col C5.out
            have hqh : q ≠ h := by omega
            have I6 := I5.out.put4 (h := h) (by omega) (.int .u8 col.r) (.int .u8 col.g) (.int .u8 col.b) (.int .u8 col.a)
            have Q6 := put4_keep hqh Q5.out (.int .u8 col.r) (.int .u8 col.g) (.int .u8 col.b) (.int .u8 col.a)
            clear I1 Q1 C1 I5 Q5 C5 c0 c1 c2 c3 f0 f1 f2 f3 x0 x1 x2 x3 x4 t0 t1 t2 ES1 HCALL2
            generalize (((T2.setCell ⟨h, 0, none⟩ (.int .u8 col.r)).setCell ⟨h, 1, none⟩ (.int .u8 col.g)).setCell ⟨h, 2, none⟩ (.int .u8 col.b)).setCell ⟨h, 3, none⟩ (.int .u8 col.a) = T1 at *
            have I1 := Lib.hid I6
            have Q1 := Lib.hid Q6
            have C1 := Lib.hid C6
            clear I6 Q6 C6
            have HLL := Lib.hid HRG.out.1
            clear HRG
            obtain ⟨LL, hLL⟩ : ∃ LL, L = LL := ⟨_, rfl⟩
            rw [hLL] at HLL I1 HL2
            clear hLL
            have lc := RB_cell I1.out.regs (k := d) (by have := HLL.out; omega)
            have lf := RB_free I1.out.regs (d)
            have x0 := (inB_cell Q1.out).1
            have x1 := (inB_cell Q1.out).2.1
            have cf := (colB_cell C1.out).1
            have I2 := Lib.hid (I1.out.only ((onlyw_refl (w.heap.size + 1) T1).set (d) (.int .i64 col.r)) (RB_set (k := d) col.r I1.out.regs))
            have Q2 := Lib.hid (at1_keep hqg Q1.out (d) (.int .i64 col.r))
            have C2 := Lib.hid (at1_keep hhg C1.out (d) (.int .i64 col.r))
            have HLL2 := Lib.hid (show (LL.set (d) col.r).length = 8 by rw [List.length_set]; exact HLL.out)
            generalize LL.getD (d) 0 = z at *
            obtain ⟨v0, v1⟩ := HCOK.out.1
            go_upto_region 30 with fail
            clear lc lf x0 x1 cf I1 Q1 C1 HLL v0 v1
            generalize T1.setCell ⟨w.heap.size + 1, d, none⟩ (.int .i64 col.r) = T1 at *
            have I1 := I2
            have Q1 := Q2
            have C1 := C2
            have HLL := HLL2
            clear I2 Q2 C2 HLL2
            generalize LL.set (d) col.r = LL at *
            have lc := RB_cell I1.out.regs (k := d + 1) (by have := HLL.out; omega)
            have lf := RB_free I1.out.regs (d + 1)
            have x0 := (inB_cell Q1.out).1
            have x1 := (inB_cell Q1.out).2.1
            have cf := (colB_cell C1.out).2.1
            have I2 := Lib.hid (I1.out.only ((onlyw_refl (w.heap.size + 1) T1).set (d + 1) (.int .i64 col.g)) (RB_set (k := d + 1) col.g I1.out.regs))
            have Q2 := Lib.hid (at1_keep hqg Q1.out (d + 1) (.int .i64 col.g))
            have C2 := Lib.hid (at1_keep hhg C1.out (d + 1) (.int .i64 col.g))
            have HLL2 := Lib.hid (show (LL.set (d + 1) col.g).length = 8 by rw [List.length_set]; exact HLL.out)
            generalize LL.getD (d + 1) 0 = z at *
            have wk : IntKind.u8.wrap ((d : Int) + 1) = ((d + 1 : Nat) : Int) := by rw [IntKind.wrap_u8]; omega
            obtain ⟨v0, v1⟩ := HCOK.out.2.1
            go_upto_region 31 with fail
            clear lc lf x0 x1 cf I1 Q1 C1 HLL v0 v1 wk
            generalize T1.setCell ⟨w.heap.size + 1, d + 1, none⟩ (.int .i64 col.g) = T1 at *
            have I1 := I2
            have Q1 := Q2
            have C1 := C2
            have HLL := HLL2
            clear I2 Q2 C2 HLL2
            generalize LL.set (d + 1) col.g = LL at *
            have lc := RB_cell I1.out.regs (k := d + 2) (by have := HLL.out; omega)
            have lf := RB_free I1.out.regs (d + 2)
            have x0 := (inB_cell Q1.out).1
            have x1 := (inB_cell Q1.out).2.1
            have cf := (colB_cell C1.out).2.2.1
            have I2 := Lib.hid (I1.out.only ((onlyw_refl (w.heap.size + 1) T1).set (d + 2) (.int .i64 col.b)) (RB_set (k := d + 2) col.b I1.out.regs))
            have Q2 := Lib.hid (at1_keep hqg Q1.out (d + 2) (.int .i64 col.b))
            have C2 := Lib.hid (at1_keep hhg C1.out (d + 2) (.int .i64 col.b))
            have HLL2 := Lib.hid (show (LL.set (d + 2) col.b).length = 8 by rw [List.length_set]; exact HLL.out)
            generalize LL.getD (d + 2) 0 = z at *
            have wk : IntKind.u8.wrap ((d : Int) + 2) = ((d + 2 : Nat) : Int) := by rw [IntKind.wrap_u8]; omega
            obtain ⟨v0, v1⟩ := HCOK.out.2.2.1
            go_upto_region 32 with fail
            clear lc lf x0 x1 cf I1 Q1 C1 HLL v0 v1 wk
            generalize T1.setCell ⟨w.heap.size + 1, d + 2, none⟩ (.int .i64 col.b) = T1 at *
            have I1 := I2
            have Q1 := Q2
            have C1 := C2
            have HLL := HLL2
            clear I2 Q2 C2 HLL2
            generalize LL.set (d + 2) col.b = LL at *
            have lc := RB_cell I1.out.regs (k := d + 3) (by have := HLL.out; omega)
            have lf := RB_free I1.out.regs (d + 3)
            have x0 := (inB_cell Q1.out).1
            have x1 := (inB_cell Q1.out).2.1
            have cf := (colB_cell C1.out).2.2.2
            have I2 := Lib.hid (I1.out.only ((onlyw_refl (w.heap.size + 1) T1).set (d + 3) (.int .i64 col.a)) (RB_set (k := d + 3) col.a I1.out.regs))
            have Q2 := Lib.hid (at1_keep hqg Q1.out (d + 3) (.int .i64 col.a))
            have C2 := Lib.hid (at1_keep hhg C1.out (d + 3) (.int .i64 col.a))
            have HLL2 := Lib.hid (show (LL.set (d + 3) col.a).length = 8 by rw [List.length_set]; exact HLL.out)
            generalize LL.getD (d + 3) 0 = z at *
            have wk : IntKind.u8.wrap ((d : Int) + 3) = ((d + 3 : Nat) : Int) := by rw [IntKind.wrap_u8]; omega
            obtain ⟨v0, v1⟩ := HCOK.out.2.2.2
            clear I1 Q1 C1 HLL Q2 C2 HLL2
            go_wp2_with fail
            have I3 := Lib.hid I2.out
            rw [← HL2.out] at I3
            go_roundw
            case rel => exact ⟨_, f, s + 1, _, by go_num, by go_num, HMN.out.1, HMN.out.2.1, HMN.out.2.2.1, HST.out, HR2.out, I3.out⟩
            case measure => have := HMN.out.2.2.2; simp [intOf]; omega
          have hs2 := HSTEP.out
          rw [if_neg e12, if_neg e13, if_neg e14] at hs2
          have hrk := fun W => value_any ⟨o, d, a, b, N⟩ k n XOK.out X1.out e12 e13 e14 u v HU.out HV.out W
          obtain rfl : m = k + 1 := HM1.out (fun h => absurd h.1 e12)
          have hs3 : L2 = L.set d (w32 (rck ⟨o, d, a, b, N⟩ u v)) := hs2
          obtain ⟨R, hR⟩ : ∃ R, w32 (rck ⟨o, d, a, b, N⟩ u v) = R := ⟨_, rfl⟩
          rw [hR] at hs3 hrk
          have HL2 := Lib.hid hs3
          have HRK := Lib.hid hrk
          have HD := Lib.hid (show d < L.length by rw [HRG.out.1]; omega)
          have hd9 : d < 8 := by omega
          have e12' : (o == 12) = false := by simpa using e12
          have e13' : (o == 13) = false := by simpa using e13
          have e14' : (o == 14) = false := by simpa using e14
          clear hR hrk hs2 hs3 hd4 HSTEP HRG e12 e13 e14 HNX HM1 HU HV t0 t1 t2
          go_wp2_with fail
          have x0 : ∀ x : OnlyG (w.heap.size + 1) Y, x.w.cell? ⟨q, 0, none⟩ = some (.int .u8 o) := fun x => x.cell y0 hqg
          have x1 : ∀ x : OnlyG (w.heap.size + 1) Y, x.w.cell? ⟨q, 1, none⟩ = some (.int .u8 d) := fun x => x.cell y1 hqg
          have x2 : ∀ x : OnlyG (w.heap.size + 1) Y, x.w.cell? ⟨q, 2, none⟩ = some (.int .u8 a) := fun x => x.cell y2 hqg
          have x3 : ∀ x : OnlyG (w.heap.size + 1) Y, x.w.cell? ⟨q, 3, none⟩ = some (.int .u8 b) := fun x => x.cell y3 hqg
          have x4 : ∀ x : OnlyG (w.heap.size + 1) Y, x.w.cell? ⟨q, 4, none⟩ = some (.int .i64 N) := fun x => x.cell y4 hqg
          clear y0 y1 y2 y3 y4 ca cb
          refine wp_region_held_drew (S := fun w' => ∃ x : OnlyG (w.heap.size + 1) Y, w' = x.w) (by kernel_rfl) ⟨⟨_, onlyw_drew _ _⟩, rfl⟩ (fun hS => ?_)
          refine wpAnyH_take (i := 0) (v := .pointer (some ⟨q, 1, none⟩)) rfl (by kernel_rfl) (by kernel_rfl) (by kernel_rfl) (fun _ _ _ h => h) (Or.inl ⟨by rfl, fun w hw => by obtain ⟨x, rfl⟩ := hw; go_simp⟩) hS ?_
          try simp only [Act.put, List.setIfInBounds_toArray, List.set_cons_zero, List.set_cons_succ, List.getElem_toArray, List.getElem_cons_zero]
          refine wpAnyH_take (i := 1) (v := .int .u8 d) rfl (by kernel_rfl) (by kernel_rfl) (by kernel_rfl) (fun _ _ _ h => h) (Or.inl ⟨by rfl, fun w hw => by obtain ⟨x, rfl⟩ := hw; go_simp⟩) hS ?_
          try simp only [Act.put, List.setIfInBounds_toArray, List.set_cons_zero, List.set_cons_succ, List.getElem_toArray, List.getElem_cons_zero, List.getElem_cons_succ]
          refine wpAnyH_take (i := 2) (v := .agg #[.int .u8 o, .int .u8 d, .int .u8 a, .int .u8 b, .int .i64 N]) rfl (by kernel_rfl) (by kernel_rfl) (by kernel_rfl) (fun _ _ _ h => h) (Or.inl ⟨by rfl, fun w hw => by obtain ⟨x, rfl⟩ := hw; go_simp⟩) hS ?_
          try simp only [Act.put, List.setIfInBounds_toArray, List.set_cons_zero, List.set_cons_succ, List.getElem_toArray, List.getElem_cons_zero, List.getElem_cons_succ]
          refine wpAnyH_take (i := 3) (v := .int .i64 u) rfl (by kernel_rfl) (by kernel_rfl) (by kernel_rfl) (fun _ _ _ h => h) (Or.inl ⟨by rfl, fun w hw => by obtain ⟨x, rfl⟩ := hw; go_simp⟩) hS ?_
          try simp only [Act.put, List.setIfInBounds_toArray, List.set_cons_zero, List.set_cons_succ, List.getElem_toArray, List.getElem_cons_zero, List.getElem_cons_succ]
          refine wpAnyH_take (i := 4) (v := .int .i64 v) rfl (by kernel_rfl) (by kernel_rfl) (by kernel_rfl) (fun _ _ _ h => h) (Or.inl ⟨by rfl, fun w hw => by obtain ⟨x, rfl⟩ := hw; go_simp⟩) hS ?_
          try simp only [Act.put, List.setIfInBounds_toArray, List.set_cons_zero, List.set_cons_succ, List.getElem_toArray, List.getElem_cons_zero, List.getElem_cons_succ]
          refine wpAnyH_ready (rs := [5]) (by kernel_rfl) (by simp) ?_
          refine AllReadyH.cons rfl (fun K hK => ?_) AllReadyH.nil
          go_simp
          with_reducible refine (HRK.out _).mono ?_
          rintro e T ⟨rfl, hb⟩
          have OT := Lib.hid ((onlyw_drew (w.heap.size + 1) Y).trans (onlyw_of hb (Nat.le_of_lt (RB_lt IY.out.regs))))
          have GT := Lib.hid ((hb.block _ (RB_lt IY.out.regs)).trans IY.out.regs)
          clear hb HRK
          refine hK.out _ _ ⟨⟨_, OT.out⟩, rfl⟩ (fun hS => ?_)
          clear hK K
          try simp only [Act.put, List.setIfInBounds_toArray, List.set_cons_zero, List.set_cons_succ, List.getElem_toArray, List.getElem_cons_zero, List.getElem_cons_succ]
          refine wpAnyH_take (i := 6) (v := .pointer (some ⟨w.heap.size + 1, d, none⟩)) rfl (by kernel_rfl) (by kernel_rfl) (by kernel_rfl) (fun _ _ _ h => h) (Or.inl ⟨by rfl, fun w hw => by obtain ⟨x, rfl⟩ := hw; go_simp; intro h; omega⟩) hS ?_
          try simp only [Act.put, List.setIfInBounds_toArray, List.set_cons_zero, List.set_cons_succ, List.getElem_toArray, List.getElem_cons_zero, List.getElem_cons_succ]
          refine wpAnyH_ready (rs := [7]) (by kernel_rfl) (by simp) ?_
          refine AllReadyH.cons rfl (fun K hK => ?_) AllReadyH.nil
          go_simp
          have l0 := RB_cell GT.out HD.out
          have m0 := RB_free GT.out d
          have OT2 := Lib.hid (OT.out.set d (.int .i64 R))
          have GT2 := Lib.hid (RB_set (k := d) R GT.out)
          go_simp
          refine hK.out _ _ ⟨⟨_, OT2.out⟩, rfl⟩ (fun hS => ?_)
          clear hK K
          try simp only [Act.put, List.setIfInBounds_toArray, List.set_cons_zero, List.set_cons_succ, List.getElem_toArray, List.getElem_cons_zero, List.getElem_cons_succ]
          refine wpAnyH_done (by kernel_rfl) ?_ _
          have I2 := Lib.hid (IY.out.only OT2.out GT2.out)
          rw [← HL2.out] at I2
          clear x0 x1 x2 x3 x4 hS OT2 OT GT GT2 IY QY HD
          generalize T.setCell ⟨w.heap.size + 1, d, none⟩ (.int .i64 R) = T2 at *
          go_wp2_with fail
          have I3 := Lib.hid I2.out
          go_roundw
          case rel => exact ⟨_, f, s + 1, _, by go_num, by go_num, HMN.out.1, HMN.out.2.1, HMN.out.2.2.1, HST.out, HR2.out, I3.out⟩
          case measure => have := HMN.out.2.2.2; simp [intOf]; omega
        · obtain rfl : k = n := by omega
          have hfe := HFI.out
          rw [HFE.out _ _ _ _ (Nat.le_refl k)] at hfe
          have h8 := HRG.out.1
          have RG := Lib.hid HI.out.regs
          have BW := Lib.hid HI.out.below
          have RR := Lib.hid HI.out.res
          clear HFI HRG HI HFE HOK HL HE HP HTK
          subst hfe
          obtain ⟨l0, l1, l2, l3, l4, l5, l6, l7, hL8⟩ := len8 h8
          have E8 := Lib.hid hL8
          rw [hL8] at RG
          clear hL8
          obtain ⟨c0, c1, c2, c3, c4, c5, c6, c7⟩ := RB_cells RR.out
          obtain ⟨f0, f1, f2, f3, f4, f5, f6, f7⟩ := RB_frees RR.out
          obtain ⟨g0, g1, g2, g3, g4, g5, g6, g7⟩ := RB_cells RG.out
          go_wp2_with fail
          have hR := RB_set8 l0 l1 l2 l3 l4 l5 l6 l7 RR.out
          have hB := RB_put8 (l0 := l0) (l1 := l1) (l2 := l2) (l3 := l3) (l4 := l4) (l5 := l5) (l6 := l6) (l7 := l7) BW.out (show w.heap.size ≤ w.heap.size + 1 + 1 by omega)
          clear c0 c1 c2 c3 c4 c5 c6 c7 f0 f1 f2 f3 f4 f5 f6 f7 g0 g1 g2 g3 g4 g5 g6 g7 RR RG BW
          revert hR hB
          generalize ((((((((wq.setCell ⟨w.heap.size + 1 + 1, 0, none⟩ (.int .i64 l0)).setCell ⟨w.heap.size + 1 + 1, 1, none⟩ (.int .i64 l1)).setCell ⟨w.heap.size + 1 + 1, 2, none⟩ (.int .i64 l2)).setCell ⟨w.heap.size + 1 + 1, 3, none⟩ (.int .i64 l3)).setCell ⟨w.heap.size + 1 + 1, 4, none⟩ (.int .i64 l4)).setCell ⟨w.heap.size + 1 + 1, 5, none⟩ (.int .i64 l5)).setCell ⟨w.heap.size + 1 + 1, 6, none⟩ (.int .i64 l6)).setCell ⟨w.heap.size + 1 + 1, 7, none⟩ (.int .i64 l7)) = W4
          intro hR hB
          have HB := Lib.hid hB
          obtain ⟨c0, c1, c2, c3, c4, c5, c6, c7⟩ := RB_cells hR
          clear hB hR
          refine bodyPost_ret (v := .tuple #[.agg (regC [l0, l1, l2, l3, l4, l5, l6, l7]), .int .i64 s, .int .i64 0]) (by simp [results, Try.results12, go_sem, *]; rfl) rfl ⟨by rw [E8.out], HB.out⟩
end Go.Proofs.Ytehkcnmjkgelkaa
