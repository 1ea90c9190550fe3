/-
  The walk of glazierlaw12.CodeJoins.
-/
import Derived.Test.YticfllfelbfceaaRefusesW
namespace Go.Proofs.Yticfllfelbfceaa
open Go.RowKit
attribute [local go_sem ↓] Go.wp_at_zero Go.wp_at_succ

def slen : Value → Nat
  | .slice _ l _ => l
  | _ => 0
theorem ownI_flat {w : World} {base g n c : Nat} {xs : List In} (h : OwnE EI w base (.slice (some ⟨g, 0, none⟩) n c) xs) : ∀ j u, (EI.flat xs)[j]? = some u → w.cell? ((⟨g, 0, none⟩ : Addr).add j) = some u := by
  obtain ⟨hl, ⟨h0, _⟩ | ⟨g', cap, cur, e', hg, hh, hc, hm, hs, ht⟩⟩ := h
  · cases h0
  · cases e'
    intro j u hj
    have hjl : j < xs.length * EI.size := by
      rcases Nat.lt_or_ge j (EI.flat xs).length with h | h
      · rw [EI.flat_length] at h; exact h
      · rw [List.getElem?_eq_none h] at hj; cases hj
    have ha : (⟨g, 0, none⟩ : Addr).add j = ⟨g, j, none⟩ := by unfold Addr.add; split <;> simp_all
    rw [ha, cell_of_row w g j cur EI.t (0, 0) hh, ← hj, ← ht, List.getElem?_take_of_lt hjl, Array.getElem?_toList]
/-- More room behind a jump does no harm. -/
theorem one_more {x : In} {i n m : Int} (h : oneB x i n = true) (hm : n ≤ m) : oneB x i m = true := by
  have h := of_decide_eq_true (show decide _ = true from h)
  obtain ⟨h0, h1, h2, h3, h4, h5, h6, h7⟩ := h
  refine decide_eq_true ⟨h0, h1, by omega, h3, h4, h5, h6, Int.le_trans h7 ?_⟩
  unfold hi
  split
  · omega
  · split
    · omega
    · split <;> omega
theorem long_chk {p : List In} (h1 : ∀ (i : Nat) x, p[i]? = some x → oneB x i p.length = true) {j : Nat} (hl : p.length + j = 32) : chk (p ++ List.replicate j mov) = 0 := by
  have e : (p ++ List.replicate j mov).length = 32 := by simp; omega
  refine chk_good (by omega) (by omega) fun i x hx => ?_
  rw [e]
  rcases Nat.lt_or_ge i p.length with h | h
  · rw [List.getElem?_append_left h] at hx
    exact one_more (h1 i x hx) (by omega)
  · have hi32 : i < 32 := by have := (List.getElem?_eq_some_iff.1 hx).1; omega
    rw [List.getElem?_append_right h, List.getElem?_replicate] at hx
    split at hx
    · cases hx
      refine decide_eq_true ?_
      simp [mov, us, ms, lo, hi]
      omega
    · cases hx
theorem take_long (p : List In) {j : Nat} (hl : p.length + j = 33) (h : p.length ≤ 32) : (p ++ List.replicate j mov).take 32 = p ++ List.replicate (32 - p.length) mov := by
  rw [List.take_append, List.take_of_length_le h, List.take_replicate]
  congr 2
  omega
theorem tex_ge {x : In} {i n : Int} (h : oneB x i n = true) : decide (13 ≤ x.o) = tex x := by
  have := one_bounds h
  unfold tex
  rw [decide_eq_decide]
  omega
theorem snoc_mov (p : List In) (j : Nat) : p ++ List.replicate (j + 1) mov = (p ++ List.replicate j mov) ++ [mov] := by rw [List.replicate_succ', List.append_assoc]
theorem any_snoc {p : List In} {k : Nat} {u : In} (h : p[k]? = some u) : (p.take (k + 1)).any tex = ((p.take k).any tex || tex u) := by
  rw [List.take_add_one, h]
  simp
theorem own_whole {w : World} {B n : Nat} {v : Value} {p : List In} (hn : p.length = n) (h : w.ownsRow B 24 5 v (([] : List In).length + n) (EI.flat [] ++ EI.flat p)) : OwnE EI w B v (p ++ List.replicate 0 mov) := by
  subst hn
  have h : w.ownsRow B 24 5 v (0 + p.length) ([] ++ EI.flat p) := h
  rw [Nat.zero_add, List.nil_append] at h
  rw [List.replicate_zero, List.append_nil]
  exact h
set_option maxRecDepth 100000 in
set_option maxHeartbeats 8000000 in
theorem joins_walk (l : List In) (A : Option Addr) (c : Nat) (hok : ∀ y ∈ l, y.ok) (w : World) (he : Es EI w w.heap.size A l) :
    Calls Try.prog 5 #[.slice A l.length c] w fun e w' => e = .returned (.bool true) ∧ Below w.heap.size w w' := by
  obtain ⟨i0, hi, hz0, hz1, hz2⟩ := info_parts Try.info24
  have HI := Lib.hid hi
  have HZ := Lib.hid (And.intro hz0 (And.intro hz1 hz2))
  clear hi hz0 hz1 hz2
  have HP := Lib.hid (fun w he => Fit_any l A c hok w he)
  have HOk := Lib.hid (show ∀ x ∈ fitP l, x.ok from fitP_ok hok)
  have HE := Lib.hid he
  have hl := fitP_len l
  have HC := Lib.hid (fitP_chk l)
  have H1 := Lib.hid (show ∀ (i : Nat) x, (fitP l)[i]? = some x → oneB x i (fitP l).length = true from fun i x h => (fitP_one l i x h).1)
  have HL := Lib.hid (fun (k : Nat) (h : k < (fitP l).length) => get_lt h)
  generalize fitP l = p at *
  obtain ⟨n, hn⟩ : ∃ n, p.length = n := ⟨_, rfl⟩
  rw [hn] at HL hl
  have HN := Lib.hid hn
  clear hok he hn
  go_enter Try.func5, Try.ntmps5
  go_wp2_with fail
  with_reducible refine (shown_any w).mono ?_
  rintro e w1 ⟨rfl, hb⟩
  have B1 := Lib.hid hb
  have E1 := Lib.hid (HE.out.up hb)
  clear hb HE
  go_wp2_with fail
  with_reducible refine (HP.out _ E1.out).mono ?_
  rintro e w2 ⟨v, rfl, ho, hb⟩
  obtain ⟨g, c', rfl, hg, hglt⟩ := own_at0 ho (by rintro rfl; have := HN.out; simp at this; omega)
  have EP := Lib.hid (ownI_es ho)
  have FL := Lib.hid (fun j u hj => (new_below w2 (.cells #[] 24)).cell (p := (⟨g, 0, none⟩ : Addr).add j) (show ((⟨g, 0, none⟩ : Addr).add j).block < w2.heap.size by unfold Addr.add; split <;> exact hglt) |>.trans (ownI_flat ho j u hj))
  have FN := Lib.hid (EI.flat_length p)
  rw [HN.out] at FN ⊢
  have B2 := Lib.hid (bstep B1.out B1.out.size hb)
  have OE := Lib.hid (ownE_empty (E := EI) w2 (Nat.le_refl w2.heap.size))
  clear hb ho HP E1 B1 hg
  go_wp2_with (at_builtin; refine wpList_append_own _ rfl _ _ 22 rfl w2.heap.size 24 i0 _ 5 16 Try.underlying22 HI.out HZ.out.1 HZ.out.2.1 HZ.out.2.2 (by kernel_rfl) (by decide) _ _ (EI.flat []) rfl OE.out.row _ n c' (EI.flat p) rfl FN.out FL.out (EI.flat_one p) (by simp only [List.length_nil]; unfold maxLen; omega) (by simp only [List.length_nil]; omega) (by simp) ?_; intro v' w6 hown' hgrow _; have ho6 : OwnE EI w6 w2.heap.size v' (p ++ List.replicate 0 mov) := own_whole HN.out hown'; have hb6 : Below w2.heap.size w2 w6 := ((Below.refl _ w2).alloc (Nat.le_refl _) _).grown hgrow (by simp) (fun j ej => ownE_ge OE.out j ej); have O6 := Lib.hid ho6; have B6 := Lib.hid hb6; clear hown' hgrow ho6 hb6)
  obtain ⟨AL, cL, hv⟩ := O6.out.form
  have hln : (p ++ List.replicate 0 mov).length = n := by rw [List.length_append, List.length_replicate, HN.out, Nat.add_zero]
  rw [hln] at hv
  subst hv
  clear hln
  have E6 := Lib.hid (EP.out.up B6.out)
  clear OE FL FN hglt
  go_wp2_with fail
  go_loopw [5] (fun v wr => ∃ j : Nat, n + j ≤ 33 ∧ OwnE EI wr w2.heap.size v (p ++ List.replicate j mov) ∧ Below w2.heap.size w2 wr) (fun v _ => 33 - slen v)
  case atStart => exact ⟨0, by omega, O6.out, B6.out⟩
  case round =>
    obtain ⟨j, hj, ho, hb⟩ := hrel
    obtain ⟨A1, c1, rfl⟩ := ho.form
    have HO := Lib.hid ho
    have HB := Lib.hid hb
    have HS := Lib.hid (snoc_mov p j)
    have hcl : (p ++ List.replicate j mov).length = n + j := by rw [List.length_append, List.length_replicate, HN.out]
    have HTK := Lib.hid (fun h : n + j = 33 => take_long p (j := j) (by rw [HN.out]; exact h) (by rw [HN.out]; exact hl.2))
    have HLC := Lib.hid (long_chk (j := 32 - n) H1.out (by rw [HN.out]; omega))
    have HCO := Lib.hid (show ∀ x ∈ p ++ List.replicate j mov, x.ok from fun x hx => (List.mem_append.1 hx).elim (HOk.out x) (fun h => by rw [List.eq_of_mem_replicate h]; exact mov_ok))
    generalize p ++ List.replicate j mov = cs at *
    have HCL := Lib.hid hcl
    have hc33 : cs.length ≤ 33 := by omega
    clear ho hb hcl
    by_cases hlt : n + j < 33
    · have h33 : (cs.length : Int) < 33 := by have := HCL.out; omega
      have O2 := Lib.hid (HO.out.alloc (.cells #[.int .u8 1, .int .u8 0, .int .u8 0, .int .u8 0, .int .i64 0] 24))
      have hzr : w2.heap.size ≤ wr.heap.size := HB.out.size
      go_wp2_with (at_builtin; refine wpList_append_own _ rfl _ _ 22 rfl w2.heap.size 24 i0 _ 5 16 Try.underlying22 HI.out HZ.out.1 HZ.out.2.1 HZ.out.2.2 (by kernel_rfl) (by decide) _ _ (EI.flat cs) rfl O2.out.row _ 1 1 (EI.cells mov) rfl rfl (newI_at (u := mov) rfl) (EI.one _) (by unfold maxLen; omega) (by omega) (by simp; omega) ?_; intro v' w6 hown' hgrow _; obtain ⟨ho7, hb7⟩ := append_ofE (E := EI) (x := mov) HO.out hzr hown' hgrow; obtain ⟨A2, c2', rfl⟩ := ho7.form; have O7 := Lib.hid ho7; have B7 := Lib.hid hb7; clear hown' hgrow ho7 hb7)
      go_roundw
      case rel => exact ⟨j + 1, by omega, by rw [HS.out]; have h := O7.out; rw [List.length_append] at h; exact h, HB.out.trans B7.out⟩
      case measure => simp [slen]; omega
    · have h33 : cs.length = 33 := by have := HCL.out; omega
      have he2 : cs ≠ [] := by rintro rfl; simp at h33
      obtain ⟨gl, cl, hv, -, -⟩ := own_at0 HO.out he2
      obtain ⟨A', c'', hv2, hlc, -, hes⟩ := HO.out.es
      rw [h33] at hv hv2 hlc ⊢
      cases hv
      cases hv2
      have hlc3 : (33 : Int) ≤ (c1 : Int) := by omega
      have hlc2 : (32 : Int) ≤ (c1 : Int) := by omega
      have EL := Lib.hid hes
      have EQ := Lib.hid (EP.out.up HB.out)
      have j33 : n + j = 33 := by omega
      have T32 := Lib.hid (HTK.out j33)
      have BW := Lib.hid (bstep B2.out B2.out.size HB.out)
      have h33' : ¬ (33 : Int) < 33 := by decide
      clear HO HB HS HTK hes EP B2 he2 hlt O6 B6 E6 HZ HI hlc hj hc33
      go_wp2_with fail
      go_loopw [6, 7] (fun s i wq => ∃ k : Nat, k ≤ n ∧ i = .int .i64 k ∧ s = .bool ((p.take k).any tex) ∧ Below wr.heap.size wr wq) (fun _ i _ => n - (intOf i).toNat)
      case atStart => exact ⟨0, Nat.zero_le _, rfl, rfl, Below.refl _ _⟩
      case round =>
        rename World => wq
        obtain ⟨k, hk, rfl, rfl, hb⟩ := hrel
        have HB := Lib.hid hb
        clear hb
        by_cases hlt2 : k < n
        · obtain ⟨u, hu⟩ := HL.out k hlt2
          obtain ⟨b, off, e0, hbB, hat⟩ := (EQ.out.up HB.out).at hu
          cases e0
          obtain ⟨c0, c1', c2, c3, c4⟩ := atI (show AtE EI wq g (0 + k * 5) u from hat)
          rw [Nat.zero_add] at c0 c1' c2 c3 c4
          have h1 := H1.out k u hu
          rw [HN.out] at h1
          have HU := Lib.hid (fun w' => one_any u k n (HOk.out u (List.mem_of_getElem? hu)) ⟨by omega, by omega⟩ ⟨by omega, by omega⟩ w')
          rw [h1] at HU
          have HT := Lib.hid (tex_ge h1)
          have HA := Lib.hid (any_snoc hu)
          have Hu := Lib.hid hu
          clear hat h1 hu hbB
          go_wp2_with fail
          with_reducible refine (HU.out _).mono ?_
          rintro e w7 ⟨rfl, hb⟩
          have B7 := Lib.hid (HB.out.trans (hb.mono HB.out.size))
          clear hb HU c0 c1' c2 c3 c4
          obtain ⟨b, off, e0, hbB, hat⟩ := (EQ.out.up B7.out).at Hu.out
          cases e0
          obtain ⟨c0, c1', c2, c3, c4⟩ := atI (show AtE EI w7 g (0 + k * 5) u from hat)
          rw [Nat.zero_add] at c0 c1' c2 c3 c4
          clear hat hbB
          cases hs : (p.take k).any tex
          · go_wp2_with fail
            go_roundw
            case rel => exact ⟨k + 1, by omega, by go_num, by rw [HA.out, hs, Bool.false_or, HT.out], B7.out⟩
            case measure => simp [intOf]; omega
          · go_wp2_with fail
            go_roundw
            case rel => exact ⟨k + 1, by omega, by go_num, by rw [HA.out, hs]; rfl, B7.out⟩
            case measure => simp [intOf]; omega
        · obtain rfl : k = n := by omega
          have hany : (p.take k).any tex = p.any tex := by rw [List.take_of_length_le (by rw [HN.out]; exact Nat.le_refl _)]
          rw [hany]
          have q1 := check_any p (some ⟨g, 0, none⟩) c' HOk.out wq (EQ.out.up HB.out)
          rw [HN.out, HC.out] at q1
          have Q1 := Lib.hid q1
          clear q1 hany
          go_wp2_with fail
          with_reducible refine (Q1.out).mono ?_
          rintro e x1 ⟨rfl, hb⟩
          have D1 := Lib.hid (HB.out.trans (hb.mono HB.out.size))
          have q2 := samples_any p (some ⟨g, 0, none⟩) c' (by rw [HN.out]; omega) HOk.out x1 (EQ.out.up D1.out)
          rw [HN.out] at q2
          have Q2 := Lib.hid q2
          clear hb Q1 q2 HB
          go_wp2_with fail
          with_reducible refine (Q2.out).mono ?_
          rintro e x2 ⟨rfl, hb⟩
          have D2 := Lib.hid (D1.out.trans (hb.mono D1.out.size))
          have q3 := check_any cs (some ⟨gl, 0, none⟩) c1 HCO.out x2 (EL.out.up D2.out)
          rw [h33, show chk cs = 23 by unfold chk; rw [if_pos (by omega)]] at q3
          have Q3 := Lib.hid q3
          clear hb Q2 q3 D1
          go_wp2_with fail
          with_reducible refine (Q3.out).mono ?_
          rintro e x3 ⟨rfl, hb⟩
          have D3 := Lib.hid (D2.out.trans (hb.mono D2.out.size))
          have q4 := check_any (cs.take 32) (some ⟨gl, 0, none⟩) c1 (fun x hx => HCO.out x (List.mem_of_mem_take hx)) x3 ((EL.out.up D3.out).take 32)
          rw [show (cs.take 32).length = 32 by rw [List.length_take]; omega, T32.out, HN.out, HLC.out] at q4
          have Q4 := Lib.hid q4
          clear hb Q3 q4 D2
          go_wp2_with fail
          with_reducible refine (Q4.out).mono ?_
          rintro e x4 ⟨rfl, hb⟩
          have D4 := Lib.hid (D3.out.trans (hb.mono D3.out.size))
          have Q5 := Lib.hid (show Calls Try.prog 13 #[.slice none 0 0] x4 fun e w' => e = .returned (.int .i64 23) ∧ Below x4.heap.size x4 w' from check_any [] none 0 (fun x hx => by cases hx) x4 Es.none_)
          clear hb Q4 D3
          go_wp2_with fail
          with_reducible refine (Q5.out).mono ?_
          rintro e x5 ⟨rfl, hb⟩
          have D5 := Lib.hid (bstep BW.out BW.out.size (D4.out.trans (hb.mono D4.out.size)))
          clear hb Q5 D4
          go_wp2_with fail
          go_ret
          exact ⟨rfl, D5.out⟩
end Go.Proofs.Yticfllfelbfceaa
