/-
  glazierlaw13.VmStays, its walk: the first program has no more than 16 instructions, the second one no more.
-/
import Derived.Test.YtehkcnmjkgelkaaStayA
namespace Go.Proofs.Ytehkcnmjkgelkaa
open Go.RowKit C
attribute [local go_sem ↓] Go.wp_at_zero Go.wp_at_succ
attribute [local go_sem high] eql8 neq8
attribute [local go_sem] guardR

set_option maxRecDepth 100000 in
set_option maxHeartbeats 8000000 in
theorem stays_00 (l : List In) (A : Option Addr) (c : Nat) (m : List In) (B : Option Addr) (k : Nat) (r0' r1' r2' r3' r4' r5' r6' r7' : Int) (hok : ∀ x ∈ l, x.ok) (hokm : ∀ x ∈ m, x.ok)
    (w : World) (he : Es EI w w.heap.size A l) (hem : Es EI w w.heap.size B m) (h1 : ¬ 16 < l.length) (h2 : ¬ 16 < m.length) :
    Calls Try.prog 5 #[.slice A l.length c, .slice B m.length k, .agg #[.int .i64 r0', .int .i64 r1', .int .i64 r2', .int .i64 r3', .int .i64 r4', .int .i64 r5', .int .i64 r6', .int .i64 r7']] w fun e w' => e = .returned (.bool true) ∧ Below w.heap.size w w' := by
  have HSH := Lib.hid shown_any
  have B0 := Lib.hid (show Below w.heap.size w (w.alloc (.cells #[.int .i64 r0', .int .i64 r1', .int .i64 r2', .int .i64 r3', .int .i64 r4', .int .i64 r5', .int .i64 r6', .int .i64 r7'] 26)) from new_below _ _)
  have X0 := Lib.hid (show (w.alloc (.cells #[.int .i64 r0', .int .i64 r1', .int .i64 r2', .int .i64 r3', .int .i64 r4', .int .i64 r5', .int .i64 r6', .int .i64 r7'] 26)).heap[w.heap.size]? = some (RB [r0', r1', r2', r3', r4', r5', r6', r7']) from new_at1 w _)
  have HLE := Lib.hid (C.Es.take he 16)
  have HME := Lib.hid (C.Es.take hem 16)
  have HP := Lib.hid (fun i x h => str_one (l.take 16) (fun x hx => hok x (List.mem_of_mem_take hx)) i x h)
  have HQ := Lib.hid (fun i x h => str_one (m.take 16) (fun x hx => hokm x (List.mem_of_mem_take hx)) i x h)
  have HPL := Lib.hid (str16 l)
  have HQL := Lib.hid (str16 m)
  have hs1 := fun W (h : Es EI W W.heap.size A (l.take 16)) => straight_any (l.take 16) A c (fun x hx => hok x (List.mem_of_mem_take hx)) W h
  have hs2 := fun W (h : Es EI W W.heap.size B (m.take 16)) => straight_any (m.take 16) B k (fun x hx => hokm x (List.mem_of_mem_take hx)) W h
  have e1 : (l.take 16).length = l.length := by simp; omega
  have e2 : (m.take 16).length = m.length := by simp; omega
  rw [e1] at hs1
  rw [e2] at hs2
  have HS1 := Lib.hid hs1
  have HS2 := Lib.hid hs2
  clear hs1 hs2 e1 e2 he hem hok hokm
  generalize l.take 16 = l1 at *
  generalize m.take 16 = m1 at *
  have hl1 : ¬ (16 : Int) < (l.length : Int) := by omega
  have hm1 : ¬ (16 : Int) < (m.length : Int) := by omega
  clear h1 h2
  generalize l.length = ll at *
  generalize m.length = mm at *
  go_enter Try.func5, Try.ntmps5
  go_upto_region 8 with (first
    | (go_at_call 9; (with_reducible refine (HSH.out _).mono ?_); rintro e w1 ⟨rfl, hb⟩; have HB1 := Lib.hid (bstep B0.out B0.out.size hb); have Y0 := Lib.hid ((hb.block _ (by simp <;> omega)).trans X0.out); have E1 := Lib.hid (HLE.out.up HB1.out); clear hb)
    | (go_at_call 18; first
      | ((with_reducible refine (HS1.out _ E1.out).mono ?_); rintro e w2 ⟨v3, rfl, ho, hb⟩; have HB2 := Lib.hid (bstep HB1.out HB1.out.size hb); have Y1 := Lib.hid ((hb.block _ (RB_lt Y0.out)).trans Y0.out); obtain ⟨g1, c3, rfl, -, hg1⟩ := C.own_at0 ho (by intro h; have := HPL.out.1; rw [h] at this; simp at this); have O2 := Lib.hid ho; have M2 := Lib.hid (HME.out.up HB2.out); clear hb ho)
      | ((with_reducible refine (HS2.out _ M2.out).mono ?_); rintro e w3 ⟨v4, rfl, ho, hb⟩; have HB3 := Lib.hid (bstep HB2.out HB2.out.size hb); have Y2 := Lib.hid ((hb.block _ (RB_lt Y1.out)).trans Y1.out); obtain ⟨g2, c4, rfl, -, hg2⟩ := C.own_at0 ho (by intro h; have := HQL.out.1; rw [h] at this; simp at this); have O3 := Lib.hid (O2.out.keep hb); have Q3 := Lib.hid ho; have hg3 := Nat.lt_of_lt_of_le hg1 hb.size; clear hb ho)))
  clear HSH B0 X0 HLE HME HS1 HS2 HB1 Y0 E1 HB2 Y1 O2 M2 hg1
  have hpl := HPL.out
  have hql := HQL.out
  have hpp : ∀ (i : Nat) x, (strP l1)[i]? = some x → plain x := fun i x h => (HP.out i x h).2.1
  have hpo : ∀ (i : Nat) x, (strP l1)[i]? = some x → ∀ k n : Int, 0 ≤ k → k < n → oneB x k n = true := fun i x h => (HP.out i x h).2.2
  have hqp : ∀ (i : Nat) x, (strP m1)[i]? = some x → plain x := fun i x h => (HQ.out i x h).2.1
  have hqo : ∀ (i : Nat) x, (strP m1)[i]? = some x → ∀ k n : Int, 0 ≤ k → k < n → oneB x k n = true := fun i x h => (HQ.out i x h).2.2
  have hpk : ∀ x ∈ strP l1, x.ok := fun x hx => by
    obtain ⟨i, hi⟩ := List.getElem?_of_mem hx
    exact (HP.out i x hi).1
  have hqk : ∀ x ∈ strP m1, x.ok := fun x hx => by
    obtain ⟨i, hi⟩ := List.getElem?_of_mem hx
    exact (HQ.out i x hi).1
  clear HP HQ HPL HQL
  generalize strP l1 = p at *
  generalize strP m1 = q at *
  have hRw := map_reg (xs := [r0', r1', r2', r3', r4', r5', r6', r7']) rfl
  have hra := runs_reg noT p hRw
  obtain ⟨a0, a1, a2, a3, a4, a5, a6, a7, hA⟩ := len8 hra.1
  have hrb := runs_reg noT q hra
  obtain ⟨b0, b1, b2, b3, b4, b5, b6, b7, hB⟩ := len8 hrb.1
  have r1 := plain_runs (t := noT) hpl.1 (by omega) hpp hpo [r0', r1', r2', r3', r4', r5', r6', r7']
  have r2 := plain_runs (t := noT) hql.1 (by omega) hqp hqo [a0, a1, a2, a3, a4, a5, a6, a7]
  have r4 := plain_runs (t := noT) hpl.1 (by omega) hpp hpo ([r0', r1', r2', r3', r4', r5', r6', r7'].map up32)
  have happ : ∀ (i : Nat) x, (p ++ q)[i]? = some x → plain x ∧ ∀ k n : Int, 0 ≤ k → k < n → oneB x k n = true := fun i x h => by
    rcases List.mem_append.1 (List.mem_of_getElem? h) with h | h
    · obtain ⟨j, hj⟩ := List.getElem?_of_mem h
      exact ⟨hpp j x hj, hpo j x hj⟩
    · obtain ⟨j, hj⟩ := List.getElem?_of_mem h
      exact ⟨hqp j x hj, hqo j x hj⟩
  have r3 := plain_runs (t := noT) (p := p ++ q) (by rw [List.length_append]; omega) (by rw [List.length_append]; omega) (fun i x h => (happ i x h).1) (fun i x h => (happ i x h).2) [r0', r1', r2', r3', r4', r5', r6', r7']
  rw [runs_append, hB, List.length_append] at r3
  rw [up_w32, hA] at r4
  rw [hA] at hB
  rw [map_w32 (show Reg [a0, a1, a2, a3, a4, a5, a6, a7] from hA ▸ hra), hB] at r2
  rw [hA] at r1
  have HKEEP := Lib.hid (fun (j : Nat) (h : ∀ x ∈ p, x.d.toNat ≠ j) => show [a0, a1, a2, a3, a4, a5, a6, a7].getD j 0 = ([r0', r1', r2', r3', r4', r5', r6', r7'].map w32).getD j 0 by
    rw [← hA]
    exact runs_keep noT p _ j fun x hx => ⟨(by obtain ⟨i, hi⟩ := List.getElem?_of_mem hx; exact hpp i x hi), h x hx⟩)
  have HREG := Lib.hid (show Reg [a0, a1, a2, a3, a4, a5, a6, a7] from hA ▸ hra)
  have hr1 := fun W (h : Es EI W W.heap.size (some ⟨g1, 0, none⟩) p) => run_any p (some ⟨g1, 0, none⟩) c3 noT none 0 r0' r1' r2' r3' r4' r5' r6' r7' hpk noT_ok W h Es.none_
  have hr2 := fun W (h : Es EI W W.heap.size (some ⟨g2, 0, none⟩) q) => run_any q (some ⟨g2, 0, none⟩) c4 noT none 0 a0 a1 a2 a3 a4 a5 a6 a7 hqk noT_ok W h Es.none_
  have hpqk : ∀ x ∈ p ++ q, x.ok := fun x hx => (List.mem_append.1 hx).elim (hpk x) (hqk x)
  have hr3 := fun A5 c5 W (h : Es EI W W.heap.size A5 (p ++ q)) => run_any (p ++ q) A5 c5 noT none 0 r0' r1' r2' r3' r4' r5' r6' r7' hpqk noT_ok W h Es.none_
  have hr4 := fun W (h : Es EI W W.heap.size (some ⟨g1, 0, none⟩) p) => run_any p (some ⟨g1, 0, none⟩) c3 noT none 0 (up32 r0') (up32 r1') (up32 r2') (up32 r3') (up32 r4') (up32 r5') (up32 r6') (up32 r7') hpk noT_ok W h Es.none_
  rw [r1] at hr1
  rw [r2] at hr2
  rw [r3] at hr3
  rw [show [up32 r0', up32 r1', up32 r2', up32 r3', up32 r4', up32 r5', up32 r6', up32 r7'] = [r0', r1', r2', r3', r4', r5', r6', r7'].map up32 from rfl, r4] at hr4
  simp only [runV, regC, List.map_cons, List.map_nil] at hr1 hr2 hr3 hr4
  obtain ⟨np, hnp⟩ : ∃ n, p.length = n := ⟨_, rfl⟩
  obtain ⟨nq, hnq⟩ : ∃ n, q.length = n := ⟨_, rfl⟩
  have hlpq : (p ++ q).length = np + nq := by rw [List.length_append, hnp, hnq]
  rw [hnp] at hr1 hr3 hr4 hpl
  rw [hnq] at hr2 hr3 hql
  have HR1 := Lib.hid (fun W (h : Es EI W W.heap.size (some ⟨g1, 0, none⟩) p) => show Calls Try.prog 11 #[.slice (some ⟨g1, 0, none⟩) np c3, .agg #[.int .i64 0, .int .i64 0, .slice none 0 0], .agg #[.int .i64 r0', .int .i64 r1', .int .i64 r2', .int .i64 r3', .int .i64 r4', .int .i64 r5', .int .i64 r6', .int .i64 r7']] W fun e w' => e = .returned (.tuple #[.agg #[.int .i64 a0, .int .i64 a1, .int .i64 a2, .int .i64 a3, .int .i64 a4, .int .i64 a5, .int .i64 a6, .int .i64 a7], .int .i64 np, .int .i64 0]) ∧ Below W.heap.size W w' by rw [← hnp]; have := hr1 W h; rw [← hnp] at this; exact this)
  have HR2 := Lib.hid (fun W (h : Es EI W W.heap.size (some ⟨g2, 0, none⟩) q) => show Calls Try.prog 11 #[.slice (some ⟨g2, 0, none⟩) nq c4, .agg #[.int .i64 0, .int .i64 0, .slice none 0 0], .agg #[.int .i64 a0, .int .i64 a1, .int .i64 a2, .int .i64 a3, .int .i64 a4, .int .i64 a5, .int .i64 a6, .int .i64 a7]] W fun e w' => e = .returned (.tuple #[.agg #[.int .i64 b0, .int .i64 b1, .int .i64 b2, .int .i64 b3, .int .i64 b4, .int .i64 b5, .int .i64 b6, .int .i64 b7], .int .i64 nq, .int .i64 0]) ∧ Below W.heap.size W w' by rw [← hnq]; have := hr2 W h; rw [← hnq] at this; exact this)
  have HR3 := Lib.hid (fun A5 c5 W (h : Es EI W W.heap.size A5 (p ++ q)) => show Calls Try.prog 11 #[.slice A5 (p ++ q).length c5, .agg #[.int .i64 0, .int .i64 0, .slice none 0 0], .agg #[.int .i64 r0', .int .i64 r1', .int .i64 r2', .int .i64 r3', .int .i64 r4', .int .i64 r5', .int .i64 r6', .int .i64 r7']] W fun e w' => e = .returned (.tuple #[.agg #[.int .i64 b0, .int .i64 b1, .int .i64 b2, .int .i64 b3, .int .i64 b4, .int .i64 b5, .int .i64 b6, .int .i64 b7], .int .i64 ((np + nq : Nat) : Int), .int .i64 0]) ∧ Below W.heap.size W w' from hr3 A5 c5 W h)
  have HR4 := Lib.hid (fun W (h : Es EI W W.heap.size (some ⟨g1, 0, none⟩) p) => show Calls Try.prog 11 #[.slice (some ⟨g1, 0, none⟩) np c3, .agg #[.int .i64 0, .int .i64 0, .slice none 0 0], .agg #[.int .i64 (up32 r0'), .int .i64 (up32 r1'), .int .i64 (up32 r2'), .int .i64 (up32 r3'), .int .i64 (up32 r4'), .int .i64 (up32 r5'), .int .i64 (up32 r6'), .int .i64 (up32 r7')]] W fun e w' => e = .returned (.tuple #[.agg #[.int .i64 a0, .int .i64 a1, .int .i64 a2, .int .i64 a3, .int .i64 a4, .int .i64 a5, .int .i64 a6, .int .i64 a7], .int .i64 np, .int .i64 0]) ∧ Below W.heap.size W w' by rw [← hnp]; have := hr4 W h; rw [← hnp] at this; exact this)
  have HDK := Lib.hid (fun (j : Nat) x (h : p[j]? = some x) => show 0 ≤ x.d ∧ x.d ≤ 7 from ⟨(hpk x (List.mem_of_getElem? h)).d.1, (one_in (hpk x (List.mem_of_getElem? h)) (hpo j x h 0 1 (by decide) (by decide))).1⟩)
  have HGP := Lib.hid (fun (j : Nat) (h : j < np) => C.get_lt (l := p) (k := j) (by omega))
  have HTN := Lib.hid (show p.take np = p by rw [← hnp]; exact List.take_length)
  have HNP := Lib.hid hnp
  have HNQ := Lib.hid hnq
  have HLPQ := Lib.hid hlpq
  rw [hnp] at O3
  rw [hnq] at Q3
  clear hpp hpo hqp hqo hpk hqk hRw hra hrb hA hB r1 r2 r3 r4 happ hpqk hr1 hr2 hr3 hr4 hlpq
  rw [HNP.out, HNQ.out]
  have hy := RB_lt Y2.out
  have LP := Lib.hid (C.ownI_es O3.out)
  have LQ := Lib.hid (C.ownI_es Q3.out)
  have FP := Lib.hid (ownI_flat O3.out)
  have FQ := Lib.hid (ownI_flat Q3.out)
  obtain ⟨q0, q1, q2, q3, q4, q5, q6, q7⟩ := RB_cells Y2.out
  go_upto_region 9 with (go_at_call 11; (with_reducible refine (HR1.out _ LP.out).mono ?_); rintro z T ⟨rfl, hb⟩; have DT := Lib.hid hb; clear hb)
  have D1 := Lib.hid (bstep DT.out DT.out.size (new_below T (RB [a0, a1, a2, a3, a4, a5, a6, a7])))
  have Na := Lib.hid (new_at1 T (RB [a0, a1, a2, a3, a4, a5, a6, a7]))
  have hga := Lib.hid DT.out.size
  clear DT q0 q1 q2 q3 q4 q5 q6 q7
  change Code.wp _ _ _ _ (T.alloc (RB [a0, a1, a2, a3, a4, a5, a6, a7]))
  generalize T.alloc (RB [a0, a1, a2, a3, a4, a5, a6, a7]) = V1 at *
  generalize T.heap.size = ga at *
  have LQ1 := Lib.hid ((LQ.out.below D1.out).more D1.out.size)
  obtain ⟨q0, q1, q2, q3, q4, q5, q6, q7⟩ := RB_cells Na.out
  go_upto_region 10 with (go_at_call 11; (with_reducible refine (HR2.out _ LQ1.out).mono ?_); rintro z T ⟨rfl, hb⟩; have DT := Lib.hid (bstep D1.out D1.out.size hb); have Na_ := Lib.hid ((hb.block _ (RB_lt Na.out)).trans Na.out); clear hb)
  have D2 := Lib.hid (bstep DT.out DT.out.size (new_below T (RB [b0, b1, b2, b3, b4, b5, b6, b7])))
  have Nb := Lib.hid (new_at1 T (RB [b0, b1, b2, b3, b4, b5, b6, b7]))
  have Na := Lib.hid (new_keep (RB [b0, b1, b2, b3, b4, b5, b6, b7]) Na_.out)
  clear DT LQ1 D1 Na_ q0 q1 q2 q3 q4 q5 q6 q7
  change Code.wp _ _ _ _ (T.alloc (RB [b0, b1, b2, b3, b4, b5, b6, b7]))
  generalize T.alloc (RB [b0, b1, b2, b3, b4, b5, b6, b7]) = X at *
  generalize T.heap.size = gb at *
  have hx := D2.out.size
  obtain ⟨nn, hnn⟩ : ∃ n, np + nq = n := ⟨_, rfl⟩
  obtain ⟨pq, hpq⟩ : ∃ l, p ++ q = l := ⟨_, rfl⟩
  rw [hnn, hpq] at HR3
  have HPQ := Lib.hid hpq
  clear hpq
  have HNN := Lib.hid hnn
  go_cut [16, 17, 18] from 57 to 68 (fun s u v V => ∃ h, s = .pointer (some ⟨h, 0, none⟩) ∧ u = .int .i64 nn ∧ v = .int .i64 0 ∧ Below X.heap.size X V ∧ V.heap[h]? = some (RB [b0, b1, b2, b3, b4, b5, b6, b7]))
  case first =>
    have YX := Lib.hid ((D2.out.block _ hy).trans Y2.out)
    have FPX := Lib.hid (flat_below FP.out D2.out hg3)
    have FQX := Lib.hid (flat_below FQ.out D2.out hg2)
    have hg1X : g1 < X.heap.size := Nat.lt_of_lt_of_le hg3 hx
    have hg2X : g2 < X.heap.size := Nat.lt_of_lt_of_le hg2 hx
    obtain ⟨q0, q1, q2, q3, q4, q5, q6, q7⟩ := RB_cells YX.out
    have y0 : ∀ x : Grow X, x.w.cell? ⟨w.heap.size, 0, none⟩ = some (.int .i64 r0') := fun x => x.cell q0
    have y1 : ∀ x : Grow X, x.w.cell? ⟨w.heap.size, 1, none⟩ = some (.int .i64 r1') := fun x => x.cell q1
    have y2 : ∀ x : Grow X, x.w.cell? ⟨w.heap.size, 2, none⟩ = some (.int .i64 r2') := fun x => x.cell q2
    have y3 : ∀ x : Grow X, x.w.cell? ⟨w.heap.size, 3, none⟩ = some (.int .i64 r3') := fun x => x.cell q3
    have y4 : ∀ x : Grow X, x.w.cell? ⟨w.heap.size, 4, none⟩ = some (.int .i64 r4') := fun x => x.cell q4
    have y5 : ∀ x : Grow X, x.w.cell? ⟨w.heap.size, 5, none⟩ = some (.int .i64 r5') := fun x => x.cell q5
    have y6 : ∀ x : Grow X, x.w.cell? ⟨w.heap.size, 6, none⟩ = some (.int .i64 r6') := fun x => x.cell q6
    have y7 : ∀ x : Grow X, x.w.cell? ⟨w.heap.size, 7, none⟩ = some (.int .i64 r7') := fun x => x.cell q7
    clear q0 q1 q2 q3 q4 q5 q6 q7
    refine wp_region_held_drew (S := fun w' => ∃ x : Grow X, w' = x.w) (by kernel_rfl) ⟨⟨_, (Below.refl _ _).drew⟩, rfl⟩ (fun hS => ?_)
    have B0 := Lib.hid (show Below X.heap.size X X.drew from (Below.refl _ _).drew)
    refine wpAnyH_take (i := 1) (v := .slice (some ⟨g1, 0, none⟩) np c3) rfl (by kernel_rfl) (by kernel_rfl) (by kernel_rfl) (fun _ _ _ h => h) (Or.inl ⟨by rfl, fun w hw => by obtain ⟨x, rfl⟩ := hw; go_simp⟩) hS ?_
    try simp only [Act.put, List.setIfInBounds_toArray, List.set_cons_zero, List.set_cons_succ, List.getElem_toArray, List.getElem_cons_zero, List.getElem_cons_succ]
    refine wpAnyH_take (i := 3) (v := .slice (some ⟨g2, 0, none⟩) nq c4) rfl (by kernel_rfl) (by kernel_rfl) (by kernel_rfl) (fun _ _ _ h => h) (Or.inl ⟨by rfl, fun w hw => by obtain ⟨x, rfl⟩ := hw; go_simp⟩) hS ?_
    try simp only [Act.put, List.setIfInBounds_toArray, List.set_cons_zero, List.set_cons_succ, List.getElem_toArray, List.getElem_cons_zero, List.getElem_cons_succ]
    refine wpAnyH_take (i := 5) (v := .agg #[.int .i64 0, .int .i64 0, .slice none 0 0]) rfl (by kernel_rfl) (by kernel_rfl) (by kernel_rfl) (fun _ _ _ h => h) (Or.inl ⟨by rfl, fun w hw => by obtain ⟨x, rfl⟩ := hw; go_simp⟩) hS ?_
    try simp only [Act.put, List.setIfInBounds_toArray, List.set_cons_zero, List.set_cons_succ, List.getElem_toArray, List.getElem_cons_zero, List.getElem_cons_succ]
    refine wpAnyH_take (i := 6) (v := .agg #[.int .i64 r0', .int .i64 r1', .int .i64 r2', .int .i64 r3', .int .i64 r4', .int .i64 r5', .int .i64 r6', .int .i64 r7']) rfl (by kernel_rfl) (by kernel_rfl) (by kernel_rfl) (fun _ _ _ h => h) (Or.inl ⟨by rfl, fun w hw => by obtain ⟨x, rfl⟩ := hw; go_simp⟩) hS ?_
    try simp only [Act.put, List.setIfInBounds_toArray, List.set_cons_zero, List.set_cons_succ, List.getElem_toArray, List.getElem_cons_zero, List.getElem_cons_succ]
    clear y0 y1 y2 y3 y4 y5 y6 y7
    generalize X.drew = W0 at *
    refine wpAnyH_ready (rs := [0, 12]) (by kernel_rfl) (by simp) ?_
    refine AllReadyH.cons rfl (fun K hK => ?_) ?_
    · skip
      go_simp
      refine hK.out _ _ ⟨⟨_, B0.out.alloc B0.out.size _⟩, rfl⟩ (fun hS => ?_)
      clear hK K hS
      try simp only [Act.put, List.setIfInBounds_toArray, List.set_cons_zero, List.set_cons_succ, List.getElem_toArray, List.getElem_cons_zero, List.getElem_cons_succ]
      have Bt1 := Lib.hid (B0.out.alloc B0.out.size (.cells #[] 45))
      have Ot1 := Lib.hid (show OwnE EI (W0.alloc (.cells #[] 45)) X.heap.size (.slice (some ⟨W0.heap.size, 0, none⟩) 0 0) [] from ownE_empty (E := EI) (base := X.heap.size) W0 B0.out.size)
      change wpAnyH _ _ _ _ _ _ _ _ (W0.alloc (.cells #[] 45))
      generalize W0.alloc (.cells #[] 45) = t1 at *
      generalize W0.heap.size = et1 at *
      have hS : ∃ x : Grow X, t1 = x.w := ⟨⟨t1, Bt1.out⟩, rfl⟩
      refine wpAnyH_ready (rs := [2, 12]) (by kernel_rfl) (by simp) ?_
      refine AllReadyH.cons rfl (fun K hK => ?_) ?_
      · skip
        rw [if_pos (by rfl)]
        refine opw_appendI (.tmp 58) (.tmp 59) X.heap.size (Value.slice (some ⟨et1, 0, none⟩) 0 0) [] p g1 np c3 rfl rfl rfl Ot1.out (flat_below FPX.out Bt1.out hg1X) HNP.out (by simp) (by omega) Bt1.out.size ?_
        intro vt2 t2 ho hb hk
        have Ot2 := Lib.hid (show OwnE EI t2 X.heap.size vt2 p by simpa using ho)
        have Bt2 := Lib.hid (Bt1.out.trans hb)
        clear ho hb hk
        refine hK.out _ _ ⟨⟨_, Bt2.out⟩, rfl⟩ (fun hS => ?_)
        clear hK K
        try simp only [Act.put, List.setIfInBounds_toArray, List.set_cons_zero, List.set_cons_succ, List.getElem_toArray, List.getElem_cons_zero, List.getElem_cons_succ]
        refine wpAnyH_ready (rs := [4, 12]) (by kernel_rfl) (by simp) ?_
        refine AllReadyH.cons rfl (fun K hK => ?_) ?_
        · skip
          rw [if_pos (by rfl)]
          refine opw_appendI (.tmp 60) (.tmp 61) X.heap.size (vt2) p q g2 nq c4 rfl rfl rfl Ot2.out (flat_below FQX.out Bt2.out hg2X) HNQ.out (by have := HNP.out; omega) (by omega) Bt2.out.size ?_
          intro vt3 t3 ho hb hk
          have Ot3 := Lib.hid (show OwnE EI t3 X.heap.size vt3 pq by rw [← HPQ.out]; exact ho)
          have Bt3 := Lib.hid (Bt2.out.trans hb)
          clear ho hb hk
          obtain ⟨A5, c5, rfl, -, -, hes⟩ := Ot3.out.es
          have E5 := Lib.hid hes
          clear hes
          refine hK.out _ _ ⟨⟨_, Bt3.out⟩, rfl⟩ (fun hS => ?_)
          clear hK K
          try simp only [Act.put, List.setIfInBounds_toArray, List.set_cons_zero, List.set_cons_succ, List.getElem_toArray, List.getElem_cons_zero, List.getElem_cons_succ]
          refine wpAnyH_ready (rs := [7, 12]) (by kernel_rfl) (by simp) ?_
          refine AllReadyH.cons rfl (fun K hK => ?_) ?_
          · skip
            go_simp
            with_reducible refine (HR3.out _ _ _ E5.out).mono ?_
            rintro z t4 ⟨rfl, hb⟩
            have Bt4 := Lib.hid (bstep Bt3.out Bt3.out.size hb)
            clear hb
            refine hK.out _ _ ⟨⟨_, Bt4.out⟩, rfl⟩ (fun hS => ?_)
            clear hK K
            try simp only [Act.put, List.setIfInBounds_toArray, List.set_cons_zero, List.set_cons_succ, List.getElem_toArray, List.getElem_cons_zero, List.getElem_cons_succ]
            refine wpAnyH_take (i := 8) (v := .tuple #[.agg #[.int .i64 b0, .int .i64 b1, .int .i64 b2, .int .i64 b3, .int .i64 b4, .int .i64 b5, .int .i64 b6, .int .i64 b7], .int .i64 nn, .int .i64 0]) rfl (by kernel_rfl) (by kernel_rfl) (by kernel_rfl) (fun _ _ _ h => h) (Or.inl ⟨by rfl, fun w hw => by obtain ⟨x, rfl⟩ := hw; go_simp⟩) hS ?_
            try simp only [Act.put, List.setIfInBounds_toArray, List.set_cons_zero, List.set_cons_succ, List.getElem_toArray, List.getElem_cons_zero, List.getElem_cons_succ]
            refine wpAnyH_take (i := 9) (v := .agg #[.int .i64 b0, .int .i64 b1, .int .i64 b2, .int .i64 b3, .int .i64 b4, .int .i64 b5, .int .i64 b6, .int .i64 b7]) rfl (by kernel_rfl) (by kernel_rfl) (by kernel_rfl) (fun _ _ _ h => h) (Or.inl ⟨by rfl, fun w hw => by obtain ⟨x, rfl⟩ := hw; go_simp⟩) hS ?_
            try simp only [Act.put, List.setIfInBounds_toArray, List.set_cons_zero, List.set_cons_succ, List.getElem_toArray, List.getElem_cons_zero, List.getElem_cons_succ]
            refine wpAnyH_take (i := 10) (v := .int .i64 nn) rfl (by kernel_rfl) (by kernel_rfl) (by kernel_rfl) (fun _ _ _ h => h) (Or.inl ⟨by rfl, fun w hw => by obtain ⟨x, rfl⟩ := hw; go_simp⟩) hS ?_
            try simp only [Act.put, List.setIfInBounds_toArray, List.set_cons_zero, List.set_cons_succ, List.getElem_toArray, List.getElem_cons_zero, List.getElem_cons_succ]
            refine wpAnyH_take (i := 11) (v := .int .i64 0) rfl (by kernel_rfl) (by kernel_rfl) (by kernel_rfl) (fun _ _ _ h => h) (Or.inl ⟨by rfl, fun w hw => by obtain ⟨x, rfl⟩ := hw; go_simp⟩) hS ?_
            try simp only [Act.put, List.setIfInBounds_toArray, List.set_cons_zero, List.set_cons_succ, List.getElem_toArray, List.getElem_cons_zero, List.getElem_cons_succ]
            refine wpAnyH_ready (rs := [12]) (by kernel_rfl) (by simp) ?_
            refine AllReadyH.cons rfl (fun K hK => ?_) AllReadyH.nil
            go_simp
            refine hK.out _ _ ⟨⟨_, Bt4.out.alloc Bt4.out.size _⟩, rfl⟩ (fun hS => ?_)
            clear hK K hS
            try simp only [Act.put, List.setIfInBounds_toArray, List.set_cons_zero, List.set_cons_succ, List.getElem_toArray, List.getElem_cons_zero, List.getElem_cons_succ]
            have Bt5 := Lib.hid (Bt4.out.alloc Bt4.out.size (RB zero8))
            have Ht5 := Lib.hid (new_at1 t4 (RB zero8))
            have Gt5 := Lib.hid Bt4.out.size
            change wpAnyH _ _ _ _ _ _ _ _ (t4.alloc (RB zero8))
            generalize t4.alloc (RB zero8) = t5 at *
            generalize t4.heap.size = ht5 at *
            have hS : ∃ x : Grow X, t5 = x.w := ⟨⟨t5, Bt5.out⟩, rfl⟩
            obtain ⟨q0, q1, q2, q3, q4, q5, q6, q7⟩ := RB_cells Ht5.out
            obtain ⟨f0, f1, f2, f3, f4, f5, f6, f7⟩ := RB_frees Ht5.out
            refine wpAnyH_ready (rs := [13]) (by kernel_rfl) (by simp) ?_
            refine AllReadyH.cons rfl (fun K hK => ?_) AllReadyH.nil
            go_simp
            refine hK.out _ _ ⟨⟨_, RB_put8 Bt5.out Gt5.out⟩, rfl⟩ (fun hS => ?_)
            clear hK K
            try simp only [Act.put, List.setIfInBounds_toArray, List.set_cons_zero, List.set_cons_succ, List.getElem_toArray, List.getElem_cons_zero, List.getElem_cons_succ]
            refine wpAnyH_take (i := 14) (v := .int .i64 nn) rfl (by kernel_rfl) (by kernel_rfl) (by kernel_rfl) (fun _ _ _ h => h) (Or.inl ⟨by rfl, fun w hw => by obtain ⟨x, rfl⟩ := hw; go_simp⟩) hS ?_
            try simp only [Act.put, List.setIfInBounds_toArray, List.set_cons_zero, List.set_cons_succ, List.getElem_toArray, List.getElem_cons_zero, List.getElem_cons_succ]
            refine wpAnyH_take (i := 15) (v := .int .i64 0) rfl (by kernel_rfl) (by kernel_rfl) (by kernel_rfl) (fun _ _ _ h => h) (Or.inl ⟨by rfl, fun w hw => by obtain ⟨x, rfl⟩ := hw; go_simp⟩) hS ?_
            try simp only [Act.put, List.setIfInBounds_toArray, List.set_cons_zero, List.set_cons_succ, List.getElem_toArray, List.getElem_cons_zero, List.getElem_cons_succ]
            refine wpAnyH_done (by kernel_rfl) ?_ _
            go_wp2_with fail
            go_meet
            exact ⟨ht5, rfl, rfl, rfl, RB_put8 Bt5.out Gt5.out, RB_set8 b0 b1 b2 b3 b4 b5 b6 b7 Ht5.out⟩
          refine AllReadyH.cons rfl (fun K hK => ?_) ?_
          · skip
            go_simp
            refine hK.out _ _ ⟨⟨_, Bt3.out.alloc Bt3.out.size _⟩, rfl⟩ (fun hS => ?_)
            clear hK K hS
            try simp only [Act.put, List.setIfInBounds_toArray, List.set_cons_zero, List.set_cons_succ, List.getElem_toArray, List.getElem_cons_zero, List.getElem_cons_succ]
            have Bt6 := Lib.hid (Bt3.out.alloc Bt3.out.size (RB zero8))
            have Ht6 := Lib.hid (new_at1 t3 (RB zero8))
            have Gt6 := Lib.hid Bt3.out.size
            have E6 := Lib.hid (E5.out.up (new_below t3 (RB zero8)))
            clear E5
            have Ot6 := Lib.hid (Ot3.out.alloc (RB zero8))
            have Nt6 := Lib.hid (fun e => Nat.lt_irrefl _ (own_lt Ot3.out e) : (Value.slice A5 pq.length c5 : Value).ownBlock ≠ some t3.heap.size)
            change wpAnyH _ _ _ _ _ _ _ _ (t3.alloc (RB zero8))
            generalize t3.alloc (RB zero8) = t6 at *
            generalize t3.heap.size = ht6 at *
            have hS : ∃ x : Grow X, t6 = x.w := ⟨⟨t6, Bt6.out⟩, rfl⟩
            have E5 := E6
            clear E6
            refine wpAnyH_ready (rs := [7]) (by kernel_rfl) (by simp) ?_
            refine AllReadyH.cons rfl (fun K hK => ?_) AllReadyH.nil
            go_simp
            with_reducible refine (HR3.out _ _ _ E5.out).mono ?_
            rintro z t7 ⟨rfl, hb⟩
            have Bt7 := Lib.hid (bstep Bt6.out Bt6.out.size hb)
            have Ht7 := Lib.hid ((hb.block _ (RB_lt Ht6.out)).trans Ht6.out)
            clear hb
            refine hK.out _ _ ⟨⟨_, Bt7.out⟩, rfl⟩ (fun hS => ?_)
            clear hK K
            try simp only [Act.put, List.setIfInBounds_toArray, List.set_cons_zero, List.set_cons_succ, List.getElem_toArray, List.getElem_cons_zero, List.getElem_cons_succ]
            refine wpAnyH_take (i := 8) (v := .tuple #[.agg #[.int .i64 b0, .int .i64 b1, .int .i64 b2, .int .i64 b3, .int .i64 b4, .int .i64 b5, .int .i64 b6, .int .i64 b7], .int .i64 nn, .int .i64 0]) rfl (by kernel_rfl) (by kernel_rfl) (by kernel_rfl) (fun _ _ _ h => h) (Or.inl ⟨by rfl, fun w hw => by obtain ⟨x, rfl⟩ := hw; go_simp⟩) hS ?_
            try simp only [Act.put, List.setIfInBounds_toArray, List.set_cons_zero, List.set_cons_succ, List.getElem_toArray, List.getElem_cons_zero, List.getElem_cons_succ]
            refine wpAnyH_take (i := 9) (v := .agg #[.int .i64 b0, .int .i64 b1, .int .i64 b2, .int .i64 b3, .int .i64 b4, .int .i64 b5, .int .i64 b6, .int .i64 b7]) rfl (by kernel_rfl) (by kernel_rfl) (by kernel_rfl) (fun _ _ _ h => h) (Or.inl ⟨by rfl, fun w hw => by obtain ⟨x, rfl⟩ := hw; go_simp⟩) hS ?_
            try simp only [Act.put, List.setIfInBounds_toArray, List.set_cons_zero, List.set_cons_succ, List.getElem_toArray, List.getElem_cons_zero, List.getElem_cons_succ]
            refine wpAnyH_take (i := 10) (v := .int .i64 nn) rfl (by kernel_rfl) (by kernel_rfl) (by kernel_rfl) (fun _ _ _ h => h) (Or.inl ⟨by rfl, fun w hw => by obtain ⟨x, rfl⟩ := hw; go_simp⟩) hS ?_
            try simp only [Act.put, List.setIfInBounds_toArray, List.set_cons_zero, List.set_cons_succ, List.getElem_toArray, List.getElem_cons_zero, List.getElem_cons_succ]
            refine wpAnyH_take (i := 11) (v := .int .i64 0) rfl (by kernel_rfl) (by kernel_rfl) (by kernel_rfl) (fun _ _ _ h => h) (Or.inl ⟨by rfl, fun w hw => by obtain ⟨x, rfl⟩ := hw; go_simp⟩) hS ?_
            try simp only [Act.put, List.setIfInBounds_toArray, List.set_cons_zero, List.set_cons_succ, List.getElem_toArray, List.getElem_cons_zero, List.getElem_cons_succ]
            obtain ⟨q0, q1, q2, q3, q4, q5, q6, q7⟩ := RB_cells Ht7.out
            obtain ⟨f0, f1, f2, f3, f4, f5, f6, f7⟩ := RB_frees Ht7.out
            refine wpAnyH_ready (rs := [13]) (by kernel_rfl) (by simp) ?_
            refine AllReadyH.cons rfl (fun K hK => ?_) AllReadyH.nil
            go_simp
            refine hK.out _ _ ⟨⟨_, RB_put8 Bt7.out Gt6.out⟩, rfl⟩ (fun hS => ?_)
            clear hK K
            try simp only [Act.put, List.setIfInBounds_toArray, List.set_cons_zero, List.set_cons_succ, List.getElem_toArray, List.getElem_cons_zero, List.getElem_cons_succ]
            refine wpAnyH_take (i := 14) (v := .int .i64 nn) rfl (by kernel_rfl) (by kernel_rfl) (by kernel_rfl) (fun _ _ _ h => h) (Or.inl ⟨by rfl, fun w hw => by obtain ⟨x, rfl⟩ := hw; go_simp⟩) hS ?_
            try simp only [Act.put, List.setIfInBounds_toArray, List.set_cons_zero, List.set_cons_succ, List.getElem_toArray, List.getElem_cons_zero, List.getElem_cons_succ]
            refine wpAnyH_take (i := 15) (v := .int .i64 0) rfl (by kernel_rfl) (by kernel_rfl) (by kernel_rfl) (fun _ _ _ h => h) (Or.inl ⟨by rfl, fun w hw => by obtain ⟨x, rfl⟩ := hw; go_simp⟩) hS ?_
            try simp only [Act.put, List.setIfInBounds_toArray, List.set_cons_zero, List.set_cons_succ, List.getElem_toArray, List.getElem_cons_zero, List.getElem_cons_succ]
            refine wpAnyH_done (by kernel_rfl) ?_ _
            go_wp2_with fail
            go_meet
            exact ⟨ht6, rfl, rfl, rfl, RB_put8 Bt7.out Gt6.out, RB_set8 b0 b1 b2 b3 b4 b5 b6 b7 Ht7.out⟩
          exact AllReadyH.nil
        refine AllReadyH.cons rfl (fun K hK => ?_) ?_
        · skip
          go_simp
          refine hK.out _ _ ⟨⟨_, Bt2.out.alloc Bt2.out.size _⟩, rfl⟩ (fun hS => ?_)
          clear hK K hS
          try simp only [Act.put, List.setIfInBounds_toArray, List.set_cons_zero, List.set_cons_succ, List.getElem_toArray, List.getElem_cons_zero, List.getElem_cons_succ]
          have Bt8 := Lib.hid (Bt2.out.alloc Bt2.out.size (RB zero8))
          have Ht8 := Lib.hid (new_at1 t2 (RB zero8))
          have Gt8 := Lib.hid Bt2.out.size
          have Ot8 := Lib.hid (Ot2.out.alloc (RB zero8))
          have Nt8 := Lib.hid (fun e => Nat.lt_irrefl _ (own_lt Ot2.out e) : (vt2 : Value).ownBlock ≠ some t2.heap.size)
          change wpAnyH _ _ _ _ _ _ _ _ (t2.alloc (RB zero8))
          generalize t2.alloc (RB zero8) = t8 at *
          generalize t2.heap.size = ht8 at *
          have hS : ∃ x : Grow X, t8 = x.w := ⟨⟨t8, Bt8.out⟩, rfl⟩
          refine wpAnyH_ready (rs := [4]) (by kernel_rfl) (by simp) ?_
          refine AllReadyH.cons rfl (fun K hK => ?_) AllReadyH.nil
          rw [if_pos (by rfl)]
          refine opw_appendI (.tmp 60) (.tmp 61) X.heap.size (vt2) p q g2 nq c4 rfl rfl rfl Ot8.out (flat_below FQX.out Bt8.out hg2X) HNQ.out (by have := HNP.out; omega) (by omega) Bt8.out.size ?_
          intro vt9 t9 ho hb hk
          have Ot9 := Lib.hid (show OwnE EI t9 X.heap.size vt9 pq by rw [← HPQ.out]; exact ho)
          have Bt9 := Lib.hid (Bt8.out.trans hb)
          obtain ⟨k1, k2⟩ := hk ht8 _ Ht8.out Nt8.out
          have Ht9 := Lib.hid k1
          have Nt9 := Lib.hid k2
          clear k1 k2
          clear ho hb hk
          obtain ⟨A5, c5, rfl, -, -, hes⟩ := Ot9.out.es
          have E5 := Lib.hid hes
          clear hes
          refine hK.out _ _ ⟨⟨_, Bt9.out⟩, rfl⟩ (fun hS => ?_)
          clear hK K
          try simp only [Act.put, List.setIfInBounds_toArray, List.set_cons_zero, List.set_cons_succ, List.getElem_toArray, List.getElem_cons_zero, List.getElem_cons_succ]
          refine wpAnyH_ready (rs := [7]) (by kernel_rfl) (by simp) ?_
          refine AllReadyH.cons rfl (fun K hK => ?_) AllReadyH.nil
          go_simp
          with_reducible refine (HR3.out _ _ _ E5.out).mono ?_
          rintro z t10 ⟨rfl, hb⟩
          have Bt10 := Lib.hid (bstep Bt9.out Bt9.out.size hb)
          have Ht10 := Lib.hid ((hb.block _ (RB_lt Ht9.out)).trans Ht9.out)
          clear hb
          refine hK.out _ _ ⟨⟨_, Bt10.out⟩, rfl⟩ (fun hS => ?_)
          clear hK K
          try simp only [Act.put, List.setIfInBounds_toArray, List.set_cons_zero, List.set_cons_succ, List.getElem_toArray, List.getElem_cons_zero, List.getElem_cons_succ]
          refine wpAnyH_take (i := 8) (v := .tuple #[.agg #[.int .i64 b0, .int .i64 b1, .int .i64 b2, .int .i64 b3, .int .i64 b4, .int .i64 b5, .int .i64 b6, .int .i64 b7], .int .i64 nn, .int .i64 0]) rfl (by kernel_rfl) (by kernel_rfl) (by kernel_rfl) (fun _ _ _ h => h) (Or.inl ⟨by rfl, fun w hw => by obtain ⟨x, rfl⟩ := hw; go_simp⟩) hS ?_
          try simp only [Act.put, List.setIfInBounds_toArray, List.set_cons_zero, List.set_cons_succ, List.getElem_toArray, List.getElem_cons_zero, List.getElem_cons_succ]
          refine wpAnyH_take (i := 9) (v := .agg #[.int .i64 b0, .int .i64 b1, .int .i64 b2, .int .i64 b3, .int .i64 b4, .int .i64 b5, .int .i64 b6, .int .i64 b7]) rfl (by kernel_rfl) (by kernel_rfl) (by kernel_rfl) (fun _ _ _ h => h) (Or.inl ⟨by rfl, fun w hw => by obtain ⟨x, rfl⟩ := hw; go_simp⟩) hS ?_
          try simp only [Act.put, List.setIfInBounds_toArray, List.set_cons_zero, List.set_cons_succ, List.getElem_toArray, List.getElem_cons_zero, List.getElem_cons_succ]
          refine wpAnyH_take (i := 10) (v := .int .i64 nn) rfl (by kernel_rfl) (by kernel_rfl) (by kernel_rfl) (fun _ _ _ h => h) (Or.inl ⟨by rfl, fun w hw => by obtain ⟨x, rfl⟩ := hw; go_simp⟩) hS ?_
          try simp only [Act.put, List.setIfInBounds_toArray, List.set_cons_zero, List.set_cons_succ, List.getElem_toArray, List.getElem_cons_zero, List.getElem_cons_succ]
          refine wpAnyH_take (i := 11) (v := .int .i64 0) rfl (by kernel_rfl) (by kernel_rfl) (by kernel_rfl) (fun _ _ _ h => h) (Or.inl ⟨by rfl, fun w hw => by obtain ⟨x, rfl⟩ := hw; go_simp⟩) hS ?_
          try simp only [Act.put, List.setIfInBounds_toArray, List.set_cons_zero, List.set_cons_succ, List.getElem_toArray, List.getElem_cons_zero, List.getElem_cons_succ]
          obtain ⟨q0, q1, q2, q3, q4, q5, q6, q7⟩ := RB_cells Ht10.out
          obtain ⟨f0, f1, f2, f3, f4, f5, f6, f7⟩ := RB_frees Ht10.out
          refine wpAnyH_ready (rs := [13]) (by kernel_rfl) (by simp) ?_
          refine AllReadyH.cons rfl (fun K hK => ?_) AllReadyH.nil
          go_simp
          refine hK.out _ _ ⟨⟨_, RB_put8 Bt10.out Gt8.out⟩, rfl⟩ (fun hS => ?_)
          clear hK K
          try simp only [Act.put, List.setIfInBounds_toArray, List.set_cons_zero, List.set_cons_succ, List.getElem_toArray, List.getElem_cons_zero, List.getElem_cons_succ]
          refine wpAnyH_take (i := 14) (v := .int .i64 nn) rfl (by kernel_rfl) (by kernel_rfl) (by kernel_rfl) (fun _ _ _ h => h) (Or.inl ⟨by rfl, fun w hw => by obtain ⟨x, rfl⟩ := hw; go_simp⟩) hS ?_
          try simp only [Act.put, List.setIfInBounds_toArray, List.set_cons_zero, List.set_cons_succ, List.getElem_toArray, List.getElem_cons_zero, List.getElem_cons_succ]
          refine wpAnyH_take (i := 15) (v := .int .i64 0) rfl (by kernel_rfl) (by kernel_rfl) (by kernel_rfl) (fun _ _ _ h => h) (Or.inl ⟨by rfl, fun w hw => by obtain ⟨x, rfl⟩ := hw; go_simp⟩) hS ?_
          try simp only [Act.put, List.setIfInBounds_toArray, List.set_cons_zero, List.set_cons_succ, List.getElem_toArray, List.getElem_cons_zero, List.getElem_cons_succ]
          refine wpAnyH_done (by kernel_rfl) ?_ _
          go_wp2_with fail
          go_meet
          exact ⟨ht8, rfl, rfl, rfl, RB_put8 Bt10.out Gt8.out, RB_set8 b0 b1 b2 b3 b4 b5 b6 b7 Ht10.out⟩
        exact AllReadyH.nil
      refine AllReadyH.cons rfl (fun K hK => ?_) ?_
      · skip
        go_simp
        refine hK.out _ _ ⟨⟨_, Bt1.out.alloc Bt1.out.size _⟩, rfl⟩ (fun hS => ?_)
        clear hK K hS
        try simp only [Act.put, List.setIfInBounds_toArray, List.set_cons_zero, List.set_cons_succ, List.getElem_toArray, List.getElem_cons_zero, List.getElem_cons_succ]
        have Bt11 := Lib.hid (Bt1.out.alloc Bt1.out.size (RB zero8))
        have Ht11 := Lib.hid (new_at1 t1 (RB zero8))
        have Gt11 := Lib.hid Bt1.out.size
        have Ot11 := Lib.hid (Ot1.out.alloc (RB zero8))
        have Nt11 := Lib.hid (fun e => Nat.lt_irrefl _ (own_lt Ot1.out e) : (Value.slice (some ⟨et1, 0, none⟩) 0 0 : Value).ownBlock ≠ some t1.heap.size)
        change wpAnyH _ _ _ _ _ _ _ _ (t1.alloc (RB zero8))
        generalize t1.alloc (RB zero8) = t11 at *
        generalize t1.heap.size = ht11 at *
        have hS : ∃ x : Grow X, t11 = x.w := ⟨⟨t11, Bt11.out⟩, rfl⟩
        refine wpAnyH_ready (rs := [2]) (by kernel_rfl) (by simp) ?_
        refine AllReadyH.cons rfl (fun K hK => ?_) AllReadyH.nil
        rw [if_pos (by rfl)]
        refine opw_appendI (.tmp 58) (.tmp 59) X.heap.size (Value.slice (some ⟨et1, 0, none⟩) 0 0) [] p g1 np c3 rfl rfl rfl Ot11.out (flat_below FPX.out Bt11.out hg1X) HNP.out (by simp) (by omega) Bt11.out.size ?_
        intro vt12 t12 ho hb hk
        have Ot12 := Lib.hid (show OwnE EI t12 X.heap.size vt12 p by simpa using ho)
        have Bt12 := Lib.hid (Bt11.out.trans hb)
        obtain ⟨k1, k2⟩ := hk ht11 _ Ht11.out Nt11.out
        have Ht12 := Lib.hid k1
        have Nt12 := Lib.hid k2
        clear k1 k2
        clear ho hb hk
        refine hK.out _ _ ⟨⟨_, Bt12.out⟩, rfl⟩ (fun hS => ?_)
        clear hK K
        try simp only [Act.put, List.setIfInBounds_toArray, List.set_cons_zero, List.set_cons_succ, List.getElem_toArray, List.getElem_cons_zero, List.getElem_cons_succ]
        refine wpAnyH_ready (rs := [4]) (by kernel_rfl) (by simp) ?_
        refine AllReadyH.cons rfl (fun K hK => ?_) AllReadyH.nil
        rw [if_pos (by rfl)]
        refine opw_appendI (.tmp 60) (.tmp 61) X.heap.size (vt12) p q g2 nq c4 rfl rfl rfl Ot12.out (flat_below FQX.out Bt12.out hg2X) HNQ.out (by have := HNP.out; omega) (by omega) Bt12.out.size ?_
        intro vt13 t13 ho hb hk
        have Ot13 := Lib.hid (show OwnE EI t13 X.heap.size vt13 pq by rw [← HPQ.out]; exact ho)
        have Bt13 := Lib.hid (Bt12.out.trans hb)
        obtain ⟨k1, k2⟩ := hk ht11 _ Ht12.out Nt12.out
        have Ht13 := Lib.hid k1
        have Nt13 := Lib.hid k2
        clear k1 k2
        clear ho hb hk
        obtain ⟨A5, c5, rfl, -, -, hes⟩ := Ot13.out.es
        have E5 := Lib.hid hes
        clear hes
        refine hK.out _ _ ⟨⟨_, Bt13.out⟩, rfl⟩ (fun hS => ?_)
        clear hK K
        try simp only [Act.put, List.setIfInBounds_toArray, List.set_cons_zero, List.set_cons_succ, List.getElem_toArray, List.getElem_cons_zero, List.getElem_cons_succ]
        refine wpAnyH_ready (rs := [7]) (by kernel_rfl) (by simp) ?_
        refine AllReadyH.cons rfl (fun K hK => ?_) AllReadyH.nil
        go_simp
        with_reducible refine (HR3.out _ _ _ E5.out).mono ?_
        rintro z t14 ⟨rfl, hb⟩
        have Bt14 := Lib.hid (bstep Bt13.out Bt13.out.size hb)
        have Ht14 := Lib.hid ((hb.block _ (RB_lt Ht13.out)).trans Ht13.out)
        clear hb
        refine hK.out _ _ ⟨⟨_, Bt14.out⟩, rfl⟩ (fun hS => ?_)
        clear hK K
        try simp only [Act.put, List.setIfInBounds_toArray, List.set_cons_zero, List.set_cons_succ, List.getElem_toArray, List.getElem_cons_zero, List.getElem_cons_succ]
        refine wpAnyH_take (i := 8) (v := .tuple #[.agg #[.int .i64 b0, .int .i64 b1, .int .i64 b2, .int .i64 b3, .int .i64 b4, .int .i64 b5, .int .i64 b6, .int .i64 b7], .int .i64 nn, .int .i64 0]) rfl (by kernel_rfl) (by kernel_rfl) (by kernel_rfl) (fun _ _ _ h => h) (Or.inl ⟨by rfl, fun w hw => by obtain ⟨x, rfl⟩ := hw; go_simp⟩) hS ?_
        try simp only [Act.put, List.setIfInBounds_toArray, List.set_cons_zero, List.set_cons_succ, List.getElem_toArray, List.getElem_cons_zero, List.getElem_cons_succ]
        refine wpAnyH_take (i := 9) (v := .agg #[.int .i64 b0, .int .i64 b1, .int .i64 b2, .int .i64 b3, .int .i64 b4, .int .i64 b5, .int .i64 b6, .int .i64 b7]) rfl (by kernel_rfl) (by kernel_rfl) (by kernel_rfl) (fun _ _ _ h => h) (Or.inl ⟨by rfl, fun w hw => by obtain ⟨x, rfl⟩ := hw; go_simp⟩) hS ?_
        try simp only [Act.put, List.setIfInBounds_toArray, List.set_cons_zero, List.set_cons_succ, List.getElem_toArray, List.getElem_cons_zero, List.getElem_cons_succ]
        refine wpAnyH_take (i := 10) (v := .int .i64 nn) rfl (by kernel_rfl) (by kernel_rfl) (by kernel_rfl) (fun _ _ _ h => h) (Or.inl ⟨by rfl, fun w hw => by obtain ⟨x, rfl⟩ := hw; go_simp⟩) hS ?_
        try simp only [Act.put, List.setIfInBounds_toArray, List.set_cons_zero, List.set_cons_succ, List.getElem_toArray, List.getElem_cons_zero, List.getElem_cons_succ]
        refine wpAnyH_take (i := 11) (v := .int .i64 0) rfl (by kernel_rfl) (by kernel_rfl) (by kernel_rfl) (fun _ _ _ h => h) (Or.inl ⟨by rfl, fun w hw => by obtain ⟨x, rfl⟩ := hw; go_simp⟩) hS ?_
        try simp only [Act.put, List.setIfInBounds_toArray, List.set_cons_zero, List.set_cons_succ, List.getElem_toArray, List.getElem_cons_zero, List.getElem_cons_succ]
        obtain ⟨q0, q1, q2, q3, q4, q5, q6, q7⟩ := RB_cells Ht14.out
        obtain ⟨f0, f1, f2, f3, f4, f5, f6, f7⟩ := RB_frees Ht14.out
        refine wpAnyH_ready (rs := [13]) (by kernel_rfl) (by simp) ?_
        refine AllReadyH.cons rfl (fun K hK => ?_) AllReadyH.nil
        go_simp
        refine hK.out _ _ ⟨⟨_, RB_put8 Bt14.out Gt11.out⟩, rfl⟩ (fun hS => ?_)
        clear hK K
        try simp only [Act.put, List.setIfInBounds_toArray, List.set_cons_zero, List.set_cons_succ, List.getElem_toArray, List.getElem_cons_zero, List.getElem_cons_succ]
        refine wpAnyH_take (i := 14) (v := .int .i64 nn) rfl (by kernel_rfl) (by kernel_rfl) (by kernel_rfl) (fun _ _ _ h => h) (Or.inl ⟨by rfl, fun w hw => by obtain ⟨x, rfl⟩ := hw; go_simp⟩) hS ?_
        try simp only [Act.put, List.setIfInBounds_toArray, List.set_cons_zero, List.set_cons_succ, List.getElem_toArray, List.getElem_cons_zero, List.getElem_cons_succ]
        refine wpAnyH_take (i := 15) (v := .int .i64 0) rfl (by kernel_rfl) (by kernel_rfl) (by kernel_rfl) (fun _ _ _ h => h) (Or.inl ⟨by rfl, fun w hw => by obtain ⟨x, rfl⟩ := hw; go_simp⟩) hS ?_
        try simp only [Act.put, List.setIfInBounds_toArray, List.set_cons_zero, List.set_cons_succ, List.getElem_toArray, List.getElem_cons_zero, List.getElem_cons_succ]
        refine wpAnyH_done (by kernel_rfl) ?_ _
        go_wp2_with fail
        go_meet
        exact ⟨ht11, rfl, rfl, rfl, RB_put8 Bt14.out Gt11.out, RB_set8 b0 b1 b2 b3 b4 b5 b6 b7 Ht14.out⟩
      exact AllReadyH.nil
    refine AllReadyH.cons rfl (fun K hK => ?_) ?_
    · skip
      go_simp
      refine hK.out _ _ ⟨⟨_, B0.out.alloc B0.out.size _⟩, rfl⟩ (fun hS => ?_)
      clear hK K hS
      try simp only [Act.put, List.setIfInBounds_toArray, List.set_cons_zero, List.set_cons_succ, List.getElem_toArray, List.getElem_cons_zero, List.getElem_cons_succ]
      have Bt15 := Lib.hid (B0.out.alloc B0.out.size (RB zero8))
      have Ht15 := Lib.hid (new_at1 W0 (RB zero8))
      have Gt15 := Lib.hid B0.out.size
      change wpAnyH _ _ _ _ _ _ _ _ (W0.alloc (RB zero8))
      generalize W0.alloc (RB zero8) = t15 at *
      generalize W0.heap.size = ht15 at *
      have hS : ∃ x : Grow X, t15 = x.w := ⟨⟨t15, Bt15.out⟩, rfl⟩
      refine wpAnyH_ready (rs := [0]) (by kernel_rfl) (by simp) ?_
      refine AllReadyH.cons rfl (fun K hK => ?_) AllReadyH.nil
      go_simp
      refine hK.out _ _ ⟨⟨_, Bt15.out.alloc Bt15.out.size _⟩, rfl⟩ (fun hS => ?_)
      clear hK K hS
      try simp only [Act.put, List.setIfInBounds_toArray, List.set_cons_zero, List.set_cons_succ, List.getElem_toArray, List.getElem_cons_zero, List.getElem_cons_succ]
      have Bt16 := Lib.hid (Bt15.out.alloc Bt15.out.size (.cells #[] 45))
      have Ot16 := Lib.hid (show OwnE EI (t15.alloc (.cells #[] 45)) X.heap.size (.slice (some ⟨t15.heap.size, 0, none⟩) 0 0) [] from ownE_empty (E := EI) (base := X.heap.size) t15 Bt15.out.size)
      have Ht16 := Lib.hid (new_keep (.cells #[] 45) Ht15.out)
      have Nt16 := Lib.hid (show (Value.slice (some ⟨t15.heap.size, 0, none⟩) 0 0).ownBlock ≠ some ht15 from fun e => by have := RB_lt Ht15.out; simp [Value.ownBlock] at e; omega)
      change wpAnyH _ _ _ _ _ _ _ _ (t15.alloc (.cells #[] 45))
      generalize t15.alloc (.cells #[] 45) = t16 at *
      generalize t15.heap.size = et16 at *
      have hS : ∃ x : Grow X, t16 = x.w := ⟨⟨t16, Bt16.out⟩, rfl⟩
      refine wpAnyH_ready (rs := [2]) (by kernel_rfl) (by simp) ?_
      refine AllReadyH.cons rfl (fun K hK => ?_) AllReadyH.nil
      rw [if_pos (by rfl)]
      refine opw_appendI (.tmp 58) (.tmp 59) X.heap.size (Value.slice (some ⟨et16, 0, none⟩) 0 0) [] p g1 np c3 rfl rfl rfl Ot16.out (flat_below FPX.out Bt16.out hg1X) HNP.out (by simp) (by omega) Bt16.out.size ?_
      intro vt17 t17 ho hb hk
      have Ot17 := Lib.hid (show OwnE EI t17 X.heap.size vt17 p by simpa using ho)
      have Bt17 := Lib.hid (Bt16.out.trans hb)
      obtain ⟨k1, k2⟩ := hk ht15 _ Ht16.out Nt16.out
      have Ht17 := Lib.hid k1
      have Nt17 := Lib.hid k2
      clear k1 k2
      clear ho hb hk
      refine hK.out _ _ ⟨⟨_, Bt17.out⟩, rfl⟩ (fun hS => ?_)
      clear hK K
      try simp only [Act.put, List.setIfInBounds_toArray, List.set_cons_zero, List.set_cons_succ, List.getElem_toArray, List.getElem_cons_zero, List.getElem_cons_succ]
      refine wpAnyH_ready (rs := [4]) (by kernel_rfl) (by simp) ?_
      refine AllReadyH.cons rfl (fun K hK => ?_) AllReadyH.nil
      rw [if_pos (by rfl)]
      refine opw_appendI (.tmp 60) (.tmp 61) X.heap.size (vt17) p q g2 nq c4 rfl rfl rfl Ot17.out (flat_below FQX.out Bt17.out hg2X) HNQ.out (by have := HNP.out; omega) (by omega) Bt17.out.size ?_
      intro vt18 t18 ho hb hk
      have Ot18 := Lib.hid (show OwnE EI t18 X.heap.size vt18 pq by rw [← HPQ.out]; exact ho)
      have Bt18 := Lib.hid (Bt17.out.trans hb)
      obtain ⟨k1, k2⟩ := hk ht15 _ Ht17.out Nt17.out
      have Ht18 := Lib.hid k1
      have Nt18 := Lib.hid k2
      clear k1 k2
      clear ho hb hk
      obtain ⟨A5, c5, rfl, -, -, hes⟩ := Ot18.out.es
      have E5 := Lib.hid hes
      clear hes
      refine hK.out _ _ ⟨⟨_, Bt18.out⟩, rfl⟩ (fun hS => ?_)
      clear hK K
      try simp only [Act.put, List.setIfInBounds_toArray, List.set_cons_zero, List.set_cons_succ, List.getElem_toArray, List.getElem_cons_zero, List.getElem_cons_succ]
      refine wpAnyH_ready (rs := [7]) (by kernel_rfl) (by simp) ?_
      refine AllReadyH.cons rfl (fun K hK => ?_) AllReadyH.nil
      go_simp
      with_reducible refine (HR3.out _ _ _ E5.out).mono ?_
      rintro z t19 ⟨rfl, hb⟩
      have Bt19 := Lib.hid (bstep Bt18.out Bt18.out.size hb)
      have Ht19 := Lib.hid ((hb.block _ (RB_lt Ht18.out)).trans Ht18.out)
      clear hb
      refine hK.out _ _ ⟨⟨_, Bt19.out⟩, rfl⟩ (fun hS => ?_)
      clear hK K
      try simp only [Act.put, List.setIfInBounds_toArray, List.set_cons_zero, List.set_cons_succ, List.getElem_toArray, List.getElem_cons_zero, List.getElem_cons_succ]
      refine wpAnyH_take (i := 8) (v := .tuple #[.agg #[.int .i64 b0, .int .i64 b1, .int .i64 b2, .int .i64 b3, .int .i64 b4, .int .i64 b5, .int .i64 b6, .int .i64 b7], .int .i64 nn, .int .i64 0]) rfl (by kernel_rfl) (by kernel_rfl) (by kernel_rfl) (fun _ _ _ h => h) (Or.inl ⟨by rfl, fun w hw => by obtain ⟨x, rfl⟩ := hw; go_simp⟩) hS ?_
      try simp only [Act.put, List.setIfInBounds_toArray, List.set_cons_zero, List.set_cons_succ, List.getElem_toArray, List.getElem_cons_zero, List.getElem_cons_succ]
      refine wpAnyH_take (i := 9) (v := .agg #[.int .i64 b0, .int .i64 b1, .int .i64 b2, .int .i64 b3, .int .i64 b4, .int .i64 b5, .int .i64 b6, .int .i64 b7]) rfl (by kernel_rfl) (by kernel_rfl) (by kernel_rfl) (fun _ _ _ h => h) (Or.inl ⟨by rfl, fun w hw => by obtain ⟨x, rfl⟩ := hw; go_simp⟩) hS ?_
      try simp only [Act.put, List.setIfInBounds_toArray, List.set_cons_zero, List.set_cons_succ, List.getElem_toArray, List.getElem_cons_zero, List.getElem_cons_succ]
      refine wpAnyH_take (i := 10) (v := .int .i64 nn) rfl (by kernel_rfl) (by kernel_rfl) (by kernel_rfl) (fun _ _ _ h => h) (Or.inl ⟨by rfl, fun w hw => by obtain ⟨x, rfl⟩ := hw; go_simp⟩) hS ?_
      try simp only [Act.put, List.setIfInBounds_toArray, List.set_cons_zero, List.set_cons_succ, List.getElem_toArray, List.getElem_cons_zero, List.getElem_cons_succ]
      refine wpAnyH_take (i := 11) (v := .int .i64 0) rfl (by kernel_rfl) (by kernel_rfl) (by kernel_rfl) (fun _ _ _ h => h) (Or.inl ⟨by rfl, fun w hw => by obtain ⟨x, rfl⟩ := hw; go_simp⟩) hS ?_
      try simp only [Act.put, List.setIfInBounds_toArray, List.set_cons_zero, List.set_cons_succ, List.getElem_toArray, List.getElem_cons_zero, List.getElem_cons_succ]
      obtain ⟨q0, q1, q2, q3, q4, q5, q6, q7⟩ := RB_cells Ht19.out
      obtain ⟨f0, f1, f2, f3, f4, f5, f6, f7⟩ := RB_frees Ht19.out
      refine wpAnyH_ready (rs := [13]) (by kernel_rfl) (by simp) ?_
      refine AllReadyH.cons rfl (fun K hK => ?_) AllReadyH.nil
      go_simp
      refine hK.out _ _ ⟨⟨_, RB_put8 Bt19.out Gt15.out⟩, rfl⟩ (fun hS => ?_)
      clear hK K
      try simp only [Act.put, List.setIfInBounds_toArray, List.set_cons_zero, List.set_cons_succ, List.getElem_toArray, List.getElem_cons_zero, List.getElem_cons_succ]
      refine wpAnyH_take (i := 14) (v := .int .i64 nn) rfl (by kernel_rfl) (by kernel_rfl) (by kernel_rfl) (fun _ _ _ h => h) (Or.inl ⟨by rfl, fun w hw => by obtain ⟨x, rfl⟩ := hw; go_simp⟩) hS ?_
      try simp only [Act.put, List.setIfInBounds_toArray, List.set_cons_zero, List.set_cons_succ, List.getElem_toArray, List.getElem_cons_zero, List.getElem_cons_succ]
      refine wpAnyH_take (i := 15) (v := .int .i64 0) rfl (by kernel_rfl) (by kernel_rfl) (by kernel_rfl) (fun _ _ _ h => h) (Or.inl ⟨by rfl, fun w hw => by obtain ⟨x, rfl⟩ := hw; go_simp⟩) hS ?_
      try simp only [Act.put, List.setIfInBounds_toArray, List.set_cons_zero, List.set_cons_succ, List.getElem_toArray, List.getElem_cons_zero, List.getElem_cons_succ]
      refine wpAnyH_done (by kernel_rfl) ?_ _
      go_wp2_with fail
      go_meet
      exact ⟨ht15, rfl, rfl, rfl, RB_put8 Bt19.out Gt15.out, RB_set8 b0 b1 b2 b3 b4 b5 b6 b7 Ht19.out⟩
    exact AllReadyH.nil
  rename World => V3
  obtain ⟨h, rfl, rfl, rfl, BC, HC⟩ := hcut
  have D3 := Lib.hid (D2.out.trans (BC.mono hx))
  have Na3 := Lib.hid ((BC.block _ (RB_lt Na.out)).trans Na.out)
  have Nb3 := Lib.hid ((BC.block _ (RB_lt Nb.out)).trans Nb.out)
  have Nc3 := Lib.hid HC
  clear BC HC D2 Na Nb HR1 HR2 HR3 hx FP FQ LQ HNQ HLPQ Q3
  have gnn : IntKind.i64.wrap ((np : Int) + (nq : Int)) = (nn : Int) := by have := HNN.out; rw [IntKind.wrap_i64]; omega
  obtain ⟨q0, q1, q2, q3, q4, q5, q6, q7⟩ := RB_cells Nb3.out
  obtain ⟨s0, s1, s2, s3, s4, s5, s6, s7⟩ := RB_cells Nc3.out
  go_upto_region 14 with fail
  clear q0 q1 q2 q3 q4 q5 q6 q7 s0 s1 s2 s3 s4 s5 s6 s7 Nb3 Nc3 gnn HNN hnn hql
  have D4 := Lib.hid (bstep D3.out D3.out.size (new_below V3 (TB (List.replicate 8 false))))
  have T4 := Lib.hid (new_at1 V3 (TB (List.replicate 8 false)))
  have Na4 := Lib.hid (new_keep (TB (List.replicate 8 false)) Na3.out)
  have hg1t := Nat.lt_of_lt_of_le hg3 D3.out.size
  have hyt := Nat.lt_of_lt_of_le hy D3.out.size
  have hat := RB_lt Na3.out
  have htb0 := D3.out.size
  clear D3 Na3
  change Code.wp _ _ _ _ (V3.alloc (TB (List.replicate 8 false)))
  generalize V3.alloc (TB (List.replicate 8 false)) = V4 at *
  generalize V3.heap.size = tb at *
  have LP4 := Lib.hid ((LP.out.below D4.out).more D4.out.size)
  have O40 := Lib.hid (onlyw_refl tb V4)
  go_wp2_with fail
  go_loopw [20] (fun i wr => ∃ j : Nat, j ≤ np ∧ i = .int .i64 j ∧ Onlyw tb V4 wr ∧ wr.heap[tb]? = some (TB (tolds (p.take j)))) (fun i _ => np - (intOf i).toNat)
  case atStart => exact ⟨0, Nat.zero_le _, rfl, O40.out, T4.out⟩
  case round =>
    clear O40 T4
    obtain ⟨j, hj, rfl, ho, ht⟩ := hrel
    have HO := Lib.hid ho
    have HT := Lib.hid ht
    clear ho ht
    by_cases hlt : j < np
    · obtain ⟨x, hxj⟩ := HGP.out j hlt
      obtain ⟨b, off, e1, -, hat1⟩ := LP4.out.at hxj
      cases e1
      obtain ⟨-, c1, -, -, -⟩ := atI (show AtE EI V4 g1 (0 + j * 5) x from hat1)
      rw [Nat.zero_add] at c1
      obtain ⟨d0, d1⟩ := HDK.out j x hxj
      obtain ⟨d, hd⟩ : ∃ d : Nat, x.d = d := ⟨x.d.toNat, by omega⟩
      have hsn := tolds_snoc hxj
      rw [show x.d.toNat = d by omega] at hsn
      rw [hd] at c1
      have hne : g1 ≠ tb := by omega
      have c1w : wr.cell? ⟨g1, j * 5 + 1, none⟩ = some (.int .u8 d) := by
        have hl4 := World.block_lt_of_cell? _ _ c1
        have e := HO.out.blk g1 hne hl4
        unfold World.cell? at c1 ⊢
        rw [show wr.heap[(⟨g1, j * 5 + 1, none⟩ : Addr).block]? = V4.heap[(⟨g1, j * 5 + 1, none⟩ : Addr).block]? from e]
        exact c1
      have hd7 : d ≤ 7 := by omega
      have hd8 : d < 8 := by omega
      have htl := tolds_len (p.take j)
      have HSN := Lib.hid hsn
      generalize tolds (p.take j) = tt at *
      have hcell := TB_cell HT.out (k := d) (by omega)
      have hf := TB_free HT.out d
      have HB2 := Lib.hid (TB_set (k := d) true HT.out)
      have HO2 := Lib.hid (HO.out.trans ((Only.refl tb wr).setCell d (.bool true)).w)
      have hlt' : (j : Int) < np := by omega
      clear hsn hd d0 d1 hxj hat1 c1 htl
      go_wp2_with fail
      go_roundw
      case rel => exact ⟨j + 1, by omega, by go_num, HO2.out, by rw [HSN.out]; exact HB2.out⟩
      case measure => simp [intOf]; omega
    · have hjn : j = np := by omega
      have hlt' : ¬ (j : Int) < np := by omega
      have ht := HT.out
      rw [hjn, HTN.out] at ht
      have T5 := Lib.hid ht
      clear ht HT hjn
      have NO := Lib.hid (fun (j : Nat) (h : j < 8) (e : (tolds p).getD j false = false) => tolds_no h e)
      have htl := tolds_len p
      generalize tolds p = tt at *
      go_upto_region 19 with fail
      have O5 := Lib.hid (HO.out.trans (onlyw_of (new_below wr (RB zero8)) (Nat.le_of_lt (Array.getElem?_eq_some_iff.1 T5.out).1)))
      have M5 := Lib.hid (new_at1 wr (RB zero8))
      have T6 := Lib.hid (new_keep (RB zero8) T5.out)
      have htw := (Array.getElem?_eq_some_iff.1 T5.out).1
      have hsz := HO.out.size
      clear HO T5
      change Code.wp _ _ _ _ (wr.alloc (RB zero8))
      generalize wr.alloc (RB zero8) = V5 at *
      generalize wr.heap.size = mb at *
      have D4b := Lib.hid (show Below w3.heap.size w3 V5 from D4.out.trans (O5.out.below _ (by omega)))
      have Y5 := Lib.hid ((O5.out.blk _ (by omega) (Nat.lt_of_lt_of_le hy D4.out.size)).trans ((D4.out.block _ hy).trans Y2.out))
      have Na5 := Lib.hid ((O5.out.blk _ (by omega) (RB_lt Na4.out)).trans Na4.out)
      have hyv := RB_lt Y5.out
      have hav := RB_lt Na5.out
      have O50 := Lib.hid (onlyw_refl mb V5)
      have M50 := Lib.hid (show V5.heap[mb]? = some (RB (mores [r0', r1', r2', r3', r4', r5', r6', r7'] 0)) from M5.out)
      go_wp2_with fail
      go_loopw [22] (fun i wq => ∃ j : Nat, j ≤ 8 ∧ i = .int .i64 j ∧ Onlyw mb V5 wq ∧ wq.heap[mb]? = some (RB (mores [r0', r1', r2', r3', r4', r5', r6', r7'] j))) (fun i _ => 8 - (intOf i).toNat)
      case atStart => exact ⟨0, by omega, rfl, O50.out, M50.out⟩
      case round =>
        rename World => wq
        clear O50 M50 M5
        obtain ⟨j2, hj2, rfl, ho, hm⟩ := hrel
        have HO := Lib.hid ho
        have HM := Lib.hid hm
        clear ho hm
        by_cases hl8 : j2 < 8
        · have hl8' : (j2 : Int) < 8 := by omega
          have kt := TB_cell (HO.out.keep (by omega) T6.out) (k := j2) (by omega)
          have ka := RB_cell (HO.out.keep (by omega) Na5.out) (k := j2) (show j2 < 8 by omega)
          have kr := RB_cell (HO.out.keep (by omega) Y5.out) (k := j2) (show j2 < 8 by omega)
          have hai := HREG.out.at j2
          have hmore := mores_set (R := [r0', r1', r2', r3', r4', r5', r6', r7']) rfl hl8
          have hml := mores_len (R := [r0', r1', r2', r3', r4', r5', r6', r7']) rfl (Nat.le_of_lt hl8)
          have hrw : ([r0', r1', r2', r3', r4', r5', r6', r7'].map w32).getD j2 0 = w32 ([r0', r1', r2', r3', r4', r5', r6', r7'].getD j2 0) := by
            rw [List.getD_eq_getElem?_getD, List.getD_eq_getElem?_getD, List.getElem?_map]
            cases [r0', r1', r2', r3', r4', r5', r6', r7'][j2]? <;> rfl
          have hkeep := fun e => (HKEEP.out j2 (NO.out j2 hl8 e)).trans hrw
          obtain ⟨rv, hrv⟩ : ∃ n, [r0', r1', r2', r3', r4', r5', r6', r7'].getD j2 0 = n := ⟨_, rfl⟩
          obtain ⟨av, hav1⟩ : ∃ n, [a0, a1, a2, a3, a4, a5, a6, a7].getD j2 0 = n := ⟨_, rfl⟩
          obtain ⟨tv, htv⟩ : ∃ n, tt.getD j2 false = n := ⟨_, rfl⟩
          rw [hrv] at hkeep kr hmore
          rw [hav1] at hai hkeep ka
          rw [htv] at kt hkeep
          have n1 : decide (av < -2147483648) = false := by simp; omega
          have n2 : decide (2147483648 ≤ av) = false := by simp; omega
          have HKP := Lib.hid hkeep
          have HMO := Lib.hid hmore
          have gup : IntKind.i64.wrap (rv + 4294967296) = up32 rv := rfl
          obtain ⟨uv, huv⟩ : ∃ n, up32 rv = n := ⟨_, rfl⟩
          rw [huv] at gup HMO
          have YR := Lib.hid kr
          have mf := RB_free HM.out j2
          generalize mores [r0', r1', r2', r3', r4', r5', r6', r7'] j2 = mm2 at *
          have mc := Lib.hid (RB_cell HM.out (k := j2) (by omega))
          have MFz := Lib.hid mf
          have HM2 := Lib.hid (RB_set (k := j2) uv HM.out)
          have HGM := Lib.hid (RB_lt HM.out)
          clear hkeep hmore hrw hrv hav1 htv huv hml mf
          have yt : ∀ z : Grow wq, z.w.cell? ⟨tb, j2, none⟩ = some (.bool tv) := fun z => z.cell kt
          have ya : ∀ z : Grow wq, z.w.cell? ⟨ga, j2, none⟩ = some (.int .i64 av) := fun z => z.cell ka
          have yr : ∀ z : Grow wq, z.w.cell? ⟨w.heap.size, j2, none⟩ = some (.int .i64 rv) := fun z => z.cell kr
          have ne1 := Grow.ne wq
          clear kt ka kr
          cases tv
          · have hav2 := HKP.out rfl
            have gw : IntKind.i32.wrap rv = av := by rw [w32_eq]; exact hav2.symm
            have ga2 : IntKind.i64.wrap av = av := by rw [IntKind.wrap_i64]; omega
            clear hav2
            go_upto_region 22 with fail
            refine wp_region_grow (by kernel_rfl) (by kernel_rfl) ?_
            repeat (first | go_big_quiet_skip | go_big_quiet_step (fail))
            refine wpQuiet_nil ?_
            rintro _ ⟨z, rfl⟩
            have ZB := Lib.hid z.below
            have ZO := Lib.hid (HO.out.trans (onlyw_of z.below (Nat.le_of_lt HGM.out)))
            have kr2 := (ZB.out.cell (p := ⟨w.heap.size, j2, none⟩) (World.block_lt_of_cell? _ _ YR.out)).trans YR.out
            have mc2 := (ZB.out.cell (p := ⟨mb, j2, none⟩) HGM.out).trans mc.out
            have mf2 := (ZB.out.frozen (p := ⟨mb, j2, none⟩) HGM.out).trans MFz.out
            have HM3 := Lib.hid (RB_set (k := j2) uv ((ZB.out.block _ HGM.out).trans HM.out))
            have HO3 := Lib.hid (ZO.out.trans ((Only.refl mb z.w).setCell j2 (.int .i64 uv)).w)
            clear yt ya yr ne1 ZB
            generalize z.w = Z at *
            clear z
            go_wp2_with fail
            go_roundw
            case rel => exact ⟨j2 + 1, by omega, by go_num, HO3.out, by rw [← HMO.out]; exact HM3.out⟩
            case measure => simp [intOf]; omega
          · go_upto_region 22 with fail
            refine wp_region_grow (by kernel_rfl) (by kernel_rfl) ?_
            repeat (first | go_big_quiet_skip | go_big_quiet_step (fail))
            refine wpQuiet_nil ?_
            rintro _ ⟨z, rfl⟩
            have ZB := Lib.hid z.below
            have ZO := Lib.hid (HO.out.trans (onlyw_of z.below (Nat.le_of_lt HGM.out)))
            have kr2 := (ZB.out.cell (p := ⟨w.heap.size, j2, none⟩) (World.block_lt_of_cell? _ _ YR.out)).trans YR.out
            have mc2 := (ZB.out.cell (p := ⟨mb, j2, none⟩) HGM.out).trans mc.out
            have mf2 := (ZB.out.frozen (p := ⟨mb, j2, none⟩) HGM.out).trans MFz.out
            have HM3 := Lib.hid (RB_set (k := j2) uv ((ZB.out.block _ HGM.out).trans HM.out))
            have HO3 := Lib.hid (ZO.out.trans ((Only.refl mb z.w).setCell j2 (.int .i64 uv)).w)
            clear yt ya yr ne1 ZB
            generalize z.w = Z at *
            clear z
            go_wp2_with fail
            go_roundw
            case rel => exact ⟨j2 + 1, by omega, by go_num, HO3.out, by rw [← HMO.out]; exact HM3.out⟩
            case measure => simp [intOf]; omega
        · have hj28 : j2 = 8 := by omega
          have hl8' : ¬ (j2 : Int) < 8 := by omega
          have hm := HM.out
          rw [hj28, mores_all (R := [r0', r1', r2', r3', r4', r5', r6', r7']) rfl] at hm
          have MF := Lib.hid (show wq.heap[mb]? = some (RB [up32 r0', up32 r1', up32 r2', up32 r3', up32 r4', up32 r5', up32 r6', up32 r7']) from hm)
          have DF := Lib.hid (show Below w3.heap.size w3 wq from D4b.out.trans (HO.out.below _ (by omega)))
          have NaF := Lib.hid (HO.out.keep (by omega) Na5.out)
          have LPF := Lib.hid ((LP.out.below DF.out).more DF.out.size)
          clear hm HM HO
          obtain ⟨q0, q1, q2, q3, q4, q5, q6, q7⟩ := RB_cells MF.out
          go_upto_region 26 with (go_at_call 11; (with_reducible refine (HR4.out _ LPF.out).mono ?_); rintro z T ⟨rfl, hb⟩; have DT := Lib.hid (bstep DF.out DF.out.size hb); have NaT := Lib.hid ((hb.block _ (RB_lt NaF.out)).trans NaF.out); clear hb)
          have DE := Lib.hid (bstep DT.out DT.out.size (new_below T (RB [a0, a1, a2, a3, a4, a5, a6, a7])))
          have NE := Lib.hid (new_at1 T (RB [a0, a1, a2, a3, a4, a5, a6, a7]))
          have NaE := Lib.hid (new_keep (RB [a0, a1, a2, a3, a4, a5, a6, a7]) NaT.out)
          clear q0 q1 q2 q3 q4 q5 q6 q7 DT NaT
          change Code.wp _ _ _ _ (T.alloc (RB [a0, a1, a2, a3, a4, a5, a6, a7]))
          generalize T.alloc (RB [a0, a1, a2, a3, a4, a5, a6, a7]) = E at *
          generalize T.heap.size = de at *
          have BE := Lib.hid (HB3.out.trans (DE.out.mono HB3.out.size))
          obtain ⟨q0, q1, q2, q3, q4, q5, q6, q7⟩ := RB_cells NE.out
          obtain ⟨s0, s1, s2, s3, s4, s5, s6, s7⟩ := RB_cells NaE.out
          go_wp2_with fail
          go_ret
          exact ⟨rfl, BE.out⟩
end Go.Proofs.Ytehkcnmjkgelkaa
