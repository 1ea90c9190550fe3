/-
  The walk of glazierlaw12.CodeRefuses.
-/
import Derived.Test.YticfllfelbfceaaPutI
namespace Go.Proofs.Yticfllfelbfceaa
open Go.RowKit
attribute [local go_sem ↓] Go.wp_at_zero Go.wp_at_succ

theorem one_bounds {x : In} {i n : Int} (h : oneB x i n = true) : x.o ≤ 14 ∧ x.d ≤ 7 ∧ x.a ≤ 7 ∧ x.b ≤ 7 := by
  have h := of_decide_eq_true (show decide _ = true from h)
  obtain ⟨h0, h1, h2, h3, h4, h5, h6, h7⟩ := h
  have hm := ms_le (us x.o)
  refine ⟨?_, by omega, by omega, by omega⟩
  by_cases ho : x.o ≤ 14
  · exact ho
  · exact absurd (show us x.o = 0 by unfold us; rw [if_neg (by omega), if_neg (by omega), if_neg (by omega), if_neg (by omega), if_neg (by omega)]) h0
theorem set_get {p : List In} {k : Nat} {u v : In} (h : p[k]? = some u) : (p.set k v)[k]? = some v := set_getI h
/-- What is wrong with an instruction, of six. -/
def bad (u : In) (k n : Nat) (s : Int) : In :=
  if s = 0 then { u with d := u.d + 8 } else if s = 1 then { u with a := u.a + 8 } else if s = 2 then { u with b := u.b + 8 }
  else if s = 3 then { u with o := u.o + 15 } else if s = 4 then ⟨2, 0, 0, 0, 1⟩ else ⟨12, 0, 1, 0, (n : Int) - k⟩
theorem six {s : Int} (h0 : 0 ≤ s) (h1 : s ≤ 5) : s = 0 ∨ s = 1 ∨ s = 2 ∨ s = 3 ∨ s = 4 ∨ s = 5 := by omega
theorem bad_one {u : In} {k n : Nat} {s : Int} (hu : u.ok) (h : oneB u k n = true) (hk : k < n) (hn : n ≤ 32) (h0 : 0 ≤ s) (h1 : s ≤ 5) : oneB (bad u k n s) k n = false ∧ (bad u k n s).ok := by
  obtain ⟨q0, q1, q2, q3⟩ := one_bounds h
  obtain ⟨⟨o0, o1⟩, ⟨d0, d1⟩, ⟨a0, a1⟩, ⟨b0, b1⟩, hN⟩ := hu
  have hm := fun o => ms_le (us o)
  rcases six h0 h1 with rfl | rfl | rfl | rfl | rfl | rfl
  · exact ⟨decide_eq_false (by have := hm u.o; simp only [bad]; simp; omega), by constructor <;> simp [bad] <;> first | exact hN | omega⟩
  · exact ⟨decide_eq_false (by have := hm u.o; simp only [bad]; simp; omega), by constructor <;> simp [bad] <;> first | exact hN | omega⟩
  · exact ⟨decide_eq_false (by have := hm u.o; simp only [bad]; simp; omega), by constructor <;> simp [bad] <;> first | exact hN | omega⟩
  · refine ⟨decide_eq_false ?_, by constructor <;> simp [bad] <;> first | exact hN | omega⟩
    have e : us (u.o + 15) = 0 := by unfold us; rw [if_neg (by omega), if_neg (by omega), if_neg (by omega), if_neg (by omega), if_neg (by omega)]
    simp only [bad]
    simp [e]
  · exact ⟨decide_eq_false (by simp [bad, us, ms, lo, hi]), by constructor <;> simp [bad]; unfold I64; omega⟩
  · exact ⟨decide_eq_false (by simp [bad, us, ms, lo, hi]; omega), by constructor <;> simp [bad]; unfold I64; omega⟩
set_option maxRecDepth 100000 in
set_option maxHeartbeats 8000000 in
theorem refuses_walk (l : List In) (A : Option Addr) (c : Nat) (i s' : Int) (hok : ∀ y ∈ l, y.ok) (bi : 0 ≤ i ∧ i ≤ 255) (bs : 0 ≤ s' ∧ s' ≤ 255) (w : World) (he : Es EI w w.heap.size A l) :
    Calls Try.prog 6 #[.slice A l.length c, .int .u8 i, .int .u8 s'] w fun e w' => e = .returned (.bool true) ∧ Below w.heap.size w w' := by
  have HP := Lib.hid (fun w he => Fit_any l A c hok w he)
  have HOk := Lib.hid (show ∀ x ∈ fitP l, x.ok from fitP_ok hok)
  have HE := Lib.hid he
  have hl := fitP_len l
  have H1 := Lib.hid (show ∀ (i : Nat) x, (fitP l)[i]? = some x → oneB x i (fitP l).length = true from fun i x h => (fitP_one l i x h).1)
  have HL := Lib.hid (fun (k : Nat) (h : k < (fitP l).length) => get_lt h)
  generalize fitP l = p at *
  obtain ⟨n, hn⟩ : ∃ n, p.length = n := ⟨_, rfl⟩
  rw [hn] at H1 HL hl
  have HN := Lib.hid hn
  obtain ⟨k, hk⟩ : ∃ k : Nat, i % (n : Int) = (k : Int) := ⟨(i % (n : Int)).toNat, by have := Int.emod_nonneg i (show (n : Int) ≠ 0 by omega); omega⟩
  have hkn : k < n := by have := Int.emod_lt_of_pos i (show 0 < (n : Int) by omega); omega
  have qi : i.tmod (n : Int) = (k : Int) := by rw [Int.tmod_eq_emod_of_nonneg bi.1]; exact hk
  have wi : IntKind.i64.wrap i = i := by rw [IntKind.wrap_i64]; omega
  have wk : IntKind.i64.wrap (k : Int) = (k : Int) := by rw [IntKind.wrap_i64]; omega
  have hn0 : ¬ (n : Int) = 0 := by omega
  have qs := Int.tmod_eq_emod_of_nonneg (b := 6) bs.1
  obtain ⟨s, hs⟩ : ∃ s, s' % 6 = s := ⟨_, rfl⟩
  rw [hs] at qs
  have s0 : 0 ≤ s ∧ s ≤ 5 := by omega
  obtain ⟨u, hu'⟩ := HL.out k hkn
  have h1 := H1.out k u hu'
  have hu : u.ok := HOk.out u (List.mem_of_getElem? hu')
  have Hu := Lib.hid hu'
  clear hok he hk hs bi bs H1 HL hn hu'
  have HL2 := Lib.hid hl
  have HK := Lib.hid hkn
  go_enter Try.func6, Try.ntmps6
  go_wp2_with fail
  with_reducible refine (shown_any w).mono ?_
  rintro e w1 ⟨rfl, hb⟩
  have B1 := Lib.hid hb
  have E1 := Lib.hid (HE.out.up hb)
  clear hb HE
  go_wp2_with fail
  with_reducible refine (HP.out _ E1.out).mono ?_
  rintro e w2 ⟨v, rfl, ho, hb⟩
  obtain ⟨g, c', rfl, hg, hglt⟩ := own_at0 ho (by rintro rfl; have := Hu.out; simp at this)
  rw [HN.out] at ho ⊢
  have HO := Lib.hid ho
  have B2 := Lib.hid (bstep B1.out B1.out.size hb)
  have hge : w.heap.size ≤ g := Nat.le_trans B1.out.size hg
  have hfz := ownI_free ho
  obtain ⟨b, off, e0, hbB, hat⟩ := (ownI_es ho).at Hu.out
  cases e0
  obtain ⟨c0, c1, c2, c3, c4⟩ := atI (show AtE EI w2 g (0 + k * 5) u from hat)
  rw [Nat.zero_add] at c0 c1 c2 c3 c4
  clear hb ho HP E1 B1 hg hat hbB
  rcases six s0.1 s0.2 with rfl | rfl | rfl | rfl | rfl | rfl
  · have hs := bad_one (s := 0) hu h1 hkn hl.2 (by decide) (by decide)
    have wv : IntKind.u8.wrap (u.d + 8) = u.d + 8 := by rw [IntKind.wrap_u8]; have := hu.d; have := one_bounds h1; omega
    obtain ⟨v, hv⟩ : ∃ v, bad u k n 0 = v := ⟨_, rfl⟩
    have O3 := Lib.hid (show OwnE EI (w2.setCell ⟨g, k * 5 + 1, none⟩ (.int .u8 (u.d + 8))) w1.heap.size (.slice (some ⟨g, 0, none⟩) n c') (p.set k v) from hv ▸ ownI_set HO.out (r := 1) (u' := bad u k n 0) (x := .int .u8 (u.d + 8)) (Hu.out) (by omega) rfl)
    have B3 := Lib.hid (show Below w.heap.size w (w2.setCell ⟨g, k * 5 + 1, none⟩ (.int .u8 (u.d + 8))) from B2.out.setCell hge _)
    rw [hv] at hs
    have HV := Lib.hid hs
    clear hs hv HO h1 hu
    go_wp2_with fail
    generalize w2.setCell ⟨g, k * 5 + 1, none⟩ (.int .u8 (u.d + 8)) = X at *
    clear c0 c1 c2 c3 c4 hfz B2 wv
    have hgv := Lib.hid (set_get (v := v) Hu.out)
    have hlen : (p.set k v).length = n := by rw [List.length_set]; exact HN.out
    have HCh := Lib.hid (show chk (p.set k v) = 23 from chk_bad hgv.out (by rw [hlen]; exact HV.out.1))
    have hoks : ∀ x ∈ p.set k v, x.ok := fun x hx => (List.mem_or_eq_of_mem_set hx).elim (HOk.out x) (fun e => e ▸ HV.out.2)
    have CX := Lib.hid (check_any (p.set k v) (some ⟨g, 0, none⟩) c' hoks X (ownI_es O3.out))
    rw [HCh.out, hlen] at CX
    have EX := Lib.hid (ownI_es O3.out)
    have OX := Lib.hid (fun w => one_any v k n HV.out.2 ⟨by omega, by omega⟩ ⟨by omega, by omega⟩ w)
    rw [HV.out.1] at OX
    clear hlen hoks O3 HCh HN HOk Hu
    with_reducible refine (CX.out).mono ?_
    rintro e w4 ⟨rfl, hb⟩
    have B4 := Lib.hid (bstep B3.out B3.out.size hb)
    obtain ⟨b', off', e1, -, hat'⟩ := (EX.out.up hb).at hgv.out
    cases e1
    obtain ⟨c0, c1, c2, c3, c4⟩ := atI (show AtE EI w4 g (0 + k * 5) v from hat')
    rw [Nat.zero_add] at c0 c1 c2 c3 c4
    clear hb EX CX hat' B3 hgv HV
    go_wp2_with fail
    with_reducible refine (OX.out _).mono ?_
    rintro e w5 ⟨rfl, hb⟩
    have B5 := Lib.hid (bstep B4.out B4.out.size hb)
    clear hb B4 OX c0 c1 c2 c3 c4
    go_wp2_with fail
    go_ret
    exact ⟨rfl, B5.out⟩
  · have hs := bad_one (s := 1) hu h1 hkn hl.2 (by decide) (by decide)
    have wv : IntKind.u8.wrap (u.a + 8) = u.a + 8 := by rw [IntKind.wrap_u8]; have := hu.a; have := one_bounds h1; omega
    obtain ⟨v, hv⟩ : ∃ v, bad u k n 1 = v := ⟨_, rfl⟩
    have O3 := Lib.hid (show OwnE EI (w2.setCell ⟨g, k * 5 + 2, none⟩ (.int .u8 (u.a + 8))) w1.heap.size (.slice (some ⟨g, 0, none⟩) n c') (p.set k v) from hv ▸ ownI_set HO.out (r := 2) (u' := bad u k n 1) (x := .int .u8 (u.a + 8)) (Hu.out) (by omega) rfl)
    have B3 := Lib.hid (show Below w.heap.size w (w2.setCell ⟨g, k * 5 + 2, none⟩ (.int .u8 (u.a + 8))) from B2.out.setCell hge _)
    rw [hv] at hs
    have HV := Lib.hid hs
    clear hs hv HO h1 hu
    go_wp2_with fail
    generalize w2.setCell ⟨g, k * 5 + 2, none⟩ (.int .u8 (u.a + 8)) = X at *
    clear c0 c1 c2 c3 c4 hfz B2 wv
    have hgv := Lib.hid (set_get (v := v) Hu.out)
    have hlen : (p.set k v).length = n := by rw [List.length_set]; exact HN.out
    have HCh := Lib.hid (show chk (p.set k v) = 23 from chk_bad hgv.out (by rw [hlen]; exact HV.out.1))
    have hoks : ∀ x ∈ p.set k v, x.ok := fun x hx => (List.mem_or_eq_of_mem_set hx).elim (HOk.out x) (fun e => e ▸ HV.out.2)
    have CX := Lib.hid (check_any (p.set k v) (some ⟨g, 0, none⟩) c' hoks X (ownI_es O3.out))
    rw [HCh.out, hlen] at CX
    have EX := Lib.hid (ownI_es O3.out)
    have OX := Lib.hid (fun w => one_any v k n HV.out.2 ⟨by omega, by omega⟩ ⟨by omega, by omega⟩ w)
    rw [HV.out.1] at OX
    clear hlen hoks O3 HCh HN HOk Hu
    with_reducible refine (CX.out).mono ?_
    rintro e w4 ⟨rfl, hb⟩
    have B4 := Lib.hid (bstep B3.out B3.out.size hb)
    obtain ⟨b', off', e1, -, hat'⟩ := (EX.out.up hb).at hgv.out
    cases e1
    obtain ⟨c0, c1, c2, c3, c4⟩ := atI (show AtE EI w4 g (0 + k * 5) v from hat')
    rw [Nat.zero_add] at c0 c1 c2 c3 c4
    clear hb EX CX hat' B3 hgv HV
    go_wp2_with fail
    with_reducible refine (OX.out _).mono ?_
    rintro e w5 ⟨rfl, hb⟩
    have B5 := Lib.hid (bstep B4.out B4.out.size hb)
    clear hb B4 OX c0 c1 c2 c3 c4
    go_wp2_with fail
    go_ret
    exact ⟨rfl, B5.out⟩
  · have hs := bad_one (s := 2) hu h1 hkn hl.2 (by decide) (by decide)
    have wv : IntKind.u8.wrap (u.b + 8) = u.b + 8 := by rw [IntKind.wrap_u8]; have := hu.b; have := one_bounds h1; omega
    obtain ⟨v, hv⟩ : ∃ v, bad u k n 2 = v := ⟨_, rfl⟩
    have O3 := Lib.hid (show OwnE EI (w2.setCell ⟨g, k * 5 + 3, none⟩ (.int .u8 (u.b + 8))) w1.heap.size (.slice (some ⟨g, 0, none⟩) n c') (p.set k v) from hv ▸ ownI_set HO.out (r := 3) (u' := bad u k n 2) (x := .int .u8 (u.b + 8)) (Hu.out) (by omega) rfl)
    have B3 := Lib.hid (show Below w.heap.size w (w2.setCell ⟨g, k * 5 + 3, none⟩ (.int .u8 (u.b + 8))) from B2.out.setCell hge _)
    rw [hv] at hs
    have HV := Lib.hid hs
    clear hs hv HO h1 hu
    go_wp2_with fail
    generalize w2.setCell ⟨g, k * 5 + 3, none⟩ (.int .u8 (u.b + 8)) = X at *
    clear c0 c1 c2 c3 c4 hfz B2 wv
    have hgv := Lib.hid (set_get (v := v) Hu.out)
    have hlen : (p.set k v).length = n := by rw [List.length_set]; exact HN.out
    have HCh := Lib.hid (show chk (p.set k v) = 23 from chk_bad hgv.out (by rw [hlen]; exact HV.out.1))
    have hoks : ∀ x ∈ p.set k v, x.ok := fun x hx => (List.mem_or_eq_of_mem_set hx).elim (HOk.out x) (fun e => e ▸ HV.out.2)
    have CX := Lib.hid (check_any (p.set k v) (some ⟨g, 0, none⟩) c' hoks X (ownI_es O3.out))
    rw [HCh.out, hlen] at CX
    have EX := Lib.hid (ownI_es O3.out)
    have OX := Lib.hid (fun w => one_any v k n HV.out.2 ⟨by omega, by omega⟩ ⟨by omega, by omega⟩ w)
    rw [HV.out.1] at OX
    clear hlen hoks O3 HCh HN HOk Hu
    with_reducible refine (CX.out).mono ?_
    rintro e w4 ⟨rfl, hb⟩
    have B4 := Lib.hid (bstep B3.out B3.out.size hb)
    obtain ⟨b', off', e1, -, hat'⟩ := (EX.out.up hb).at hgv.out
    cases e1
    obtain ⟨c0, c1, c2, c3, c4⟩ := atI (show AtE EI w4 g (0 + k * 5) v from hat')
    rw [Nat.zero_add] at c0 c1 c2 c3 c4
    clear hb EX CX hat' B3 hgv HV
    go_wp2_with fail
    with_reducible refine (OX.out _).mono ?_
    rintro e w5 ⟨rfl, hb⟩
    have B5 := Lib.hid (bstep B4.out B4.out.size hb)
    clear hb B4 OX c0 c1 c2 c3 c4
    go_wp2_with fail
    go_ret
    exact ⟨rfl, B5.out⟩
  · have hs := bad_one (s := 3) hu h1 hkn hl.2 (by decide) (by decide)
    have wv : IntKind.u8.wrap (u.o + 15) = u.o + 15 := by rw [IntKind.wrap_u8]; have := hu.o; have := one_bounds h1; omega
    obtain ⟨v, hv⟩ : ∃ v, bad u k n 3 = v := ⟨_, rfl⟩
    have O3 := Lib.hid (show OwnE EI (w2.setCell ⟨g, k * 5, none⟩ (.int .u8 (u.o + 15))) w1.heap.size (.slice (some ⟨g, 0, none⟩) n c') (p.set k v) from hv ▸ ownI_set HO.out (r := 0) (u' := bad u k n 3) (x := .int .u8 (u.o + 15)) (Hu.out) (by omega) rfl)
    have B3 := Lib.hid (show Below w.heap.size w (w2.setCell ⟨g, k * 5, none⟩ (.int .u8 (u.o + 15))) from B2.out.setCell hge _)
    rw [hv] at hs
    have HV := Lib.hid hs
    clear hs hv HO h1 hu
    go_wp2_with fail
    generalize w2.setCell ⟨g, k * 5, none⟩ (.int .u8 (u.o + 15)) = X at *
    clear c0 c1 c2 c3 c4 hfz B2 wv
    have hgv := Lib.hid (set_get (v := v) Hu.out)
    have hlen : (p.set k v).length = n := by rw [List.length_set]; exact HN.out
    have HCh := Lib.hid (show chk (p.set k v) = 23 from chk_bad hgv.out (by rw [hlen]; exact HV.out.1))
    have hoks : ∀ x ∈ p.set k v, x.ok := fun x hx => (List.mem_or_eq_of_mem_set hx).elim (HOk.out x) (fun e => e ▸ HV.out.2)
    have CX := Lib.hid (check_any (p.set k v) (some ⟨g, 0, none⟩) c' hoks X (ownI_es O3.out))
    rw [HCh.out, hlen] at CX
    have EX := Lib.hid (ownI_es O3.out)
    have OX := Lib.hid (fun w => one_any v k n HV.out.2 ⟨by omega, by omega⟩ ⟨by omega, by omega⟩ w)
    rw [HV.out.1] at OX
    clear hlen hoks O3 HCh HN HOk Hu
    with_reducible refine (CX.out).mono ?_
    rintro e w4 ⟨rfl, hb⟩
    have B4 := Lib.hid (bstep B3.out B3.out.size hb)
    obtain ⟨b', off', e1, -, hat'⟩ := (EX.out.up hb).at hgv.out
    cases e1
    obtain ⟨c0, c1, c2, c3, c4⟩ := atI (show AtE EI w4 g (0 + k * 5) v from hat')
    rw [Nat.zero_add] at c0 c1 c2 c3 c4
    clear hb EX CX hat' B3 hgv HV
    go_wp2_with fail
    with_reducible refine (OX.out _).mono ?_
    rintro e w5 ⟨rfl, hb⟩
    have B5 := Lib.hid (bstep B4.out B4.out.size hb)
    clear hb B4 OX c0 c1 c2 c3 c4
    go_wp2_with fail
    go_ret
    exact ⟨rfl, B5.out⟩
  · have hs := bad_one (s := 4) hu h1 hkn hl.2 (by decide) (by decide)
    obtain ⟨v, hv⟩ : ∃ v, bad u k n 4 = v := ⟨_, rfl⟩
    have O3 := Lib.hid (show OwnE EI (((((w2.setCell ⟨g, k * 5, none⟩ (.int .u8 2)).setCell ⟨g, k * 5 + 1, none⟩ (.int .u8 0)).setCell ⟨g, k * 5 + 2, none⟩ (.int .u8 0)).setCell ⟨g, k * 5 + 3, none⟩ (.int .u8 0)).setCell ⟨g, k * 5 + 4, none⟩ (.int .i64 1)) w1.heap.size (.slice (some ⟨g, 0, none⟩) n c') (p.set k v) from hv ▸ ownI_put ⟨2, 0, 0, 0, 1⟩ HO.out Hu.out)
    have B3 := Lib.hid (show Below w.heap.size w (((((w2.setCell ⟨g, k * 5, none⟩ (.int .u8 2)).setCell ⟨g, k * 5 + 1, none⟩ (.int .u8 0)).setCell ⟨g, k * 5 + 2, none⟩ (.int .u8 0)).setCell ⟨g, k * 5 + 3, none⟩ (.int .u8 0)).setCell ⟨g, k * 5 + 4, none⟩ (.int .i64 1)) from ((((B2.out.setCell hge _).setCell hge _).setCell hge _).setCell hge _).setCell hge _)
    rw [hv] at hs
    have HV := Lib.hid hs
    clear hs hv HO h1 hu
    go_wp2_with fail
    generalize ((((w2.setCell ⟨g, k * 5, none⟩ (.int .u8 2)).setCell ⟨g, k * 5 + 1, none⟩ (.int .u8 0)).setCell ⟨g, k * 5 + 2, none⟩ (.int .u8 0)).setCell ⟨g, k * 5 + 3, none⟩ (.int .u8 0)).setCell ⟨g, k * 5 + 4, none⟩ (.int .i64 1) = X at *
    clear c0 c1 c2 c3 c4 hfz B2
    have hgv := Lib.hid (set_get (v := v) Hu.out)
    have hlen : (p.set k v).length = n := by rw [List.length_set]; exact HN.out
    have HCh := Lib.hid (show chk (p.set k v) = 23 from chk_bad hgv.out (by rw [hlen]; exact HV.out.1))
    have hoks : ∀ x ∈ p.set k v, x.ok := fun x hx => (List.mem_or_eq_of_mem_set hx).elim (HOk.out x) (fun e => e ▸ HV.out.2)
    have CX := Lib.hid (check_any (p.set k v) (some ⟨g, 0, none⟩) c' hoks X (ownI_es O3.out))
    rw [HCh.out, hlen] at CX
    have EX := Lib.hid (ownI_es O3.out)
    have OX := Lib.hid (fun w => one_any v k n HV.out.2 ⟨by omega, by omega⟩ ⟨by omega, by omega⟩ w)
    rw [HV.out.1] at OX
    clear hlen hoks O3 HCh HN HOk Hu
    with_reducible refine (CX.out).mono ?_
    rintro e w4 ⟨rfl, hb⟩
    have B4 := Lib.hid (bstep B3.out B3.out.size hb)
    obtain ⟨b', off', e1, -, hat'⟩ := (EX.out.up hb).at hgv.out
    cases e1
    obtain ⟨c0, c1, c2, c3, c4⟩ := atI (show AtE EI w4 g (0 + k * 5) v from hat')
    rw [Nat.zero_add] at c0 c1 c2 c3 c4
    clear hb EX CX hat' B3 hgv HV
    go_wp2_with fail
    with_reducible refine (OX.out _).mono ?_
    rintro e w5 ⟨rfl, hb⟩
    have B5 := Lib.hid (bstep B4.out B4.out.size hb)
    clear hb B4 OX c0 c1 c2 c3 c4
    go_wp2_with fail
    go_ret
    exact ⟨rfl, B5.out⟩
  · have hs := bad_one (s := 5) hu h1 hkn hl.2 (by decide) (by decide)
    obtain ⟨y, hy⟩ : ∃ y, (n : Int) - k = y := ⟨_, rfl⟩
    have wv : IntKind.i64.wrap ((n : Int) - k) = y := by rw [hy, IntKind.wrap_i64]; omega
    obtain ⟨v, hv⟩ : ∃ v, bad u k n 5 = v := ⟨_, rfl⟩
    have O3 := Lib.hid (show OwnE EI (((((w2.setCell ⟨g, k * 5, none⟩ (.int .u8 12)).setCell ⟨g, k * 5 + 1, none⟩ (.int .u8 0)).setCell ⟨g, k * 5 + 2, none⟩ (.int .u8 1)).setCell ⟨g, k * 5 + 3, none⟩ (.int .u8 0)).setCell ⟨g, k * 5 + 4, none⟩ (.int .i64 y)) w1.heap.size (.slice (some ⟨g, 0, none⟩) n c') (p.set k v) from hv ▸ (show bad u k n 5 = ⟨12, 0, 1, 0, y⟩ by simp [bad, hy]) ▸ ownI_put ⟨12, 0, 1, 0, y⟩ HO.out Hu.out)
    have B3 := Lib.hid (show Below w.heap.size w (((((w2.setCell ⟨g, k * 5, none⟩ (.int .u8 12)).setCell ⟨g, k * 5 + 1, none⟩ (.int .u8 0)).setCell ⟨g, k * 5 + 2, none⟩ (.int .u8 1)).setCell ⟨g, k * 5 + 3, none⟩ (.int .u8 0)).setCell ⟨g, k * 5 + 4, none⟩ (.int .i64 y)) from ((((B2.out.setCell hge _).setCell hge _).setCell hge _).setCell hge _).setCell hge _)
    rw [hv] at hs
    have HV := Lib.hid hs
    clear hs hv HO h1 hu
    go_wp2_with fail
    generalize ((((w2.setCell ⟨g, k * 5, none⟩ (.int .u8 12)).setCell ⟨g, k * 5 + 1, none⟩ (.int .u8 0)).setCell ⟨g, k * 5 + 2, none⟩ (.int .u8 1)).setCell ⟨g, k * 5 + 3, none⟩ (.int .u8 0)).setCell ⟨g, k * 5 + 4, none⟩ (.int .i64 y) = X at *
    clear c0 c1 c2 c3 c4 hfz B2 wv hy
    have hgv := Lib.hid (set_get (v := v) Hu.out)
    have hlen : (p.set k v).length = n := by rw [List.length_set]; exact HN.out
    have HCh := Lib.hid (show chk (p.set k v) = 23 from chk_bad hgv.out (by rw [hlen]; exact HV.out.1))
    have hoks : ∀ x ∈ p.set k v, x.ok := fun x hx => (List.mem_or_eq_of_mem_set hx).elim (HOk.out x) (fun e => e ▸ HV.out.2)
    have CX := Lib.hid (check_any (p.set k v) (some ⟨g, 0, none⟩) c' hoks X (ownI_es O3.out))
    rw [HCh.out, hlen] at CX
    have EX := Lib.hid (ownI_es O3.out)
    have OX := Lib.hid (fun w => one_any v k n HV.out.2 ⟨by omega, by omega⟩ ⟨by omega, by omega⟩ w)
    rw [HV.out.1] at OX
    clear hlen hoks O3 HCh HN HOk Hu
    with_reducible refine (CX.out).mono ?_
    rintro e w4 ⟨rfl, hb⟩
    have B4 := Lib.hid (bstep B3.out B3.out.size hb)
    obtain ⟨b', off', e1, -, hat'⟩ := (EX.out.up hb).at hgv.out
    cases e1
    obtain ⟨c0, c1, c2, c3, c4⟩ := atI (show AtE EI w4 g (0 + k * 5) v from hat')
    rw [Nat.zero_add] at c0 c1 c2 c3 c4
    clear hb EX CX hat' B3 hgv HV
    go_wp2_with fail
    with_reducible refine (OX.out _).mono ?_
    rintro e w5 ⟨rfl, hb⟩
    have B5 := Lib.hid (bstep B4.out B4.out.size hb)
    clear hb B4 OX c0 c1 c2 c3 c4
    go_wp2_with fail
    go_ret
    exact ⟨rfl, B5.out⟩
end Go.Proofs.Yticfllfelbfceaa
