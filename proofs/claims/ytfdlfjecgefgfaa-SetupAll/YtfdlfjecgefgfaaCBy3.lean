/-
  The contract of clip.By.
-/
import Derived.Test.YtfdlfjecgefgfaaCBy2
namespace Go.Proofs.Ytfdlfjecgefgfaa.C
open Go.RowKit
attribute [local go_sem ↓] Go.wp_at_zero Go.wp_at_succ

theorem tmod_next {k n m : Nat} (hk : k < n) (hm : m = (k + 1) % n) : Int.tmod ((k : Int) + 1) (n : Int) = (m : Int) ∧ m < n := by
  subst hm
  refine ⟨?_, Nat.mod_lt _ (by omega)⟩
  have h : ((k : Int) + 1) = ((k + 1 : Nat) : Int) := by omega
  rw [h, ← Int.ofNat_tmod]

theorem append_keeps {wr w2 w3 : World} {base g : Nat} {v : Value} {cs : List V} {T : Obj} {t : TypeId} {u : V} (ho : OwnV wr base v cs) (hg : (w2.alloc T).grownBy w3 v.ownBlock) (hge : wr.heap.size ≤ g) (hu : w2.heap[g]? = some (vB t u)) : w3.heap[g]? = some (vB t u) := by
  have hlt := vB_lt hu
  rw [hg.block g (by simp; omega) (fun e => by have := (ho.row.lt g e.symm).2; omega)]
  exact vB_alloc _ hu

def ByAt (p : Int) (xs : List V) (w : World) (b i : Value) (wr : World) : Prop :=
  ∃ k : Nat, k ≤ xs.length ∧ i = .int .i64 k ∧ OwnV wr w.heap.size b (byK p xs k) ∧ Below w.heap.size w wr

set_option maxRecDepth 100000 in
set_option maxHeartbeats 4000000 in
theorem by_cut (p : Int) (A : Option Addr) (c : Nat) (xs : List V) (B : Nat) (w : World) (hs : Vs w B A xs) (hB : B ≤ w.heap.size) (hl : xs.length ≤ 1000) (hm : ∀ v ∈ xs, v.sm) (hno : ¬ ∀ v ∈ xs, 0 ≤ dist p v) :
    Calls Try.prog 38 #[.int .i64 p, .slice A xs.length c] w (MadeV w.heap.size w (byV p xs)) := by
  obtain ⟨i0, hi, hz0, hz1, hz2⟩ := info_parts Try.info25
  have HI := Lib.hid hi
  have HZ := Lib.hid (And.intro hz0 (And.intro hz1 hz2))
  clear hi hz0 hz1 hz2
  have HA := Lib.hid (all_any p A c xs B w hs hB hl hm false (by simpa using hno))
  have HS := Lib.hid hs
  have HM := Lib.hid hm
  clear hs hm hno
  generalize hn : xs.length = n at HA hl ⊢
  have HN := Lib.hid hn
  clear hn
  go_enter Try.func38, Try.ntmps38
  go_wp2_with fail
  with_reducible refine (HA.out).mono ?_
  rintro e w0 ⟨rfl, hb0⟩
  have H0 := Lib.hid hb0
  have hz0 := hb0.size
  clear hb0
  go_wp2
  go_loopw [5, 18] (fun b i wr => ByAt p xs w b i wr) (fun _ i _ => n - (intOf i).toNat)
  case atStart => exact ⟨0, by omega, rfl, OwnV.nil _ _, H0.out⟩
  case round =>
    obtain ⟨k, hk, rfl, ho, hbel⟩ := hrel
    rw [HN.out] at hk
    have HO := Lib.hid ho
    have HBE := Lib.hid hbel
    have hzr := hbel.size
    have hcl := byK_len2 p xs k
    clear ho hbel
    by_cases hlt : k < n
    · obtain ⟨m, hm⟩ : ∃ m, m = (k + 1) % n := ⟨_, rfl⟩
      obtain ⟨hmod, hmn⟩ := tmod_next hlt hm
      obtain ⟨b, off, rfl, hbB, hcell⟩ := HS.out.open (k := k) (by rw [HN.out]; exact hlt)
      obtain ⟨u, hu, u8⟩ := hcell k (by rw [HN.out]; exact hlt)
      obtain ⟨t, ht, t8⟩ := hcell m (by rw [HN.out]; exact hmn)
      have HST := Lib.hid (byK_step (p := p) hu (by rw [HN.out]; exact hm) ht)
      have HUS := Lib.hid (HM.out u (List.mem_of_getElem? hu))
      have HTS := Lib.hid (HM.out t (List.mem_of_getElem? ht))
      have T8 := Lib.hid t8
      have hbz : b < wr.heap.size := by omega
      obtain ⟨e0, e1, e2, e3, e4, e5, e6, e7⟩ := u8.below (HBE.out.mono hB) hbB
      clear hcell hu ht u8 t8 hm
      generalize byK p xs k = cs at HO HST hcl
      have hcl2 : cs.length ≤ 2000 := by omega
      by_cases hui : 0 ≤ dist p u
      · by_cases hti : 0 ≤ dist p t
        ·
          have IN := Lib.hid (inside_any p u HUS.out true (by simpa using hui))
          have CR := Lib.hid (crossing_none p u t HUS.out HTS.out (by omega) (by omega))
          rw [seg_in hui hti] at HST
          clear hui hti HUS HTS
          go_wp2_with fail
          with_reducible refine (IN.out _).mono ?_
          rintro e w2 ⟨rfl, hb2⟩
          have U2 := Lib.hid (show w2.heap[wr.heap.size]? = some (vB 25 u) from vB_grow (new_at rfl) hb2)
          have O2 := Lib.hid ((HO.out.alloc _).keep hb2)
          have B2 := Lib.hid (bstep (HBE.out.alloc HBE.out.size _) (by simp; omega) hb2)
          have hz2 : wr.heap.size < w2.heap.size := vB_lt U2.out
          clear hb2 e0 e1 e2 e3 e4 e5 e6 e7
          obtain ⟨c0, c1, c2, c3, c4, c5, c6, c7⟩ := vB_cell U2.out
          go_wp2_with (at_builtin; refine wpList_append_own _ rfl _ _ 56 rfl w.heap.size 25 i0 _ 8 64 Try.underlying56 HI.out HZ.out.1 HZ.out.2.1 HZ.out.2.2 rfl (by decide) _ _ _ rfl (O2.out.alloc _).row _ 1 1 (cellsV u) rfl rfl new_cells (cellsV_one u) (by unfold maxLen; omega) (by omega) (by simp; omega) ?_; intro v' w5 hown' hgrow _; obtain ⟨ho3, hb3⟩ := append_ofV O2.out (by omega) hown' hgrow; have U3 := Lib.hid (append_keeps HO.out hgrow (Nat.le_refl _) U2.out); have O3 := Lib.hid ho3; have B3 := Lib.hid (B2.out.trans hb3); have hz3 : wr.heap.size < w5.heap.size := vB_lt U3.out; clear ho3 hb3 hown' hgrow c0 c1 c2 c3 c4 c5 c6 c7; obtain ⟨t0, t1, t2, t3, t4, t5, t6, t7⟩ := T8.out.below (B3.out.mono hB) hbB; obtain ⟨v0, v1, v2, v3, v4, v5, v6, v7⟩ := vB_cell (vB_alloc (Obj.cells #[.int .i64 t.x, .int .i64 t.y, .int .i64 t.z, .int .i64 t.w, .int .i64 t.a, .int .i64 t.b, .int .i64 t.c, .int .i64 t.d] 25) U3.out))
          with_reducible refine (CR.out _).mono ?_
          rintro e w4 ⟨rfl, hb4⟩
          have O4 := Lib.hid ((O3.out.alloc _).keep hb4)
          have B4 := Lib.hid (bstep (B3.out.alloc B3.out.size _) (by simp; omega) hb4)
          have hz4 := B4.out.size
          clear hb4 t0 t1 t2 t3 t4 t5 t6 t7 v0 v1 v2 v3 v4 v5 v6 v7
          go_wp2
          go_roundw
          case rel => exact ⟨k + 1, by rw [HN.out]; omega, by go_num, by rw [HST.out]; simpa using O4.out.alloc _, B4.out.alloc B4.out.size _⟩
          case measure => simp [intOf]; omega
        · replace hti : dist p t < 0 := by omega
          have IN := Lib.hid (inside_any p u HUS.out true (by simpa using hui))
          have CR := Lib.hid (crossing_go p u t _ HUS.out HTS.out hui hti rfl)
          rw [seg_go hui hti] at HST
          generalize onV p u t = R at CR HST
          clear hui hti HUS HTS
          go_wp2_with fail
          with_reducible refine (IN.out _).mono ?_
          rintro e w2 ⟨rfl, hb2⟩
          have U2 := Lib.hid (show w2.heap[wr.heap.size]? = some (vB 25 u) from vB_grow (new_at rfl) hb2)
          have O2 := Lib.hid ((HO.out.alloc _).keep hb2)
          have B2 := Lib.hid (bstep (HBE.out.alloc HBE.out.size _) (by simp; omega) hb2)
          have hz2 : wr.heap.size < w2.heap.size := vB_lt U2.out
          clear hb2 e0 e1 e2 e3 e4 e5 e6 e7
          obtain ⟨c0, c1, c2, c3, c4, c5, c6, c7⟩ := vB_cell U2.out
          go_wp2_with (at_builtin; refine wpList_append_own _ rfl _ _ 56 rfl w.heap.size 25 i0 _ 8 64 Try.underlying56 HI.out HZ.out.1 HZ.out.2.1 HZ.out.2.2 rfl (by decide) _ _ _ rfl (O2.out.alloc _).row _ 1 1 (cellsV u) rfl rfl new_cells (cellsV_one u) (by unfold maxLen; omega) (by omega) (by simp; omega) ?_; intro v' w5 hown' hgrow _; obtain ⟨ho3, hb3⟩ := append_ofV O2.out (by omega) hown' hgrow; have U3 := Lib.hid (append_keeps HO.out hgrow (Nat.le_refl _) U2.out); have O3 := Lib.hid ho3; have B3 := Lib.hid (B2.out.trans hb3); have hz3 : wr.heap.size < w5.heap.size := vB_lt U3.out; clear ho3 hb3 hown' hgrow c0 c1 c2 c3 c4 c5 c6 c7; obtain ⟨t0, t1, t2, t3, t4, t5, t6, t7⟩ := T8.out.below (B3.out.mono hB) hbB; obtain ⟨v0, v1, v2, v3, v4, v5, v6, v7⟩ := vB_cell (vB_alloc (Obj.cells #[.int .i64 t.x, .int .i64 t.y, .int .i64 t.z, .int .i64 t.w, .int .i64 t.a, .int .i64 t.b, .int .i64 t.c, .int .i64 t.d] 25) U3.out))
          with_reducible refine (CR.out _).mono ?_
          rintro e w4 ⟨rfl, hb4⟩
          have O4 := Lib.hid ((O3.out.alloc _).keep hb4)
          have B4 := Lib.hid (bstep (B3.out.alloc B3.out.size _) (by simp; omega) hb4)
          have hz4 := B4.out.size
          clear hb4 t0 t1 t2 t3 t4 t5 t6 t7 v0 v1 v2 v3 v4 v5 v6 v7
          have hst2 : byK p xs (k + 1) = (cs ++ [u]) ++ [R] := by rw [HST.out]; simp
          have hcl3 : (cs ++ [u]).length ≤ 3000 := by simp; omega
          have HS2 := Lib.hid hst2
          clear hst2 HST
          generalize cs ++ [u] = ds at O4 HS2 hcl3
          go_wp2_with (at_builtin; refine wpList_append_own _ rfl _ _ 56 rfl w.heap.size 25 i0 _ 8 64 Try.underlying56 HI.out HZ.out.1 HZ.out.2.1 HZ.out.2.2 rfl (by decide) _ _ _ rfl ((O4.out.alloc _).alloc _).row _ 1 1 (cellsV R) rfl rfl (new_cells_at (by simp)) (cellsV_one R) (by unfold maxLen; omega) (by omega) (by simp; omega) ?_; intro v6 w6 hown' hgrow _; obtain ⟨ho6, hb6⟩ := append_ofV (O4.out.alloc _) (by simp; omega) hown' hgrow; have O6 := Lib.hid ho6; have B6 := Lib.hid ((B4.out.alloc B4.out.size _).trans hb6); clear ho6 hb6 hown' hgrow)
          go_roundw
          case rel => exact ⟨k + 1, by rw [HN.out]; omega, by go_num, by rw [HS2.out]; exact O6.out, B6.out⟩
          case measure => simp [intOf]; omega
      · replace hui : dist p u < 0 := by omega
        by_cases hti : 0 ≤ dist p t
        ·
          have IN := Lib.hid (inside_any p u HUS.out false (by simpa using hui))
          have CR := Lib.hid (crossing_come p u t _ HUS.out HTS.out hti hui rfl)
          rw [seg_come hui hti] at HST
          generalize onV p t u = R at CR HST
          clear hui hti HUS HTS
          go_wp2_with fail
          with_reducible refine (IN.out _).mono ?_
          rintro e w2 ⟨rfl, hb2⟩
          have U2 := Lib.hid (show w2.heap[wr.heap.size]? = some (vB 25 u) from vB_grow (new_at rfl) hb2)
          have O2 := Lib.hid ((HO.out.alloc _).keep hb2)
          have B2 := Lib.hid (bstep (HBE.out.alloc HBE.out.size _) (by simp; omega) hb2)
          have hz2 : wr.heap.size < w2.heap.size := vB_lt U2.out
          clear hb2 e0 e1 e2 e3 e4 e5 e6 e7
          obtain ⟨t0, t1, t2, t3, t4, t5, t6, t7⟩ := T8.out.below (B2.out.mono hB) hbB
          obtain ⟨v0, v1, v2, v3, v4, v5, v6, v7⟩ := vB_cell (vB_alloc (Obj.cells #[.int .i64 t.x, .int .i64 t.y, .int .i64 t.z, .int .i64 t.w, .int .i64 t.a, .int .i64 t.b, .int .i64 t.c, .int .i64 t.d] 25) U2.out)
          go_wp2_with fail
          with_reducible refine (CR.out _).mono ?_
          rintro e w4 ⟨rfl, hb4⟩
          have O4 := Lib.hid ((O2.out.alloc _).keep hb4)
          have B4 := Lib.hid (bstep (B2.out.alloc B2.out.size _) (by simp; omega) hb4)
          have hz4 := B4.out.size
          clear hb4 t0 t1 t2 t3 t4 t5 t6 t7 v0 v1 v2 v3 v4 v5 v6 v7
          go_wp2_with (at_builtin; refine wpList_append_own _ rfl _ _ 56 rfl w.heap.size 25 i0 _ 8 64 Try.underlying56 HI.out HZ.out.1 HZ.out.2.1 HZ.out.2.2 rfl (by decide) _ _ _ rfl ((O4.out.alloc _).alloc _).row _ 1 1 (cellsV R) rfl rfl (new_cells_at (by simp)) (cellsV_one R) (by unfold maxLen; omega) (by omega) (by simp; omega) ?_; intro v6 w6 hown' hgrow _; obtain ⟨ho6, hb6⟩ := append_ofV (O4.out.alloc _) (by simp; omega) hown' hgrow; have O6 := Lib.hid ho6; have B6 := Lib.hid ((B4.out.alloc B4.out.size _).trans hb6); clear ho6 hb6 hown' hgrow)
          go_roundw
          case rel => exact ⟨k + 1, by rw [HN.out]; omega, by go_num, by rw [HST.out]; exact O6.out, B6.out⟩
          case measure => simp [intOf]; omega
        · replace hti : dist p t < 0 := by omega
          have IN := Lib.hid (inside_any p u HUS.out false (by simpa using hui))
          have CR := Lib.hid (crossing_none p u t HUS.out HTS.out (by omega) (by omega))
          rw [seg_out hui hti] at HST
          clear hui hti HUS HTS
          go_wp2_with fail
          with_reducible refine (IN.out _).mono ?_
          rintro e w2 ⟨rfl, hb2⟩
          have U2 := Lib.hid (show w2.heap[wr.heap.size]? = some (vB 25 u) from vB_grow (new_at rfl) hb2)
          have O2 := Lib.hid ((HO.out.alloc _).keep hb2)
          have B2 := Lib.hid (bstep (HBE.out.alloc HBE.out.size _) (by simp; omega) hb2)
          have hz2 : wr.heap.size < w2.heap.size := vB_lt U2.out
          clear hb2 e0 e1 e2 e3 e4 e5 e6 e7
          obtain ⟨t0, t1, t2, t3, t4, t5, t6, t7⟩ := T8.out.below (B2.out.mono hB) hbB
          obtain ⟨v0, v1, v2, v3, v4, v5, v6, v7⟩ := vB_cell (vB_alloc (Obj.cells #[.int .i64 t.x, .int .i64 t.y, .int .i64 t.z, .int .i64 t.w, .int .i64 t.a, .int .i64 t.b, .int .i64 t.c, .int .i64 t.d] 25) U2.out)
          go_wp2_with fail
          with_reducible refine (CR.out _).mono ?_
          rintro e w4 ⟨rfl, hb4⟩
          have O4 := Lib.hid ((O2.out.alloc _).keep hb4)
          have B4 := Lib.hid (bstep (B2.out.alloc B2.out.size _) (by simp; omega) hb4)
          have hz4 := B4.out.size
          clear hb4 t0 t1 t2 t3 t4 t5 t6 t7 v0 v1 v2 v3 v4 v5 v6 v7
          go_wp2
          go_roundw
          case rel => exact ⟨k + 1, by rw [HN.out]; omega, by go_num, by rw [HST.out]; simpa using O4.out.alloc _, B4.out.alloc B4.out.size _⟩
          case measure => simp [intOf]; omega
    · go_wp2
      go_ret
      refine ⟨_, rfl, ?_, HBE.out⟩
      have e : k = xs.length := by rw [HN.out]; omega
      have h := HO.out
      rw [e] at h
      exact h
end Go.Proofs.Ytfdlfjecgefgfaa.C
