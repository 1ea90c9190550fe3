/-
  The contracts of glazierref05.By and Poly; append of a slice of vertices onto a row of the call's own.
-/
import Derived.Test.YtfdlfjecgefgfaaCPoly
import Derived.Test.YtfdlfjecgefgfaaCEmpty
import Derived.Test.YtfdlfjecgefgfaaCRefC
namespace Go.Proofs.Ytfdlfjecgefgfaa.C
open Go.RowKit
attribute [local go_sem ↓] Go.wp_at_zero Go.wp_at_succ

theorem run_append_verts (w : World) (base B : Nat) (ty : TypeId) (v : Value) (k l : List V) (A : Option Addr) (c : Nat) (hown : OwnV w base v k) (hsrc : Vs w B A l) (hn : k.length + l.length ≤ 100000) (hbase : base ≤ w.heap.size) :
    ∃ v' w', (Builtin.append_ #[56, 56] ty #[v, .slice A l.length c]).run Try.prog w = .ok v' w' ∧ OwnV w' base v' (k ++ l) ∧ w.grownBy w' v.ownBlock := by
  obtain ⟨i0, hi, hz0, hz1, hz2⟩ := info_parts Try.info25
  have key : ∀ ad : Addr, A = some ad → (∀ j u, (flat l)[j]? = some u → w.cell? (ad.add j) = some u) → ∃ v' w', (Builtin.append_ #[56, 56] ty #[v, .slice A l.length c]).run Try.prog w = .ok v' w' ∧ OwnV w' base v' (k ++ l) ∧ w.grownBy w' v.ownBlock := by
    intro ad e h
    subst e
    obtain ⟨v', w', hr, h2, h3, _, _⟩ := run_append_own_at (P := Try.prog) w base 56 ty 25 i0 _ 8 64 Try.underlying56 hi hz0 hz1 hz2 rfl (by decide) v k.length (flat k) hown.row ad l.length c (flat l) (flat_length l) h (flat_one l) (by unfold maxLen; omega) (by omega) hbase
    exact ⟨v', w', hr, by unfold OwnV; rw [List.length_append, flat_append]; exact h2, h3⟩
  by_cases hne : l = []
  · subst hne
    cases A with
    | none =>
      refine ⟨v, w, ?_, by simpa using hown, World.grownBy.refl w _⟩
      rcases hown.2 with ⟨rfl, h0⟩ | ⟨g, cap, cur, rfl, _, _, hnc, _⟩
      · simp [Builtin.append_, run_underlying Try.underlying56, sizeOf, typeInfo, hi, Builtin.lenOf, Builtin.firstCells]
      · simp [Builtin.append_, run_underlying Try.underlying56, sizeOf, typeInfo, hi, Builtin.lenOf, Builtin.firstCells, hnc, storeCells]
    | some ad => exact key ad rfl (fun j u h => by simp [flat] at h)
  · obtain ⟨b, off, rfl, _, hc⟩ := hsrc.cells hne
    exact key _ rfl (fun j u h => by rw [addr_add]; exact hc j u h)

theorem wpList_append_verts {w : World} {ops : Array Oper} {rest : List Oper} {o : Oper} {a : Act} {Q : Exit → Act → World → Prop} (hgd : o.guard = none) (s x : Operand)
    (ho : o.op = .call { callee := .builtin .append, args := #[s, x], argTypes := #[56, 56] }) (base B m c : Nat) (v : Value) (A : Option Addr) (k l : List V) (hs : a.eval s = v) (hx : a.eval x = .slice A m c) (hm : l.length = m)
    (hown : OwnV w base v k) (hsrc : Vs w B A l) (hn : k.length + l.length ≤ 100000) (hbase : base ≤ w.heap.size)
    (h : ∀ v' w', OwnV w' base v' (k ++ l) → w.grownBy w' v.ownBlock → wpList Try.prog ops Q rest (a.put o.dst v') w') : wpList Try.prog ops Q (o :: rest) a w := by
  refine wpList_plain hgd fun K hK => ?_
  subst hm
  obtain ⟨v', w', hr, h2, h3⟩ := run_append_verts w base B o.type v k l A c hown hsrc hn hbase
  unfold Oper.wp execOp
  simp only [ho, resolve, invoke, builtin, Sem.run_bind, Sem.run_pure, Result.andThen_ok, List.map_toArray, List.map_cons, List.map_nil, hs, hx, hr]
  exact hK _ _ (h v' w' h2 h3)

theorem append_keeps2 {wr w2 w3 : World} {base g : Nat} {v : Value} {cs : List V} {T : Obj} {t : TypeId} {u : V} (ho : OwnV wr base v cs) (hg : (w2.alloc T).grownBy w3 v.ownBlock) (hge : wr.heap.size ≤ g) (hu : w2.heap[g]? = some (vB t u)) : w3.heap[g]? = some (vB t u) := append_keeps ho hg hge hu

/-- A row that is empty, with all of a slice appended. -/
theorem copy_own {w w' : World} {A : Option Addr} {v' : Value} {l : List V} (ho : OwnV w' w.heap.size v' ([] ++ l)) (hg : (w.alloc (.cells #[] 25)).grownBy w' (Value.slice (some ⟨w.heap.size, 0, none⟩) 0 0).ownBlock) (_ : A = A) : OwnV w' w.heap.size v' l ∧ Below w.heap.size w w' :=
  ⟨by simpa using ho, ((Below.refl _ _).alloc (Nat.le_refl _) _).grown hg (by simp) fun j e => by
    have : w.heap.size = j := by simpa [Value.ownBlock] using e
    omega⟩

theorem rby_none (p : Int) (A : Option Addr) (c : Nat) (xs : List V) (B : Nat) (w : World) (hs : Vs w B A xs) (hl : xs.length ≤ 1000) (hp : ¬ (0 ≤ p ∧ p ≤ 4)) :
    Calls Try.prog 40 #[.int .i64 p, .slice A xs.length c] w (MadeV w.heap.size w xs) := by
  have HS := Lib.hid (hs.grow ((Below.refl w.heap.size w).alloc (Nat.le_refl _) (.cells #[] 25)))
  clear hs
  generalize hn : xs.length = n at hl ⊢
  have HN := Lib.hid hn
  clear hn
  by_cases h0 : p < 0
  · go_enter Try.func40, Try.ntmps40
    go_wp2_with (at_builtin; refine wpList_append_verts rfl _ _ rfl w.heap.size _ n c _ A [] xs rfl rfl HN.out (ownV_empty _ _ (Nat.le_refl _)) HS.out (by have := HN.out; simp; omega) (by simp) ?_; intro v' w2 ho hg; obtain ⟨ho2, hb2⟩ := copy_own (A := A) ho hg rfl; have O2 := Lib.hid ho2; have B2 := Lib.hid hb2; clear ho hg ho2 hb2)
    go_ret
    exact ⟨_, rfl, O2.out, B2.out⟩
  · have h4 : 4 < p := by omega
    go_enter Try.func40, Try.ntmps40
    go_wp2_with (at_builtin; refine wpList_append_verts rfl _ _ rfl w.heap.size _ n c _ A [] xs rfl rfl HN.out (ownV_empty _ _ (Nat.le_refl _)) HS.out (by have := HN.out; simp; omega) (by simp) ?_; intro v' w2 ho hg; obtain ⟨ho2, hb2⟩ := copy_own (A := A) ho hg rfl; have O2 := Lib.hid ho2; have B2 := Lib.hid hb2; clear ho hg ho2 hb2)
    go_ret
    exact ⟨_, rfl, O2.out, B2.out⟩

set_option maxRecDepth 100000 in
set_option maxHeartbeats 4000000 in
theorem rby_cut (p : Int) (A : Option Addr) (c : Nat) (xs : List V) (B : Nat) (w : World) (hs : Vs w B A xs) (hB : B ≤ w.heap.size) (hl : xs.length ≤ 1000) (hm : ∀ v ∈ xs, v.sm) (hp0 : 0 ≤ p) (hp4 : p ≤ 4) :
    Calls Try.prog 40 #[.int .i64 p, .slice A xs.length c] w (MadeV w.heap.size w (byV p xs)) := by
  obtain ⟨i0, hi, hz0, hz1, hz2⟩ := info_parts Try.info25
  have HI := Lib.hid hi
  have HZ := Lib.hid (And.intro hz0 (And.intro hz1 hz2))
  clear hi hz0 hz1 hz2
  have HS := Lib.hid hs
  have HM := Lib.hid hm
  clear hs hm
  generalize hn : xs.length = n at hl ⊢
  have HN := Lib.hid hn
  clear hn
  go_enter Try.func40, Try.ntmps40
  go_wp2
  go_loopw [5, 6] (fun b i wr => ByAt p xs w b i wr) (fun _ i _ => n - (intOf i).toNat)
  case atStart => exact ⟨0, by omega, rfl, ownV_empty _ _ (Nat.le_refl _), (Below.refl _ _).alloc (Nat.le_refl _) _⟩
  case round =>
    obtain ⟨k, hk, rfl, ho, hbel⟩ := hrel
    rw [HN.out] at hk
    have HO := Lib.hid ho
    have HBE := Lib.hid hbel
    have hzr := hbel.size
    have hcl := byK_len2 p xs k
    clear ho hbel
    by_cases hlt : k < n
    · obtain ⟨m, hm⟩ : ∃ m, m = (k + 1) % n := ⟨_, rfl⟩
      obtain ⟨hmod, hmn⟩ := tmod_next hlt hm
      obtain ⟨b, off, rfl, hbB, hcell⟩ := HS.out.open (k := k) (by rw [HN.out]; exact hlt)
      obtain ⟨u, hu, u8⟩ := hcell k (by rw [HN.out]; exact hlt)
      obtain ⟨t, ht, t8⟩ := hcell m (by rw [HN.out]; exact hmn)
      have HST := Lib.hid (byK_step (p := p) hu (by rw [HN.out]; exact hm) ht)
      have HUS := Lib.hid (HM.out u (List.mem_of_getElem? hu))
      have HTS := Lib.hid (HM.out t (List.mem_of_getElem? ht))
      have hbz : b < wr.heap.size := by omega
      obtain ⟨e0, e1, e2, e3, e4, e5, e6, e7⟩ := u8.below (HBE.out.mono hB) hbB
      obtain ⟨t0, t1, t2, t3, t4, t5, t6, t7⟩ := (t8.below (HBE.out.mono hB) hbB).grow ((Below.refl _ _).alloc (Nat.le_refl _) (Obj.cells #[.int .i64 u.x, .int .i64 u.y, .int .i64 u.z, .int .i64 u.w, .int .i64 u.a, .int .i64 u.b, .int .i64 u.c, .int .i64 u.d] 25))
      clear hcell hu ht u8 t8 hm
      generalize byK p xs k = cs at HO HST hcl
      have hcl2 : cs.length ≤ 2000 := by omega
      have DU := Lib.hid (rdist_any p u HUS.out _ rfl)
      have DT := Lib.hid (rdist_any p t HTS.out _ rfl)
      by_cases hui : 0 ≤ dist p u
      · by_cases hti : 0 ≤ dist p t
        ·
          rw [seg_in hui hti] at HST
          generalize dist p u = du at DU hui
          generalize dist p t = dt at DT hti
          have bdu : decide (0 ≤ du) = true := by simp; omega
          have bdt : decide (0 ≤ dt) = true := by simp; omega
          clear HUS HTS
          go_wp2_with fail
          with_reducible refine (DU.out _).mono ?_
          rintro e w2 ⟨rfl, hb2⟩
          have U2 := Lib.hid (show w2.heap[wr.heap.size]? = some (vB 25 u) from vB_grow (vB_alloc _ (new_at rfl)) hb2)
          have T2 := Lib.hid (show w2.heap[wr.heap.size + 1]? = some (vB 25 t) from vB_grow (new_at (by simp)) hb2)
          have O2 := Lib.hid (((HO.out.alloc _).alloc _).keep hb2)
          have B2 := Lib.hid (bstep ((HBE.out.alloc HBE.out.size _).alloc (by simp; omega) _) (by simp; omega) hb2)
          clear hb2 e0 e1 e2 e3 e4 e5 e6 e7 t0 t1 t2 t3 t4 t5 t6 t7
          obtain ⟨t0, t1, t2, t3, t4, t5, t6, t7⟩ := vB_cell T2.out
          go_wp2_with fail
          with_reducible refine (DT.out _).mono ?_
          rintro e w3 ⟨rfl, hb3⟩
          have U3 := Lib.hid (vB_grow U2.out hb3)
          have T3 := Lib.hid (vB_grow T2.out hb3)
          have O3 := Lib.hid (O2.out.keep hb3)
          have B3 := Lib.hid (bstep B2.out B2.out.size hb3)
          have hz3 := B3.out.size
          clear hb3 t0 t1 t2 t3 t4 t5 t6 t7 U2 T2 O2
          obtain ⟨c0, c1, c2, c3, c4, c5, c6, c7⟩ := vB_cell U3.out
          go_wp2_with (at_builtin; refine wpList_append_own _ rfl _ _ 56 rfl w.heap.size 25 i0 _ 8 64 Try.underlying56 HI.out HZ.out.1 HZ.out.2.1 HZ.out.2.2 rfl (by decide) _ _ _ rfl (O3.out.alloc _).row _ 1 1 (cellsV u) rfl rfl new_cells (cellsV_one u) (by unfold maxLen; omega) (by omega) (by simp; omega) ?_; intro v' w5 hown' hgrow _; obtain ⟨ho3, hb3⟩ := append_ofV O3.out (by omega) hown' hgrow; have U5 := Lib.hid (append_keeps HO.out hgrow (Nat.le_refl _) U3.out); have T5 := Lib.hid (append_keeps HO.out hgrow (Nat.le_add_right _ 1) T3.out); have O5 := Lib.hid ho3; have B5 := Lib.hid (B3.out.trans hb3); clear ho3 hb3 hown' hgrow c0 c1 c2 c3 c4 c5 c6 c7)
          go_roundw
          case rel => exact ⟨k + 1, by rw [HN.out]; omega, by go_num, by rw [HST.out]; simpa using O5.out, B5.out⟩
          case measure => simp [intOf]; omega
        · replace hti : dist p t < 0 := by omega
          have CR := Lib.hid (rbetween_core u t _ p _ _ _ HUS.out HTS.out rfl rfl rfl rfl hui hti)
          rw [seg_go hui hti] at HST
          rw [show onV p u t = btV (dist p u) (dist p u - dist p t) u t from rfl] at HST
          generalize btV (dist p u) (dist p u - dist p t) u t = R at CR HST
          generalize dist p u = du at DU hui
          generalize dist p t = dt at DT hti
          have bdu : decide (0 ≤ du) = true := by simp; omega
          have bdt : decide (0 ≤ dt) = false := by simp; omega
          clear HUS HTS
          go_wp2_with fail
          with_reducible refine (DU.out _).mono ?_
          rintro e w2 ⟨rfl, hb2⟩
          have U2 := Lib.hid (show w2.heap[wr.heap.size]? = some (vB 25 u) from vB_grow (vB_alloc _ (new_at rfl)) hb2)
          have T2 := Lib.hid (show w2.heap[wr.heap.size + 1]? = some (vB 25 t) from vB_grow (new_at (by simp)) hb2)
          have O2 := Lib.hid (((HO.out.alloc _).alloc _).keep hb2)
          have B2 := Lib.hid (bstep ((HBE.out.alloc HBE.out.size _).alloc (by simp; omega) _) (by simp; omega) hb2)
          clear hb2 e0 e1 e2 e3 e4 e5 e6 e7 t0 t1 t2 t3 t4 t5 t6 t7
          obtain ⟨t0, t1, t2, t3, t4, t5, t6, t7⟩ := vB_cell T2.out
          go_wp2_with fail
          with_reducible refine (DT.out _).mono ?_
          rintro e w3 ⟨rfl, hb3⟩
          have U3 := Lib.hid (vB_grow U2.out hb3)
          have T3 := Lib.hid (vB_grow T2.out hb3)
          have O3 := Lib.hid (O2.out.keep hb3)
          have B3 := Lib.hid (bstep B2.out B2.out.size hb3)
          have hz3 := B3.out.size
          clear hb3 t0 t1 t2 t3 t4 t5 t6 t7 U2 T2 O2
          obtain ⟨c0, c1, c2, c3, c4, c5, c6, c7⟩ := vB_cell U3.out
          go_wp2_with (at_builtin; refine wpList_append_own _ rfl _ _ 56 rfl w.heap.size 25 i0 _ 8 64 Try.underlying56 HI.out HZ.out.1 HZ.out.2.1 HZ.out.2.2 rfl (by decide) _ _ _ rfl (O3.out.alloc _).row _ 1 1 (cellsV u) rfl rfl new_cells (cellsV_one u) (by unfold maxLen; omega) (by omega) (by simp; omega) ?_; intro v' w5 hown' hgrow _; obtain ⟨ho3, hb3⟩ := append_ofV O3.out (by omega) hown' hgrow; have U5 := Lib.hid (append_keeps HO.out hgrow (Nat.le_refl _) U3.out); have T5 := Lib.hid (append_keeps HO.out hgrow (Nat.le_add_right _ 1) T3.out); have O5 := Lib.hid ho3; have B5 := Lib.hid (B3.out.trans hb3); clear ho3 hb3 hown' hgrow c0 c1 c2 c3 c4 c5 c6 c7; obtain ⟨v0, v1, v2, v3, v4, v5, v6, v7⟩ := vB_cell U5.out; obtain ⟨t0, t1, t2, t3, t4, t5, t6, t7⟩ := vB_cell T5.out)
          with_reducible refine (CR.out _).mono ?_
          rintro e w6 ⟨rfl, hb6⟩
          have O6 := Lib.hid (O5.out.keep hb6)
          have B6 := Lib.hid (bstep B5.out B5.out.size hb6)
          have hz6 := B6.out.size
          clear hb6 t0 t1 t2 t3 t4 t5 t6 t7 v0 v1 v2 v3 v4 v5 v6 v7
          have hst2 : byK p xs (k + 1) = (cs ++ [u]) ++ [R] := by rw [HST.out]; simp
          have hcl3 : (cs ++ [u]).length ≤ 3000 := by simp; omega
          have HS2 := Lib.hid hst2
          clear hst2 HST
          generalize cs ++ [u] = ds at O6 HS2 hcl3
          go_wp2_with (at_builtin; refine wpList_append_own _ rfl _ _ 56 rfl w.heap.size 25 i0 _ 8 64 Try.underlying56 HI.out HZ.out.1 HZ.out.2.1 HZ.out.2.2 rfl (by decide) _ _ _ rfl ((O6.out.alloc _).alloc _).row _ 1 1 (cellsV R) rfl rfl (new_cells_at (by simp)) (cellsV_one R) (by unfold maxLen; omega) (by omega) (by simp; omega) ?_; intro v8 w8 hown' hgrow _; obtain ⟨ho8, hb8⟩ := append_ofV (O6.out.alloc _) (by simp; omega) hown' hgrow; have O8 := Lib.hid ho8; have B8 := Lib.hid ((B6.out.alloc B6.out.size _).trans hb8); clear ho8 hb8 hown' hgrow)
          go_roundw
          case rel => exact ⟨k + 1, by rw [HN.out]; omega, by go_num, by rw [HS2.out]; exact O8.out, B8.out⟩
          case measure => simp [intOf]; omega
      · replace hui : dist p u < 0 := by omega
        by_cases hti : 0 ≤ dist p t
        ·
          have CR := Lib.hid (rbetween_core t u _ p _ _ _ HTS.out HUS.out rfl rfl rfl rfl hti hui)
          rw [seg_come hui hti] at HST
          rw [show onV p t u = btV (dist p t) (dist p t - dist p u) t u from rfl] at HST
          generalize btV (dist p t) (dist p t - dist p u) t u = R at CR HST
          generalize dist p u = du at DU hui
          generalize dist p t = dt at DT hti
          have bdu : decide (0 ≤ du) = false := by simp; omega
          have bdt : decide (0 ≤ dt) = true := by simp; omega
          clear HUS HTS
          go_wp2_with fail
          with_reducible refine (DU.out _).mono ?_
          rintro e w2 ⟨rfl, hb2⟩
          have U2 := Lib.hid (show w2.heap[wr.heap.size]? = some (vB 25 u) from vB_grow (vB_alloc _ (new_at rfl)) hb2)
          have T2 := Lib.hid (show w2.heap[wr.heap.size + 1]? = some (vB 25 t) from vB_grow (new_at (by simp)) hb2)
          have O2 := Lib.hid (((HO.out.alloc _).alloc _).keep hb2)
          have B2 := Lib.hid (bstep ((HBE.out.alloc HBE.out.size _).alloc (by simp; omega) _) (by simp; omega) hb2)
          clear hb2 e0 e1 e2 e3 e4 e5 e6 e7 t0 t1 t2 t3 t4 t5 t6 t7
          obtain ⟨t0, t1, t2, t3, t4, t5, t6, t7⟩ := vB_cell T2.out
          go_wp2_with fail
          with_reducible refine (DT.out _).mono ?_
          rintro e w3 ⟨rfl, hb3⟩
          have U3 := Lib.hid (vB_grow U2.out hb3)
          have T3 := Lib.hid (vB_grow T2.out hb3)
          have O3 := Lib.hid (O2.out.keep hb3)
          have B3 := Lib.hid (bstep B2.out B2.out.size hb3)
          have hz3 := B3.out.size
          clear hb3 t0 t1 t2 t3 t4 t5 t6 t7 U2 T2 O2
          obtain ⟨v0, v1, v2, v3, v4, v5, v6, v7⟩ := vB_cell U3.out
          obtain ⟨t0, t1, t2, t3, t4, t5, t6, t7⟩ := vB_cell T3.out
          go_wp2_with fail
          with_reducible refine (CR.out _).mono ?_
          rintro e w6 ⟨rfl, hb6⟩
          have O6 := Lib.hid (O3.out.keep hb6)
          have B6 := Lib.hid (bstep B3.out B3.out.size hb6)
          have hz6 := B6.out.size
          clear hb6 t0 t1 t2 t3 t4 t5 t6 t7 v0 v1 v2 v3 v4 v5 v6 v7
          go_wp2_with (at_builtin; refine wpList_append_own _ rfl _ _ 56 rfl w.heap.size 25 i0 _ 8 64 Try.underlying56 HI.out HZ.out.1 HZ.out.2.1 HZ.out.2.2 rfl (by decide) _ _ _ rfl ((O6.out.alloc _).alloc _).row _ 1 1 (cellsV R) rfl rfl (new_cells_at (by simp)) (cellsV_one R) (by unfold maxLen; omega) (by omega) (by simp; omega) ?_; intro v8 w8 hown' hgrow _; obtain ⟨ho8, hb8⟩ := append_ofV (O6.out.alloc _) (by simp; omega) hown' hgrow; have O8 := Lib.hid ho8; have B8 := Lib.hid ((B6.out.alloc B6.out.size _).trans hb8); clear ho8 hb8 hown' hgrow)
          go_roundw
          case rel => exact ⟨k + 1, by rw [HN.out]; omega, by go_num, by rw [HST.out]; exact O8.out, B8.out⟩
          case measure => simp [intOf]; omega
        · replace hti : dist p t < 0 := by omega
          rw [seg_out hui hti] at HST
          generalize dist p u = du at DU hui
          generalize dist p t = dt at DT hti
          have bdu : decide (0 ≤ du) = false := by simp; omega
          have bdt : decide (0 ≤ dt) = false := by simp; omega
          clear HUS HTS
          go_wp2_with fail
          with_reducible refine (DU.out _).mono ?_
          rintro e w2 ⟨rfl, hb2⟩
          have U2 := Lib.hid (show w2.heap[wr.heap.size]? = some (vB 25 u) from vB_grow (vB_alloc _ (new_at rfl)) hb2)
          have T2 := Lib.hid (show w2.heap[wr.heap.size + 1]? = some (vB 25 t) from vB_grow (new_at (by simp)) hb2)
          have O2 := Lib.hid (((HO.out.alloc _).alloc _).keep hb2)
          have B2 := Lib.hid (bstep ((HBE.out.alloc HBE.out.size _).alloc (by simp; omega) _) (by simp; omega) hb2)
          clear hb2 e0 e1 e2 e3 e4 e5 e6 e7 t0 t1 t2 t3 t4 t5 t6 t7
          obtain ⟨t0, t1, t2, t3, t4, t5, t6, t7⟩ := vB_cell T2.out
          go_wp2_with fail
          with_reducible refine (DT.out _).mono ?_
          rintro e w3 ⟨rfl, hb3⟩
          have U3 := Lib.hid (vB_grow U2.out hb3)
          have T3 := Lib.hid (vB_grow T2.out hb3)
          have O3 := Lib.hid (O2.out.keep hb3)
          have B3 := Lib.hid (bstep B2.out B2.out.size hb3)
          have hz3 := B3.out.size
          clear hb3 t0 t1 t2 t3 t4 t5 t6 t7 U2 T2 O2
          go_wp2
          go_roundw
          case rel => exact ⟨k + 1, by rw [HN.out]; omega, by go_num, by rw [HST.out]; simpa using O3.out, B3.out⟩
          case measure => simp [intOf]; omega
    · go_wp2
      go_ret
      refine ⟨_, rfl, ?_, HBE.out⟩
      have e : k = xs.length := by rw [HN.out]; omega
      have h := HO.out
      rw [e] at h
      exact h

theorem rby_any (p : Int) (A : Option Addr) (c : Nat) (xs : List V) (B : Nat) (w : World) (hs : Vs w B A xs) (hB : B ≤ w.heap.size) (hl : xs.length ≤ 1000) (hm : ∀ v ∈ xs, v.sm) :
    Calls Try.prog 40 #[.int .i64 p, .slice A xs.length c] w (MadeV w.heap.size w (byV p xs)) := by
  by_cases hp : 0 ≤ p ∧ p ≤ 4
  · exact rby_cut p A c xs B w hs hB hl hm hp.1 hp.2
  · rw [byV_none hp]
    exact rby_none p A c xs B w hs hl hp

set_option maxHeartbeats 1000000 in
theorem rpoly_any (A : Option Addr) (c : Nat) (xs : List V) (B : Nat) (w : World) (hs : Vs w B A xs) (hl : xs.length ≤ 30) (hm : ∀ v ∈ xs, v.sm) :
    Calls Try.prog 28 #[.slice A xs.length c] w (MadeV w.heap.size w (polyV xs)) := by
  have HM := Lib.hid hm
  have HS := Lib.hid (hs.grow ((Below.refl w.heap.size w).alloc (Nat.le_refl _) (.cells #[] 25)))
  have HL := Lib.hid hl
  clear hm hs hl
  generalize hn : xs.length = n
  have HN := Lib.hid hn
  clear hn
  go_enter Try.func28, Try.ntmps28
  go_wp2_with (at_builtin; refine wpList_append_verts rfl _ _ rfl w.heap.size _ n c _ A [] xs rfl rfl HN.out (ownV_empty _ _ (Nat.le_refl _)) HS.out (by have := HL.out; simp; omega) (by simp) ?_; intro v' w2 ho hg; obtain ⟨ho2, hb2⟩ := copy_own (A := A) ho hg rfl; have O2 := Lib.hid ho2; have B2 := Lib.hid hb2; clear ho hg ho2 hb2)
  go_loopw [3, 4] (fun l i wr => PolyAt xs w l i wr) (fun _ i _ => 5 - (intOf i).toNat)
  case atStart =>
    obtain ⟨A2, c2, rfl, _, _, hv2⟩ := O2.out.vs
    exact ⟨0, A2, c2, by omega, rfl, rfl, hv2, fun h => absurd h (by omega), B2.out⟩
  case round =>
    obtain ⟨k, A', c', hk, rfl, rfl, hv, ho, hb⟩ := hrel
    have HO := Lib.hid ho
    have HB := Lib.hid hb
    by_cases hlt : k < 5
    · have BY := Lib.hid (rby_any (k : Int) A' c' (polyK xs k) wr.heap.size wr hv (Nat.le_refl _) (polyK_small HL.out hlt) (polyK_sm HM.out k))
      rw [show byV (k : Int) (polyK xs k) = polyK xs (k + 1) from rfl] at BY
      clear hv ho hb
      generalize (polyK xs k).length = n at *
      go_wp2_with fail
      with_reducible refine (BY.out).mono ?_
      rintro e w2 ⟨v, rfl, ho, hb2⟩
      have H2 := Lib.hid (bstep HB.out HB.out.size hb2)
      have O2 := Lib.hid (ho.less HB.out.size)
      clear hb2 ho
      go_wp2
      go_roundw
      case rel =>
        obtain ⟨A2, c2, e, _, _, hv2⟩ := O2.out.vs
        exact ⟨k + 1, A2, c2, by omega, by go_num, e, hv2, fun _ => O2.out, H2.out⟩
      case measure => simp [intOf]; omega
    · obtain rfl : k = 5 := by omega
      clear hv ho hb
      have HP := Lib.hid (show polyV xs = if (polyK xs 5).length < 3 then [] else polyK xs 5 from rfl)
      generalize polyV xs = pv at *
      generalize polyK xs 5 = pk at *
      by_cases h3 : pk.length < 3
      · go_wp2
        go_ret
        have e := HP.out
        rw [if_pos h3] at e
        exact ⟨_, rfl, by rw [e]; exact OwnV.nil _ _, HB.out⟩
      · go_wp2
        go_ret
        have e := HP.out
        rw [if_neg h3] at e
        exact ⟨_, rfl, by rw [e]; exact HO.out (by omega), HB.out⟩
end Go.Proofs.Ytfdlfjecgefgfaa.C
