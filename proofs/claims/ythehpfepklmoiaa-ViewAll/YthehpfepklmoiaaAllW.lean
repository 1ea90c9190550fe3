/-
  ViewAll's walk.
-/
import Derived.Test.YthehpfepklmoiaaRefP
import Derived.Test.YthehpfepklmoiaaSameP
import Derived.Test.YthehpfepklmoiaaSmall
import Derived.Test.YthehpfepklmoiaaSetV
namespace Go.Proofs.Ythehpfepklmoiaa
open Go.RowKit
attribute [local go_sem ↓] Go.wp_at_zero Go.wp_at_succ
attribute [local go_sem high] neqP
attribute [local go_sem] guardP sameP_self

theorem ownV_none (w : World) (base : Nat) (h : base ≤ w.heap.size) : OwnV (w.alloc (.cells #[] 27)) base (.slice (some ⟨w.heap.size, 0, none⟩) 0 0) [] :=
  ⟨rfl, .inr ⟨_, 0, #[], rfl, h, heap_alloc_new _ _, Nat.le_refl _, by unfold maxLen; omega, rfl, rfl⟩⟩
def SmallAt (xs : List V) (w : World) (b i : Value) (wr : World) : Prop :=
  ∃ k : Nat, k ≤ xs.length ∧ k ≤ 20 ∧ i = .int .i64 k ∧ OwnV wr w.heap.size b ((xs.take k).map smallV) ∧ Below w.heap.size w wr
theorem smalls_sm (xs : List V) : ∀ v ∈ (xs.take 20).map smallV, v.sm := by
  intro v hv
  obtain ⟨u, -, rfl⟩ := List.mem_map.1 hv
  exact smallV_sm u
theorem append_keeps {wr w2 w3 : World} {base g : Nat} {v : Value} {cs : List V} {T : Obj} {t : TypeId} {u : V} (ho : OwnV wr base v cs) (hg : (w2.alloc T).grownBy w3 v.ownBlock) (hge : wr.heap.size ≤ g) (hu : w2.heap[g]? = some (vB t u)) : w3.heap[g]? = some (vB t u) := by
  have hlt := vB_lt hu
  rw [hg.block g (by simp; omega) (fun e => by have := (ho.row.lt g e.symm).2; omega)]
  exact vB_alloc _ hu
/-- A block of two ints. -/
def iB (x y : Int) : Obj := .cells #[.int .i64 x, .int .i64 y] 22 (0, 0)
theorem iB_cell {w : World} {g : Nat} {x y : Int} (h : w.heap[g]? = some (iB x y)) : w.cell? ⟨g, 0, none⟩ = some (.int .i64 x) ∧ w.cell? ⟨g, 1, none⟩ = some (.int .i64 y) := by
  unfold iB at h
  simp [World.cell?, h]

set_option maxRecDepth 100000 in
set_option maxHeartbeats 4000000 in
theorem all_walk (A : Option Addr) (c : Nat) (xs : List V) (x y nn : Int) (w : World) (hxs : Vs w w.heap.size A xs) :
    Calls Try.prog 3 #[.agg #[.int .i64 x, .int .i64 y], .slice A xs.length c, .int .i64 nn] w fun e w' => e = .returned (.bool true) ∧ Below w.heap.size w w' := by
  obtain ⟨i0, hi, hz0, hz1, hz2⟩ := info_parts Try.info27
  have HI := Lib.hid hi
  have HZ := Lib.hid (And.intro hz0 (And.intro hz1 hz2))
  clear hi hz0 hz1 hz2
  obtain ⟨kk, hk⟩ : ∃ k, nn.tmod 1099511627777 = k := ⟨_, rfl⟩
  have b0 := Int.lt_tmod_of_pos nn (show (0 : Int) < 1099511627777 by decide)
  have b1 := Int.tmod_lt_of_pos nn (show (0 : Int) < 1099511627777 by decide)
  rw [hk] at b0 b1
  have LS := Lib.hid (lawsmall_any nn kk hk)
  obtain ⟨p, hp⟩ : ∃ p, kk / 16 = p := ⟨_, rfl⟩
  have P1 := Lib.hid (pixel_any kk p (by omega) (by omega) hp)
  have RP0 := Lib.hid (rpixel_any kk p (by omega) (by omega) hp)
  obtain ⟨cc, hc⟩ : ∃ c, 16 * kk + 8 = c := ⟨_, rfl⟩
  have C1 := Lib.hid (centre_any kk cc (by omega) (by omega) hc)
  have C2 := Lib.hid (rcentre_any kk cc (by omega) (by omega) hc)
  clear hk hp hc b0 b1
  have HX := Lib.hid hxs
  have HSH := Lib.hid (shown_any (w.alloc (Obj.cells #[.int .i64 x, .int .i64 y] 22)))
  clear hxs
  generalize hn : xs.length = n
  have HN := Lib.hid hn
  clear hn
  go_enter Try.func3, Try.ntmps3
  go_wp2_with fail
  with_reducible refine (HSH.out).mono ?_
  rintro e w1 ⟨rfl, hb⟩
  have hz1 : w.heap.size < w1.heap.size := by have := hb.size; simp at this; omega
  have BW := Lib.hid (bstep ((Below.refl w.heap.size w).alloc (Nat.le_refl _) (Obj.cells #[.int .i64 x, .int .i64 y] 22)) (by simp) hb)
  have S1 := Lib.hid (iB_cell (show w1.heap[w.heap.size]? = some (iB x y) from (hb.block _ (by simp)).trans (heap_alloc_new _ _)))
  clear hb HSH
  go_wp2
  go_loopw [8, 9] (fun b i wr => SmallAt xs w1 b i wr) (fun _ i _ => 20 - (intOf i).toNat)
  case atStart => exact ⟨0, by omega, by omega, rfl, ownV_none _ _ (Nat.le_refl _), (Below.refl _ _).alloc (Nat.le_refl _) _⟩
  case round =>
    obtain ⟨k, hk, hk20, rfl, ho, hbel⟩ := hrel
    rw [HN.out] at hk
    have HO := Lib.hid ho
    have HBE := Lib.hid hbel
    have hzr := hbel.size
    have hcl : ((xs.take k).map smallV).length ≤ 20 := by simp; omega
    have hs1 : wr.cell? ⟨w.heap.size, 0, none⟩ = some (.int .i64 x) ∧ wr.cell? ⟨w.heap.size, 1, none⟩ = some (.int .i64 y) := ⟨(hbel.cell hz1).trans S1.out.1, (hbel.cell hz1).trans S1.out.2⟩
    obtain ⟨s1, s2⟩ := hs1
    clear ho hbel
    by_cases hlt : k < n
    · by_cases hlt20 : k < 20
      · obtain ⟨b', off, rfl, hbB, hcell⟩ := HX.out.open (k := k) (by rw [HN.out]; exact hlt)
        obtain ⟨u, hu, u8⟩ := hcell k (by rw [HN.out]; exact hlt)
        have HST := Lib.hid (show (xs.take (k + 1)).map smallV = (xs.take k).map smallV ++ [smallV u] by rw [List.take_add_one, hu]; simp)
        obtain ⟨e0, e1, e2, e3, e4, e5, e6, e7⟩ := (u8.below BW.out hbB).below HBE.out (by omega)
        have FT := Lib.hid (small_any u)
        have PA := fun w => point_any (smallV u) x y w (smallV_sm u)
        have PB := fun w => rpoint_any (smallV u) x y w (smallV_sm u)
        clear hcell hu u8
        generalize (xs.take k).map smallV = cs at HO HST hcl
        generalize smallV u = R at FT HST PA PB
        generalize ptO x y R = Q at PA PB
        generalize okP x y R = ok at PA PB
        have PH := Lib.hid PA
        have RH := Lib.hid PB
        clear PA PB
        go_wp2_with fail
        with_reducible refine (FT.out _).mono ?_
        rintro e w2 ⟨rfl, hb2⟩
        have O2 := Lib.hid ((HO.out.keep hb2).alloc (Obj.cells #[.int .i64 R.x, .int .i64 R.y, .int .i64 R.z, .int .i64 R.w, .int .i64 R.a, .int .i64 R.b, .int .i64 R.c, .int .i64 R.d] 27))
        have OO := Lib.hid (HO.out.keep hb2)
        have B2 := Lib.hid (bstep HBE.out HBE.out.size hb2)
        have B2' := Lib.hid (B2.out.alloc B2.out.size (Obj.cells #[.int .i64 R.x, .int .i64 R.y, .int .i64 R.z, .int .i64 R.w, .int .i64 R.a, .int .i64 R.b, .int .i64 R.c, .int .i64 R.d] 27))
        have hz2 := B2.out.size
        clear hb2 e0 e1 e2 e3 e4 e5 e6 e7 s1 s2
        have N2 := Lib.hid (show (w2.alloc (Obj.cells #[.int .i64 R.x, .int .i64 R.y, .int .i64 R.z, .int .i64 R.w, .int .i64 R.a, .int .i64 R.b, .int .i64 R.c, .int .i64 R.d] 27)).heap[w2.heap.size]? = some (vB 27 R) from new_at rfl)
        go_wp2_with (at_builtin; refine wpList_append_own _ rfl _ _ 23 rfl w1.heap.size 27 i0 _ 8 64 Try.underlying23 HI.out HZ.out.1 HZ.out.2.1 HZ.out.2.2 rfl (by decide) _ _ _ rfl (O2.out.alloc _).row _ 1 1 (cellsV R) rfl rfl (new_cells_at (by simp)) (cellsV_one R) (by unfold maxLen; omega) (by omega) (by simp; omega) ?_; intro v' w5 hown' hgrow _; obtain ⟨ho3, hb3⟩ := append_ofV O2.out (by simp; omega) hown' hgrow; obtain ⟨c0, c1, c2, c3, c4, c5, c6, c7⟩ := vB_cell (append_keeps OO.out hgrow (Nat.le_refl _) N2.out); have G5 := Lib.hid (append_keeps OO.out hgrow (Nat.le_refl _) N2.out); have O3 := Lib.hid ho3; have B3 := Lib.hid (B2'.out.trans hb3); have s1 := (B3.out.cell hz1).trans S1.out.1; have s2 := (B3.out.cell hz1).trans S1.out.2; clear ho3 hb3 hown' hgrow)
        with_reducible refine (PH.out _).mono ?_
        rintro e w6 ⟨rfl, hb⟩
        have O6 := Lib.hid (O3.out.keep hb)
        have B6 := Lib.hid (bstep B3.out B3.out.size hb)
        have G6 := Lib.hid (vB_grow G5.out hb)
        clear c0 c1 c2 c3 c4 c5 c6 c7 s1 s2 hb O2 OO B2 B2' N2 O3 B3 G5
        obtain ⟨c0, c1, c2, c3, c4, c5, c6, c7⟩ := vB_cell G6.out
        have s1 := (B6.out.cell hz1).trans S1.out.1
        have s2 := (B6.out.cell hz1).trans S1.out.2
        have l6 := vB_lt G6.out
        have l7 : w.heap.size < w6.heap.size := by have := B6.out.size; omega
        go_wp2_with fail
        with_reducible refine (RH.out _).mono ?_
        rintro e w7 ⟨rfl, hb⟩
        have O7 := Lib.hid ((O6.out.alloc (Obj.cells #[.int .i64 Q.x, .int .i64 Q.y, .int .i64 Q.z, .int .i64 Q.a, .int .i64 Q.b, .int .i64 Q.c, .int .i64 Q.d] 30)).keep hb)
        have B7 := Lib.hid (bstep (B6.out.alloc B6.out.size (Obj.cells #[.int .i64 Q.x, .int .i64 Q.y, .int .i64 Q.z, .int .i64 Q.a, .int .i64 Q.b, .int .i64 Q.c, .int .i64 Q.d] 30)) (by have := B6.out.size; simp; omega) hb)
        have Q7 := Lib.hid (show w7.heap[w6.heap.size]? = some (pB 30 Q) from pB_grow (new_at rfl) hb)
        clear c0 c1 c2 c3 c4 c5 c6 c7 s1 s2 hb l6 l7 O6 B6 G6
        obtain ⟨q0, q1, q2, q3, q4, q5, q6⟩ := pB_cell Q7.out
        have l7 := pB_lt Q7.out
        go_wp2
        go_roundw
        case rel => exact ⟨k + 1, by rw [HN.out]; omega, by omega, by go_num, by rw [HST.out]; exact O7.out.alloc _, B7.out.alloc B7.out.size _⟩
        case measure => simp [intOf]; omega
      · have hk' : k = 20 := by omega
        have e : xs.take k = xs.take 20 := by rw [hk']
        have h := HO.out
        rw [e] at h
        have OL := Lib.hid h
        clear h e
        have HL := Lib.hid (smalls_sm xs)
        have hll : ((xs.take 20).map smallV).length ≤ 20 := by simp; omega
        clear hcl HO
        generalize (xs.take 20).map smallV = L at HL OL hll
        obtain ⟨A2, c2, rfl, hcap, hcm, hv⟩ := OL.out.vs
        have PT := points_any x y A2 c2 L _ wr hv (Nat.le_refl _) (by omega) (fun v hv => HL.out v hv)
        have RT := fun w' (hb : Below wr.heap.size wr w') => rpoints_any x y A2 c2 L _ w' (hv.below hb) hb.size (by omega) (fun v hv => HL.out v hv)
        have hpl : (pts x y L).length ≤ 100000 := by
          unfold pts
          split
          · simp; omega
          · simp
        generalize pts x y L = PL at PT RT hpl
        generalize okAll x y L = ok at PT RT
        generalize hln : L.length = ln at *
        have PH := Lib.hid PT
        have RH := Lib.hid RT
        clear PT RT hv hln
        go_wp2_with fail
        with_reducible refine (PH.out).mono ?_
        rintro e w2 ⟨v2, rfl, ho, hb⟩
        obtain ⟨A3, c3, rfl, -, -, hps⟩ := ho.ps
        have H2 := Lib.hid (bstep HBE.out HBE.out.size hb)
        have hs2 : w2.cell? ⟨w.heap.size, 0, none⟩ = some (.int .i64 x) ∧ w2.cell? ⟨w.heap.size, 1, none⟩ = some (.int .i64 y) := ⟨(H2.out.cell hz1).trans S1.out.1, (H2.out.cell hz1).trans S1.out.2⟩
        obtain ⟨s3, s4⟩ := hs2
        have PS := Lib.hid hps
        have RQ := Lib.hid (RH.out w2 hb)
        clear ho hb hps s1 s2 PH RH
        go_wp2_with fail
        with_reducible refine (RQ.out).mono ?_
        rintro e w3 ⟨v3, rfl, ho, hb⟩
        obtain ⟨A4, c4, rfl, -, -, hps'⟩ := ho.ps
        have H3 := Lib.hid (bstep H2.out H2.out.size hb)
        have SM := Lib.hid (same_any A3 A4 c3 c4 PL PL _ _ w3 (PS.out.grow hb) hps' hpl true (by simp))
        clear ho hb hps' s3 s4 PS RQ
        go_wp2_with fail
        with_reducible refine (SM.out).mono ?_
        rintro e w4 ⟨rfl, hb⟩
        have H4 := Lib.hid (bstep H3.out H3.out.size hb)
        have RP := Lib.hid (RP0.out w4)
        clear hb SM
        go_wp2_with (first
          | (go_at_call 16; with_reducible refine (LS.out _).mono ?_; rintro e w' ⟨rfl, rfl⟩)
          | (go_at_call 17; with_reducible refine (P1.out _).mono ?_; rintro e w' ⟨rfl, rfl⟩)
          | (go_at_call 18; with_reducible refine (RP.out).mono ?_; rintro e w5 ⟨rfl, hb⟩; have H5 := Lib.hid hb; clear hb)
          | (go_at_call 19; with_reducible refine (C1.out _).mono ?_; rintro e w' ⟨rfl, rfl⟩)
          | (go_at_call 20; with_reducible refine (C2.out _).mono ?_; rintro e w' ⟨rfl, rfl⟩))
        go_ret
        exact ⟨rfl, BW.out.trans ((bstep H4.out H4.out.size H5.out).mono (by omega))⟩
    · have e : xs.take k = xs.take 20 := by rw [List.take_of_length_le (by rw [HN.out]; omega), List.take_of_length_le (by rw [HN.out]; omega)]
      have h := HO.out
      rw [e] at h
      have OL := Lib.hid h
      clear h e
      have HL := Lib.hid (smalls_sm xs)
      have hll : ((xs.take 20).map smallV).length ≤ 20 := by simp; omega
      clear hcl HO
      generalize (xs.take 20).map smallV = L at HL OL hll
      obtain ⟨A2, c2, rfl, hcap, hcm, hv⟩ := OL.out.vs
      have PT := points_any x y A2 c2 L _ wr hv (Nat.le_refl _) (by omega) (fun v hv => HL.out v hv)
      have RT := fun w' (hb : Below wr.heap.size wr w') => rpoints_any x y A2 c2 L _ w' (hv.below hb) hb.size (by omega) (fun v hv => HL.out v hv)
      have hpl : (pts x y L).length ≤ 100000 := by
        unfold pts
        split
        · simp; omega
        · simp
      generalize pts x y L = PL at PT RT hpl
      generalize okAll x y L = ok at PT RT
      generalize hln : L.length = ln at *
      have PH := Lib.hid PT
      have RH := Lib.hid RT
      clear PT RT hv hln
      go_wp2_with fail
      with_reducible refine (PH.out).mono ?_
      rintro e w2 ⟨v2, rfl, ho, hb⟩
      obtain ⟨A3, c3, rfl, -, -, hps⟩ := ho.ps
      have H2 := Lib.hid (bstep HBE.out HBE.out.size hb)
      have hs2 : w2.cell? ⟨w.heap.size, 0, none⟩ = some (.int .i64 x) ∧ w2.cell? ⟨w.heap.size, 1, none⟩ = some (.int .i64 y) := ⟨(H2.out.cell hz1).trans S1.out.1, (H2.out.cell hz1).trans S1.out.2⟩
      obtain ⟨s3, s4⟩ := hs2
      have PS := Lib.hid hps
      have RQ := Lib.hid (RH.out w2 hb)
      clear ho hb hps s1 s2 PH RH
      go_wp2_with fail
      with_reducible refine (RQ.out).mono ?_
      rintro e w3 ⟨v3, rfl, ho, hb⟩
      obtain ⟨A4, c4, rfl, -, -, hps'⟩ := ho.ps
      have H3 := Lib.hid (bstep H2.out H2.out.size hb)
      have SM := Lib.hid (same_any A3 A4 c3 c4 PL PL _ _ w3 (PS.out.grow hb) hps' hpl true (by simp))
      clear ho hb hps' s3 s4 PS RQ
      go_wp2_with fail
      with_reducible refine (SM.out).mono ?_
      rintro e w4 ⟨rfl, hb⟩
      have H4 := Lib.hid (bstep H3.out H3.out.size hb)
      have RP := Lib.hid (RP0.out w4)
      clear hb SM
      go_wp2_with (first
        | (go_at_call 16; with_reducible refine (LS.out _).mono ?_; rintro e w' ⟨rfl, rfl⟩)
        | (go_at_call 17; with_reducible refine (P1.out _).mono ?_; rintro e w' ⟨rfl, rfl⟩)
        | (go_at_call 18; with_reducible refine (RP.out).mono ?_; rintro e w5 ⟨rfl, hb⟩; have H5 := Lib.hid hb; clear hb)
        | (go_at_call 19; with_reducible refine (C1.out _).mono ?_; rintro e w' ⟨rfl, rfl⟩)
        | (go_at_call 20; with_reducible refine (C2.out _).mono ?_; rintro e w' ⟨rfl, rfl⟩))
      go_ret
      exact ⟨rfl, BW.out.trans ((bstep H4.out H4.out.size H5.out).mono (by omega))⟩
end Go.Proofs.Ythehpfepklmoiaa
