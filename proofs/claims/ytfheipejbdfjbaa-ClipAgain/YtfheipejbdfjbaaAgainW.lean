/-
  ClipAgain's walk.
-/
import Derived.Test.YtfheipejbdfjbaaPlanesW
namespace Go.Proofs.Ytfheipejbdfjbaa
open Go.RowKit
attribute [local go_sem ↓] Go.wp_at_zero Go.wp_at_succ

def inL (p : Int) (l : List V) : List V := l.filter fun v => decide (0 ≤ dist p v)
theorem inL_next {p : Int} {xs : List V} {j : Nat} {u : V} (hu : xs[j]? = some u) : inL p (xs.take (j + 1)) = inL p (xs.take j) ++ (if 0 ≤ dist p u then [u] else []) := by
  rw [List.take_add_one, hu]
  unfold inL
  rw [List.filter_append]
  congr 1
  by_cases h : 0 ≤ dist p u
  · simp [h]
  · simp [h]
theorem inL_in (p : Int) (l : List V) : ∀ v ∈ inL p l, 0 ≤ dist p v := fun v hv => by
  have := (List.mem_filter.1 hv).2
  simpa using this
def PickAt (p : Int) (xs : List V) (w : World) (b i : Value) (wr : World) : Prop :=
  ∃ j : Nat, j ≤ xs.length ∧ i = .int .i64 j ∧ OwnV wr w.heap.size b (inL p (xs.take j)) ∧ Below w.heap.size w wr
def BoundAt (xs : List V) (w : World) (a b i : Value) (wr : World) : Prop :=
  ∃ (j : Nat) (lo hi : Int), j ≤ xs.length ∧ i = .int .i64 j ∧ a = .int .i64 lo ∧ b = .int .i64 hi ∧ (∀ v ∈ xs.take j, lo ≤ v.y ∧ v.y ≤ hi) ∧ Below w.heap.size w wr

theorem by_between {p lo hi : Int} {l : List V} (hl : ∀ v ∈ l, lo ≤ v.y ∧ v.y ≤ hi) : ∀ v ∈ byV p l, lo ≤ v.y ∧ v.y ≤ hi :=
  byV_mem (P := fun v => lo ≤ v.y ∧ v.y ≤ hi) hl fun a b ha hb h0 h1 => by
    show lo ≤ bt _ _ a.y b.y ∧ bt _ _ a.y b.y ≤ hi
    exact bt_in h0 (by omega) (by omega) ha hb

set_option maxRecDepth 100000 in
set_option maxHeartbeats 4000000 in
theorem again_walk (A : Option Addr) (c : Nat) (xs : List V) (nb : Int) (w : World) (hxs : Vs w w.heap.size A xs) (hb0 : 0 ≤ nb) (hb1 : nb ≤ 255) :
    Calls Try.prog 7 #[.slice A xs.length c, .int .u8 nb] w fun e w' => e = .returned (.bool true) ∧ Below w.heap.size w w' := by
  obtain ⟨i0, hi, hz0, hz1, hz2⟩ := info_parts Try.info30
  have HI := Lib.hid hi
  have HZ := Lib.hid (And.intro hz0 (And.intro hz1 hz2))
  clear hi hz0 hz1 hz2
  have HX := Lib.hid hxs
  have HS := Lib.hid (shown_any w)
  clear hxs
  generalize hn : xs.length = n
  have HN := Lib.hid hn
  clear hn
  obtain ⟨p, hp⟩ : ∃ m, nb.tmod 5 = m := ⟨_, rfl⟩
  go_enter Try.func7, Try.ntmps7
  go_wp2_with fail
  with_reducible refine (HS.out).mono ?_
  rintro e w1 ⟨rfl, hb⟩
  have H1 := Lib.hid hb
  have FT := Lib.hid (HN.out ▸ fit_l A c xs _ w1 (HX.out.below hb))
  clear hb
  have HL := Lib.hid (fit_ok (xs.take 8))
  have hll : ((xs.take 8).map fitV).length ≤ 8 := by simp; omega
  generalize (xs.take 8).map fitV = L at FT HL hll
  go_wp2_with fail
  with_reducible refine (FT.out).mono ?_
  rintro e w2 ⟨v, rfl, ho, hb⟩
  have H2 := Lib.hid (bstep H1.out H1.out.size hb)
  obtain ⟨A2, c2, rfl, -, -, hv⟩ := ho.vs
  have V2 := Lib.hid hv
  have BY := Lib.hid (by_any p A2 c2 L _ w2 hv (Nat.le_refl _) (by omega) (ok_sm HL.out))
  clear hb ho hv
  have hal := byV_len2 p L
  have HAS := Lib.hid (byV_sm (p := p) (ok_sm HL.out))
  have HAB := Lib.hid (fun lo hi => by_between (p := p) (lo := lo) (hi := hi) (l := L))
  generalize byV p L = aL at BY hal HAS HAB
  generalize hln : L.length = ln at hll hal BY ⊢
  have HLN := Lib.hid hln
  clear hln
  go_wp2_with fail
  with_reducible refine (BY.out).mono ?_
  rintro e w3 ⟨v, rfl, ho, hb⟩
  have H3 := Lib.hid (bstep H2.out H2.out.size hb)
  have V2' := Lib.hid (V2.out.grow hb)
  have hz3 := hb.size
  obtain ⟨A3, c3, rfl, -, -, hv⟩ := ho.vs
  have V3 := Lib.hid hv
  generalize hla : aL.length = la at hal ⊢
  have HLA := Lib.hid hla
  clear hb ho hv V2 hla
  go_wp2
  go_loopw [9, 10] (fun b i wr => PickAt p aL w3 b i wr) (fun _ i _ => la - (intOf i).toNat)
  case atStart => exact ⟨0, by omega, rfl, ownV_empty _ _ (Nat.le_refl _), (Below.refl _ _).alloc (Nat.le_refl _) _⟩
  case round =>
    obtain ⟨j, hj, rfl, ho, hbel⟩ := hrel
    rw [HLA.out] at hj
    have HO := Lib.hid ho
    have HBE := Lib.hid hbel
    have hzr := hbel.size
    clear ho hbel
    have hfl : (inL p (aL.take j)).length ≤ j := Nat.le_trans (List.length_filter_le _ _) (by simp; omega)
    by_cases hlt : j < la
    · obtain ⟨b, off, rfl, hbB, hcell⟩ := V3.out.open (k := j) (by rw [HLA.out]; exact hlt)
      obtain ⟨u, hu, u8⟩ := hcell j (by rw [HLA.out]; exact hlt)
      have HNX := Lib.hid (inL_next (p := p) hu)
      have U8 := Lib.hid u8
      obtain ⟨e0, e1, e2, e3, e4, e5, e6, e7⟩ := u8.below HBE.out hbB
      have DD := Lib.hid (rdist_any p u (HAS.out u (List.mem_of_getElem? hu)) _ rfl)
      generalize dist p u = d at DD HNX
      generalize inL p (aL.take j) = cs at HO HNX hfl
      clear hcell hu u8
      by_cases hd : 0 ≤ d
      · rw [if_pos hd] at HNX
        go_wp2_with fail
        with_reducible refine (DD.out _).mono ?_
        rintro e w5 ⟨rfl, hb⟩
        have O5 := Lib.hid (HO.out.keep hb)
        have B5 := Lib.hid (bstep HBE.out HBE.out.size hb)
        have hz5 := B5.out.size
        clear hb e0 e1 e2 e3 e4 e5 e6 e7
        obtain ⟨e0, e1, e2, e3, e4, e5, e6, e7⟩ := U8.out.below B5.out hbB
        go_wp2_with (at_builtin; refine wpList_append_own _ rfl _ _ 22 rfl w3.heap.size 30 i0 _ 8 64 Try.underlying22 HI.out HZ.out.1 HZ.out.2.1 HZ.out.2.2 rfl (by decide) _ _ _ rfl (O5.out.alloc _).row _ 1 1 (cellsV u) rfl rfl new_cells (cellsV_one u) (by unfold maxLen; omega) (by omega) (by simp; omega) ?_; intro v' w6 hown' hgrow _; obtain ⟨ho3, hb3⟩ := append_ofV O5.out (by omega) hown' hgrow; have O6 := Lib.hid ho3; have B6 := Lib.hid (B5.out.trans hb3); clear ho3 hb3 hown' hgrow)
        go_roundw
        case rel => exact ⟨j + 1, by rw [HLA.out]; omega, by go_num, by rw [HNX.out]; exact O6.out, B6.out⟩
        case measure => simp [intOf]; omega
      · rw [if_neg hd] at HNX
        go_wp2_with fail
        with_reducible refine (DD.out _).mono ?_
        rintro e w5 ⟨rfl, hb⟩
        have O5 := Lib.hid (HO.out.keep hb)
        have B5 := Lib.hid (bstep HBE.out HBE.out.size hb)
        clear hb e0 e1 e2 e3 e4 e5 e6 e7
        go_wp2
        go_roundw
        case rel => exact ⟨j + 1, by rw [HLA.out]; omega, by go_num, by rw [HNX.out, List.append_nil]; exact O5.out, B5.out⟩
        case measure => simp [intOf]; omega
    · have HT := Lib.hid (show aL.take j = aL from List.take_of_length_le (by rw [HLA.out]; omega))
      rw [HT.out] at hfl HO
      have HIN := Lib.hid (inL_in p aL)
      have HIS := Lib.hid (show ∀ v ∈ inL p aL, v.sm from fun v hv => HAS.out v (List.mem_filter.1 hv).1)
      generalize inL p aL = fl at hfl HO HIN HIS
      obtain ⟨A4, c4, rfl, -, -, hv⟩ := HO.out.vs
      have BY2 := Lib.hid (by_any p A4 c4 fl _ wr hv (Nat.le_refl _) (by omega) HIS.out)
      rw [byV_in HIN.out] at BY2
      have V4 := Lib.hid hv
      clear hv
      go_wp2_with fail
      with_reducible refine (BY2.out).mono ?_
      rintro e w5 ⟨v, rfl, ho, hb⟩
      have B5 := Lib.hid (bstep HBE.out HBE.out.size hb)
      obtain ⟨A5, c5, rfl, -, -, hv⟩ := ho.vs
      have SM := Lib.hid (same_any A5 A4 c5 c4 fl fl _ _ w5 hv (V4.out.below hb) (by omega) true (by simp))
      clear hb ho hv
      generalize fl.length = nf at SM hfl ⊢
      go_wp2_with fail
      with_reducible refine (SM.out).mono ?_
      rintro e w6 ⟨rfl, hb⟩
      have B6 := Lib.hid (bstep B5.out B5.out.size hb)
      clear hb
      go_wp2
      go_loopw [12, 13, 14] (fun a b i wr => BoundAt L w3 a b i wr) (fun _ _ i _ => ln - (intOf i).toNat)
      case atStart => exact ⟨0, _, _, by omega, rfl, rfl, rfl, (fun v hv => by simp at hv), B6.out⟩
      case round =>
        obtain ⟨q, lo, hi, hq, rfl, rfl, rfl, hin, hbel⟩ := hrel
        rw [HLN.out] at hq
        have HIN2 := Lib.hid hin
        have HBQ := Lib.hid hbel
        clear hin hbel
        by_cases hlt2 : q < ln
        · obtain ⟨b, off, rfl, hbB, hcell⟩ := V2'.out.open (k := q) (by rw [HLN.out]; exact hlt2)
          obtain ⟨u, hu, u8⟩ := hcell q (by rw [HLN.out]; exact hlt2)
          have HU := Lib.hid hu
          obtain ⟨-, e1, -, -, -, -, -, -⟩ := u8.below (HBQ.out.mono hz3) hbB
          clear hcell hu u8
          go_wp2
          go_roundw
          case rel =>
            refine ⟨q + 1, min lo u.y, max hi u.y, by rw [HLN.out]; omega, by go_num, rfl, rfl, ?_, HBQ.out⟩
            rw [List.take_add_one, HU.out]
            intro v hv
            rcases List.mem_append.1 hv with h | h
            · have := HIN2.out v h
              omega
            · simp at h; subst h; omega
          case measure => simp [intOf]; omega
        · have HLL := Lib.hid (show ∀ v ∈ aL, lo ≤ v.y ∧ v.y ≤ hi from HAB.out lo hi (by have h := HIN2.out; rwa [List.take_of_length_le (by rw [HLN.out]; omega)] at h))
          go_wp2
          rename World => w7
          go_loopw [15] (fun i wr => ∃ j : Nat, j ≤ la ∧ i = .int .i64 j ∧ wr = w7) (fun i _ => la - (intOf i).toNat)
          case atStart => exact ⟨0, by omega, rfl, rfl⟩
          case round =>
            obtain ⟨r, hr, rfl, rfl⟩ := hrel
            by_cases hlt3 : r < la
            · obtain ⟨b, off, rfl, hbB, hcell⟩ := V3.out.open (k := r) (by rw [HLA.out]; exact hlt3)
              obtain ⟨u, hu, u8⟩ := hcell r (by rw [HLA.out]; exact hlt3)
              obtain ⟨hlo, hhi⟩ := HLL.out u (List.mem_of_getElem? hu)
              obtain ⟨-, e1, -, -, -, -, -, -⟩ := u8.below HBQ.out hbB
              clear hcell hu u8
              go_wp2
              go_roundw
              case rel => exact ⟨r + 1, by omega, by go_num, trivial⟩
              case measure => simp [intOf]; omega
            · have HB7 := Lib.hid (bstep H3.out H3.out.size HBQ.out)
              have BN := Lib.hid (show Calls Try.prog 12 #[.int .i64 p, .slice none 0 0] wr (MadeV wr.heap.size wr []) from by_any p none 0 [] 0 wr Vs.none_ (by omega) (by simp) (fun v hv => by cases hv))
              have hlel : decide ((la : Int) ≤ 2 * (ln : Int)) = true := by simp; omega
              go_wp2_with fail
              with_reducible refine (BN.out).mono ?_
              rintro e w8 ⟨v, rfl, ho, hb⟩
              have B8 := Lib.hid (bstep HB7.out HB7.out.size hb)
              obtain ⟨A8, c8, rfl, -, -, -⟩ := ho.vs
              have PN := Lib.hid (show Calls Try.prog 14 #[.slice none 0 0] w8 (MadeV w8.heap.size w8 []) from poly_any none 0 [] 0 w8 Vs.none_ (by simp) (fun v hv => by cases hv))
              clear hb ho
              rw [show ([] : List V).length = 0 from rfl]
              go_wp2_with fail
              with_reducible refine (PN.out).mono ?_
              rintro e w9 ⟨v, rfl, ho, hb⟩
              have B9 := Lib.hid (bstep B8.out B8.out.size hb)
              obtain ⟨A9, c9, rfl, -, -, -⟩ := ho.vs
              clear hb ho
              rw [show ([] : List V).length = 0 from rfl]
              go_wp2
              go_ret
              exact ⟨rfl, B9.out⟩
end Go.Proofs.Ytfheipejbdfjbaa
