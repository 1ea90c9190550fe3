/-
  The contract of the reference's Points.
-/
import Derived.Test.YtfdlfjecgefgfaaCRefV
import Derived.Test.YtfdlfjecgefgfaaCPoints
namespace Go.Proofs.Ytfdlfjecgefgfaa.C
open Go.RowKit
attribute [local go_sem ↓] Go.wp_at_zero Go.wp_at_succ

theorem ownP_empty (w : World) (base : Nat) (h : base ≤ w.heap.size) : OwnP (w.alloc (.cells #[] 37)) base (.slice (some ⟨w.heap.size, 0, none⟩) 0 0) [] :=
  ⟨rfl, .inr ⟨_, 0, #[], rfl, h, heap_alloc_new _ _, Nat.le_refl _, by unfold maxLen; omega, rfl, rfl⟩⟩

def PtsAt (m k : Int) (xs : List V) (w : World) (b i : Value) (wr : World) : Prop :=
  ∃ j : Nat, j ≤ xs.length ∧ i = .int .i64 j ∧ (∀ v ∈ xs.take j, okP m k v = true) ∧ OwnP wr w.heap.size b ((xs.take j).map (pt m k)) ∧ Below w.heap.size w wr

set_option maxRecDepth 100000 in
set_option maxHeartbeats 2000000 in
theorem rpoints_any (m k : Int) (A : Option Addr) (c : Nat) (xs : List V) (B : Nat) (w : World) (hs : Vs w B A xs) (hB : B ≤ w.heap.size) (hl : xs.length ≤ 1000) (hm : ∀ v ∈ xs, v.sm) :
    Calls Try.prog 21 #[.int .i64 m, .int .i64 k, .slice A xs.length c] w (MadeB w.heap.size w (pts m k xs) (okAll m k xs)) := by
  obtain ⟨i0, hi, hz0, hz1, hz2⟩ := info_parts Try.info37
  have HI := Lib.hid hi
  have HZ := Lib.hid (And.intro hz0 (And.intro hz1 hz2))
  clear hi hz0 hz1 hz2
  have HS := Lib.hid hs
  have HM := Lib.hid hm
  clear hs hm
  generalize hn : xs.length = n at *
  have HN := Lib.hid hn
  clear hn
  go_enter Try.func21, Try.ntmps21
  go_wp2
  go_loopw [8, 9] (fun b i wr => PtsAt m k xs w b i wr) (fun _ i _ => n - (intOf i).toNat)
  case atStart => exact ⟨0, by omega, rfl, by simp, ownP_empty _ _ (Nat.le_refl _), (Below.refl _ _).alloc (Nat.le_refl _) _⟩
  case round =>
    obtain ⟨j, hj, rfl, hin, ho, hbel⟩ := hrel
    rw [HN.out] at hj
    have HO := Lib.hid ho
    have HK := Lib.hid hin
    have HBE := Lib.hid hbel
    have hzr := hbel.size
    have hcl : ((xs.take j).map (pt m k)).length ≤ 1000 := by simp; omega
    clear ho hin hbel
    by_cases hlt : j < n
    · obtain ⟨b', off, rfl, hbB, hcell⟩ := HS.out.open (k := j) (by rw [HN.out]; exact hlt)
      obtain ⟨u, hu, u8⟩ := hcell j (by rw [HN.out]; exact hlt)
      have HST := Lib.hid (show (xs.take (j + 1)).map (pt m k) = (xs.take j).map (pt m k) ++ [pt m k u] by rw [List.take_add_one, hu]; simp)
      have PU := fun w => rpoint_any u m k w (HM.out u (List.mem_of_getElem? hu))
      have HU := Lib.hid hu
      obtain ⟨e0, e1, e2, e3, e4, e5, e6, e7⟩ := u8.below (HBE.out.mono hB) hbB
      clear hcell hu u8
      cases hok : okP m k u
      · have he : ptO m k u = pz := by unfold ptO; rw [if_neg (by simp [hok])]
        rw [he, hok] at PU
        have HP := Lib.hid PU
        have HOK := Lib.hid hok
        clear PU hok he
        go_wp2_with fail
        with_reducible refine (HP.out _).mono ?_
        rintro e w2 ⟨rfl, hb2⟩
        have H2 := Lib.hid (bstep HBE.out HBE.out.size hb2)
        clear hb2 e0 e1 e2 e3 e4 e5 e6 e7
        go_wp2
        go_ret2
        have hno : okAll m k xs = false := by
          unfold okAll
          rw [List.all_eq_false]
          exact ⟨u, List.mem_of_getElem? HU.out, by rw [HOK.out]; decide⟩
        refine ⟨.slice none 0 0, by rw [hno]; rfl, ?_, H2.out.alloc H2.out.size _⟩
        unfold pts
        rw [if_neg (by rw [hno]; decide)]
        exact OwnP.nil _ _
      · have he : ptO m k u = pt m k u := by unfold ptO; rw [if_pos hok]
        rw [he, hok] at PU
        have HP := Lib.hid PU
        have HOK := Lib.hid hok
        clear PU hok he
        generalize (xs.take j).map (pt m k) = cs at HO HST hcl
        generalize pt m k u = R at HP HST
        go_wp2_with fail
        with_reducible refine (HP.out _).mono ?_
        rintro e w2 ⟨rfl, hb2⟩
        have O2 := Lib.hid (HO.out.keep hb2)
        have B2 := Lib.hid (bstep HBE.out HBE.out.size hb2)
        have hz2 := B2.out.size
        have O2' := Lib.hid (O2.out.alloc (Obj.cells #[.int .i64 R.x, .int .i64 R.y, .int .i64 R.z, .int .i64 R.a, .int .i64 R.b, .int .i64 R.c, .int .i64 R.d] 37))
        have B2' := Lib.hid (B2.out.alloc B2.out.size (Obj.cells #[.int .i64 R.x, .int .i64 R.y, .int .i64 R.z, .int .i64 R.a, .int .i64 R.b, .int .i64 R.c, .int .i64 R.d] 37))
        clear hb2 e0 e1 e2 e3 e4 e5 e6 e7
        go_wp2_with (at_builtin; refine wpList_append_own _ rfl _ _ 53 rfl w.heap.size 37 i0 _ 7 56 Try.underlying53 HI.out HZ.out.1 HZ.out.2.1 HZ.out.2.2 rfl (by decide) _ _ _ rfl (O2'.out.alloc _).row _ 1 1 (cellsP R) rfl rfl (newP_cells_at (by simp)) (cellsP_one R) (by unfold maxLen; omega) (by omega) (by simp; omega) ?_; intro v' w5 hown' hgrow _; obtain ⟨ho3, hb3⟩ := append_ofP O2'.out (by simp; omega) hown' hgrow; have O3 := Lib.hid ho3; have B3 := Lib.hid (B2'.out.trans hb3); clear ho3 hb3 hown' hgrow)
        go_roundw
        case rel =>
          refine ⟨j + 1, by rw [HN.out]; omega, by go_num, ?_, by rw [HST.out]; exact O3.out, B3.out⟩
          rw [List.take_add_one, HU.out]
          intro v hv
          rcases List.mem_append.1 hv with h | h
          · exact HK.out v h
          · simp at h; subst h; exact HOK.out
        case measure => simp [intOf]; omega
    · go_wp2
      go_ret2
      have e : xs.take j = xs := List.take_of_length_le (by rw [HN.out]; omega)
      have h := HK.out
      have ho := HO.out
      rw [e] at h ho
      have hyes : okAll m k xs = true := by
        unfold okAll
        rw [List.all_eq_true]
        exact h
      refine ⟨_, by rw [hyes]; rfl, ?_, HBE.out⟩
      unfold pts
      rw [if_pos hyes]
      exact ho
end Go.Proofs.Ytfdlfjecgefgfaa.C
