/-
  ClipFew's walk.
-/
import Derived.Test.YtfheipejbdfjbaaShown
import Derived.Test.YtfheipejbdfjbaaFew
import Derived.Test.YtfheipejbdfjbaaFar
namespace Go.Proofs.Ytfheipejbdfjbaa
open Go.RowKit
attribute [local go_sem ↓] Go.wp_at_zero Go.wp_at_succ

theorem fit_ok (l : List V) : ∀ v ∈ l.map fitV, v.ok := fun v hv => by
  obtain ⟨u, _, rfl⟩ := List.mem_map.1 hv
  exact fitV_ok u
theorem ok_sm {l : List V} (h : ∀ v ∈ l, v.ok) : ∀ v ∈ l, v.sm := fun v hv => (h v hv).sm

set_option maxHeartbeats 2000000 in
theorem few_walk (a b c : V) (w : World) :
    Calls Try.prog 5 #[.agg #[.int .i64 a.x, .int .i64 a.y, .int .i64 a.z, .int .i64 a.w, .int .i64 a.a, .int .i64 a.b, .int .i64 a.c, .int .i64 a.d, .int .i64 b.x, .int .i64 b.y, .int .i64 b.z, .int .i64 b.w, .int .i64 b.a, .int .i64 b.b, .int .i64 b.c, .int .i64 b.d, .int .i64 c.x, .int .i64 c.y, .int .i64 c.z, .int .i64 c.w, .int .i64 c.a, .int .i64 c.b, .int .i64 c.c, .int .i64 c.d]] w fun e w' => e = .returned (.bool true) ∧ Below w.heap.size w w' := by
  generalize hW : w.alloc (.cells #[.int .i64 a.x, .int .i64 a.y, .int .i64 a.z, .int .i64 a.w, .int .i64 a.a, .int .i64 a.b, .int .i64 a.c, .int .i64 a.d, .int .i64 b.x, .int .i64 b.y, .int .i64 b.z, .int .i64 b.w, .int .i64 b.a, .int .i64 b.b, .int .i64 b.c, .int .i64 b.d, .int .i64 c.x, .int .i64 c.y, .int .i64 c.z, .int .i64 c.w, .int .i64 c.a, .int .i64 c.b, .int .i64 c.c, .int .i64 c.d] 32) = W
  have HV := Lib.hid (show Vs W (w.heap.size + 1) (some ⟨w.heap.size, 0, none⟩) [a, b, c] by rw [← hW]; exact three w a b c 32)
  have HBW := Lib.hid (show Below w.heap.size w W by rw [← hW]; exact (Below.refl _ _).alloc (Nat.le_refl _) _)
  have hzW : w.heap.size + 1 ≤ W.heap.size := by rw [← hW]; simp
  have HS := Lib.hid (shown_any W)
  go_enter Try.func5, Try.ntmps5
  go_wp2_with fail
  clear hW
  with_reducible refine (HS.out).mono ?_
  rintro e w1 ⟨rfl, hb⟩
  have H1 := Lib.hid (bstep HBW.out HBW.out.size hb)
  have V1 := Lib.hid (HV.out.below (hb.mono hzW))
  have hz1 : w.heap.size + 1 ≤ w1.heap.size := Nat.le_trans hzW hb.size
  have FT := Lib.hid (fit_l _ 3 _ _ w1 V1.out)
  clear hb
  rw [show ([a, b, c] : List V).take 8 = [a, b, c] from rfl] at FT
  have HL := Lib.hid (fit_ok [a, b, c])
  have hll : ([a, b, c].map fitV).length ≤ 3 := by simp
  generalize [a, b, c].map fitV = l at FT HL hll
  go_wp2_with fail
  refine (FT.out).mono ?_
  rintro e w2 ⟨v, rfl, ho, hb⟩
  have H2 := Lib.hid (bstep H1.out H1.out.size hb)
  obtain ⟨A, ca, rfl, -, -, hv⟩ := ho.vs
  have PO := Lib.hid (poly_any A ca l _ w2 hv (by omega) (ok_sm HL.out))
  clear hb ho hv
  obtain ⟨f1, f2, f3, f4⟩ := few_facts HL.out hll
  generalize polyV l = pl at *
  go_wp2_with fail
  with_reducible refine (PO.out).mono ?_
  rintro e w3 ⟨v, rfl, ho, hb⟩
  have H3 := Lib.hid (bstep H2.out H2.out.size hb)
  obtain ⟨A3, c3, rfl, -, -, hv⟩ := ho.vs
  have V3 := Lib.hid hv
  have HF := Lib.hid f4
  generalize hn : pl.length = n at f1 f2 f3 ⊢
  have HN := Lib.hid hn
  clear hb ho hv f4 hn
  have b1 : ((n : Int) == 1) = false := by simp; omega
  have b2 : ((n : Int) == 2) = false := by simp; omega
  go_wp2
  go_loopw [6] (fun i wr => ∃ k : Nat, k ≤ n ∧ i = .int .i64 k ∧ Below w3.heap.size w3 wr) (fun i _ => n - (intOf i).toNat)
  case atStart => exact ⟨0, by omega, rfl, Below.refl _ _⟩
  case round =>
    obtain ⟨k, hk, rfl, hbel⟩ := hrel
    have HBE := Lib.hid hbel
    clear hbel
    by_cases hlt : k < n
    · obtain ⟨b3, off, rfl, hbB, hcell⟩ := V3.out.open (k := k) (by rw [HN.out]; exact hlt)
      obtain ⟨u, hu, u8⟩ := hcell k (by rw [HN.out]; exact hlt)
      obtain ⟨hok, hfar⟩ := HF.out u (List.mem_of_getElem? hu)
      have U8 := Lib.hid u8
      have HFA := Lib.hid hfar
      have RR := Lib.hid (rright_any u)
      rw [rightB_ok hok] at RR
      have HSM := Lib.hid hok.sm
      obtain ⟨e0, e1, e2, e3, e4, e5, e6, e7⟩ := u8.below HBE.out hbB
      clear hcell u8 hu hok hfar
      go_wp2_with fail
      with_reducible refine (RR.out _).mono ?_
      rintro e w4 ⟨rfl, hb⟩
      have H4 := Lib.hid (bstep HBE.out HBE.out.size hb)
      clear hb e0 e1 e2 e3 e4 e5 e6 e7
      go_wp2
      go_loopw [7] (fun i wr => ∃ k : Nat, k ≤ 5 ∧ i = .int .i64 k ∧ Below w3.heap.size w3 wr) (fun i _ => 5 - (intOf i).toNat)
      case atStart => exact ⟨0, by omega, rfl, H4.out⟩
      case round =>
        rename_i wq _
        obtain ⟨q, hq, rfl, hbel⟩ := hrel
        have HBQ := Lib.hid hbel
        clear hbel
        by_cases hq5 : q < 5
        · have hd := HFA.out q hq5
          have DD := Lib.hid (rdist_any (q : Int) u HSM.out _ rfl)
          generalize dist (q : Int) u = d at DD hd
          obtain ⟨e0, e1, e2, e3, e4, e5, e6, e7⟩ := U8.out.below HBQ.out hbB
          go_wp2_with fail
          with_reducible refine (DD.out _).mono ?_
          rintro e w5 ⟨rfl, hb⟩
          have H5 := Lib.hid (bstep HBQ.out HBQ.out.size hb)
          clear hb e0 e1 e2 e3 e4 e5 e6 e7
          go_wp2
          go_roundw
          case rel => exact ⟨q + 1, by omega, by go_num, H5.out⟩
          case measure => simp [intOf]; omega
        · go_wp2
          go_roundw
          case rel => exact ⟨k + 1, by omega, by go_num, HBQ.out⟩
          case measure => simp [intOf]; omega
    · go_wp2
      go_ret
      exact ⟨rfl, bstep H3.out H3.out.size HBE.out⟩
end Go.Proofs.Ytfheipejbdfjbaa
