/-
  ClipAll's walk.
-/
import Derived.Test.YtfheipejbdfjbaaShown
import Derived.Test.YtfheipejbdfjbaaRBy
import Derived.Test.YtfheipejbdfjbaaSame
namespace Go.Proofs.Ytfheipejbdfjbaa
open Go.RowKit
attribute [local go_sem ↓] Go.wp_at_zero Go.wp_at_succ

theorem small_sm (l : List V) : ∀ v ∈ l.map smallV, v.sm := fun v hv => by
  obtain ⟨u, _, rfl⟩ := List.mem_map.1 hv
  exact smallV_sm u

set_option maxHeartbeats 2000000 in
theorem all_walk (A : Option Addr) (c : Nat) (xs : List V) (p : Int) (w : World) (hxs : Vs w w.heap.size A xs) :
    Calls Try.prog 3 #[.slice A xs.length c, .int .i64 p] w fun e w' => e = .returned (.bool true) ∧ Below w.heap.size w w' := by
  have HX := Lib.hid hxs
  have HS := Lib.hid (shown_any w)
  clear hxs
  generalize hn : xs.length = n
  have HN := Lib.hid hn
  clear hn
  go_enter Try.func3, Try.ntmps3
  go_wp2_with fail
  with_reducible refine (HS.out).mono ?_
  rintro e w1 ⟨rfl, hb⟩
  have H1 := Lib.hid hb
  have FT := Lib.hid (fun w' (h : Below w.heap.size w w') => HN.out ▸ few_l A c xs _ w' (HX.out.below h))
  clear hb
  have HL := Lib.hid (small_sm (xs.take 8))
  have hll : ((xs.take 8).map smallV).length ≤ 8 := by simp; omega
  generalize (xs.take 8).map smallV = L at FT HL hll
  go_wp2_with fail
  with_reducible refine (FT.out _ H1.out).mono ?_
  rintro e w2 ⟨v, rfl, ho, hb⟩
  have H2 := Lib.hid (bstep H1.out H1.out.size hb)
  obtain ⟨A2, c2, rfl, -, -, hv⟩ := ho.vs
  have V2 := Lib.hid hv
  clear hb ho hv
  go_wp2_with fail
  with_reducible refine (FT.out _ H2.out).mono ?_
  rintro e w3 ⟨v, rfl, ho, hb⟩
  have H3 := Lib.hid (bstep H2.out H2.out.size hb)
  have V3 := Lib.hid (V2.out.grow hb)
  have hz3 := hb.size
  obtain ⟨A3, c3, rfl, -, -, hv⟩ := ho.vs
  have W3 := Lib.hid hv
  clear hb ho hv V2
  have BY := Lib.hid (by_any p A2 c2 L _ w3 V3.out hz3 (by omega) HL.out)
  have RB := Lib.hid (fun w' (h : Below w3.heap.size w3 w') => rby_any p A2 c2 L _ w' (V3.out.below (h.mono hz3)) (Nat.le_trans hz3 h.size) (by omega) HL.out)
  have PO := Lib.hid (fun w' (h : Below w3.heap.size w3 w') => poly_any A2 c2 L _ w' (V3.out.below (h.mono hz3)) (by omega) HL.out)
  have RP := Lib.hid (fun w' (h : Below w3.heap.size w3 w') => rpoly_any A2 c2 L _ w' (V3.out.below (h.mono hz3)) (by omega) HL.out)
  have hbl := byV_len2 p L
  have hpl : (polyV L).length ≤ 100000 := by
    have h5 := polyK_len L 5
    have h6 : 2 ^ 5 * L.length ≤ 2 ^ 5 * 8 := Nat.mul_le_mul_left _ hll
    unfold polyV
    split
    · simp
    · omega
  generalize byV p L = bL at BY RB hbl
  generalize polyV L = pL at PO RP hpl
  have HSV := Lib.hid (fun w' (h : Below w3.heap.size w3 w') => same_any A2 A3 c2 c3 L L _ _ w' (V3.out.below (h.mono hz3)) (W3.out.below h) (by omega) true (by simp))
  generalize L.length = ln at *
  go_wp2_with fail
  with_reducible refine (BY.out).mono ?_
  rintro e w4 ⟨v, rfl, ho, hb⟩
  have B4 := Lib.hid hb
  obtain ⟨A4, c4, rfl, -, -, hv⟩ := ho.vs
  have V4 := Lib.hid hv
  clear hb ho hv
  go_wp2_with fail
  with_reducible refine (RB.out _ B4.out).mono ?_
  rintro e w5 ⟨v, rfl, ho, hb⟩
  have B5 := Lib.hid (bstep B4.out B4.out.size hb)
  obtain ⟨A5, c5, rfl, -, -, hv⟩ := ho.vs
  have SM := Lib.hid (same_any A4 A5 c4 c5 bL bL _ _ w5 (V4.out.below hb) hv (by omega) true (by simp))
  clear hb ho hv V4
  generalize bL.length = nb at *
  go_wp2_with fail
  with_reducible refine (SM.out).mono ?_
  rintro e w6 ⟨rfl, hb⟩
  have B6 := Lib.hid (bstep B5.out B5.out.size hb)
  clear hb
  go_wp2_with fail
  with_reducible refine (PO.out _ B6.out).mono ?_
  rintro e w7 ⟨v, rfl, ho, hb⟩
  have B7 := Lib.hid (bstep B6.out B6.out.size hb)
  obtain ⟨A7, c7, rfl, -, -, hv⟩ := ho.vs
  have V7 := Lib.hid hv
  clear hb ho hv
  go_wp2_with fail
  with_reducible refine (RP.out _ B7.out).mono ?_
  rintro e w8 ⟨v, rfl, ho, hb⟩
  have B8 := Lib.hid (bstep B7.out B7.out.size hb)
  obtain ⟨A8, c8, rfl, -, -, hv⟩ := ho.vs
  have SP := Lib.hid (same_any A7 A8 c7 c8 pL pL _ _ w8 (V7.out.below hb) hv (by omega) true (by simp))
  clear hb ho hv V7
  generalize pL.length = np at *
  go_wp2_with fail
  with_reducible refine (SP.out).mono ?_
  rintro e w9 ⟨rfl, hb⟩
  have B9 := Lib.hid (bstep B8.out B8.out.size hb)
  clear hb
  go_wp2_with fail
  with_reducible refine (HSV.out _ B9.out).mono ?_
  rintro e w10 ⟨rfl, hb⟩
  have H10 := Lib.hid (bstep H3.out H3.out.size (bstep B9.out B9.out.size hb))
  clear hb
  go_wp2
  go_ret
  exact ⟨rfl, H10.out⟩
end Go.Proofs.Ytfheipejbdfjbaa
