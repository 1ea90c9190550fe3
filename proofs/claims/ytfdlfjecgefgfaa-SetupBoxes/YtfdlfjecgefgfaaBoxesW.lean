/-
  SetupBoxes' walk.
-/
import Derived.Test.YtfdlfjecgefgfaaBoxP
namespace Go.Proofs.Ytfdlfjecgefgfaa
open Go.RowKit
attribute [local go_sem ↓] Go.wp_at_zero Go.wp_at_succ

set_option maxRecDepth 100000 in
set_option maxHeartbeats 2000000 in
theorem boxes_walk (a b c : P) (i j : Int) (hi0 : 0 ≤ i ∧ i ≤ 255) (hj0 : 0 ≤ j ∧ j ≤ 255) (w : World) :
    Calls Try.prog 4 #[.agg #[.int .i64 a.x, .int .i64 a.y, .int .i64 a.z, .int .i64 a.a, .int .i64 a.b, .int .i64 a.c, .int .i64 a.d, .int .i64 b.x, .int .i64 b.y, .int .i64 b.z, .int .i64 b.a, .int .i64 b.b, .int .i64 b.c, .int .i64 b.d, .int .i64 c.x, .int .i64 c.y, .int .i64 c.z, .int .i64 c.a, .int .i64 c.b, .int .i64 c.c, .int .i64 c.d], .agg #[.int .u8 i, .int .u8 j]] w fun e w' => e = .returned (.bool true) ∧ Below w.heap.size w w' := by
  have HSh := Lib.hid shown_any
  have HT := three_any a b c
  have oa := (smallP_ok a).sm
  have ob := (smallP_ok b).sm
  have oc := (smallP_ok c).sm
  generalize smallP a = p at *
  generalize smallP b = q at *
  generalize smallP c = r at *
  replace HT := Lib.hid HT
  obtain ⟨m, hm⟩ : ∃ m, 1 + i % 16 = m := ⟨_, rfl⟩
  obtain ⟨k, hk⟩ : ∃ k, 1 + j % 16 = k := ⟨_, rfl⟩
  have m0 : 1 ≤ m ∧ m ≤ 16 := by omega
  have k0 : 1 ≤ k ∧ k ≤ 16 := by omega
  have EM := Lib.hid hm
  have EK := Lib.hid hk
  have HX := Lib.hid (box_any m k p q r oa ob oc)
  have HM := Lib.hid (fun x y hx hy => rmask_any p q r x y oa ob oc hx hy)
  have HB := Lib.hid (fun x y => @mask_box p q r x y m k)
  have b0 : 0 ≤ lo p.x q.x r.x := by unfold lo; omega
  have b1 : 0 ≤ lo p.y q.y r.y := by unfold lo; omega
  have b2 : hi m p.x q.x r.x ≤ m := by unfold hi; omega
  have b3 : hi k p.y q.y r.y ≤ k := by unfold hi; omega
  generalize lo p.x q.x r.x = x0 at *
  generalize lo p.y q.y r.y = y0 at *
  generalize hi m p.x q.x r.x = x1 at *
  generalize hi k p.y q.y r.y = y1 at *
  clear oa ob oc hm hk
  go_enter Try.func4, Try.ntmps4
  go_wp2_with fail
  with_reducible refine (HSh.out _).mono ?_
  rintro e w1 ⟨rfl, hb⟩
  have T1 := Lib.hid (show w1.heap[w.heap.size]? = some (tB a b c) from tB_grow (new_two _ _).1 hb)
  have S0 : w1.cell? ⟨w.heap.size + 1, 0, none⟩ = some (.int .u8 i) := (hb.cell (p := ⟨w.heap.size + 1, 0, none⟩) (by simp)).trans (by simp [go_sem])
  have S1 : w1.cell? ⟨w.heap.size + 1, 1, none⟩ = some (.int .u8 j) := (hb.cell (p := ⟨w.heap.size + 1, 1, none⟩) (by simp)).trans (by simp [go_sem])
  have K1 := Lib.hid (bstep (((Below.refl w.heap.size w).alloc (Nat.le_refl _) _).alloc (by simp) _) (by simp; omega) hb)
  clear hb
  go_wp2_with (refine wp_loadT (a := a) (b := b) (c := c) (.tmp 2) rfl rfl rfl T1.out ?_)
  with_reducible refine (HT.out _).mono ?_
  rintro e w2 ⟨rfl, hb⟩
  have K2 := Lib.hid (bstep K1.out K1.out.size hb)
  have z2 := K2.out.size
  clear hb S0 S1 T1 K1
  rw [EM.out, EK.out]
  go_wp2_with (first | (refine wp_newT (a := p) (b := q) (c := r) _ rfl rfl rfl rfl rfl rfl rfl rfl ?_) | (refine wp_loadT (a := p) (b := q) (c := r) (.tmp 8) rfl rfl rfl (new_at rfl) ?_))
  with_reducible refine (HX.out _).mono ?_
  rintro e w3 ⟨rfl, hb⟩
  have K3 := Lib.hid (bstep (K2.out.alloc z2 _) (by simp; omega) hb)
  have T3 := Lib.hid (show w3.heap[w2.heap.size]? = some (tB p q r) from tB_grow (new_at rfl) hb)
  clear hb
  go_wp2
  go_loopw [13] (fun y wr => ∃ u : Nat, (u : Int) ≤ k ∧ y = .int .i64 u ∧ wr.heap[w2.heap.size]? = some (tB p q r) ∧ Below w.heap.size w wr) (fun y _ => (k - intOf y).toNat)
  case atStart => exact ⟨0, by omega, rfl, T3.out, K3.out⟩
  case round =>
    obtain ⟨u, hu, rfl, hT, hB⟩ := hrel
    have HT4 := Lib.hid hT
    have HB4 := Lib.hid hB
    clear hT hB T3 K3
    by_cases hlt : (u : Int) < k
    · have hki : decide ((u : Int) < k) = true := by simpa using hlt
      go_wp2
      rename World => w4
      go_loopw [14] (fun x wr => ∃ v : Nat, (v : Int) ≤ m ∧ x = .int .i64 v ∧ wr.heap[w2.heap.size]? = some (tB p q r) ∧ Below w.heap.size w wr) (fun x _ => (m - intOf x).toNat)
      case atStart => exact ⟨0, by omega, rfl, HT4.out, HB4.out⟩
      case round =>
        obtain ⟨v, hv, rfl, hT, hB⟩ := hrel
        have HT5 := Lib.hid hT
        have HB5 := Lib.hid hB
        clear hT hB
        by_cases hvt : (v : Int) < m
        · have HMa := Lib.hid (HM.out (v : Int) (u : Int) (by omega) (by omega))
          have hbx : mask p q r (v : Int) (u : Int) = 0 ∨ (¬ mask p q r (v : Int) (u : Int) = 0 ∧ x0 ≤ (v : Int) ∧ (v : Int) < x1 ∧ y0 ≤ (u : Int) ∧ (u : Int) < y1) := by
            by_cases h : mask p q r (v : Int) (u : Int) = 0
            · exact .inl h
            · exact .inr ⟨h, HB.out _ _ h (by omega) hvt (by omega) hlt⟩
          generalize mask p q r (v : Int) (u : Int) = M at *
          have HBx := Lib.hid hbx
          clear hbx
          go_wp2_with (refine wp_loadT (a := p) (b := q) (c := r) (.tmp 8) rfl rfl rfl HT5.out ?_)
          with_reducible refine (HMa.out _).mono ?_
          rintro e w5 ⟨rfl, hb⟩
          have K5 := Lib.hid (bstep HB5.out HB5.out.size hb)
          have T5 := Lib.hid (tB_grow HT5.out hb)
          clear hb HT5 HB5
          rcases HBx.out with rfl | ⟨h0, h1, h2, h3, h4⟩
          · go_wp2
            go_roundw
            case rel => exact ⟨v + 1, by omega, by go_num, T5.out, K5.out⟩
            case measure => simp [intOf]; omega
          · go_wp2
            go_roundw
            case rel => exact ⟨v + 1, by omega, by go_num, T5.out, K5.out⟩
            case measure => simp [intOf]; omega
        · go_wp2
          go_roundw
          case rel => exact ⟨u + 1, by omega, by go_num, HT5.out, HB5.out⟩
          case measure => simp [intOf]; omega
    · go_wp2
      go_ret
      exact ⟨rfl, HB4.out⟩
end Go.Proofs.Ytfdlfjecgefgfaa
