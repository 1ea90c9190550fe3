/-
  The walk of glazierlaw02.ColourFolds.
-/
import Derived.Test.YtpnjhmmodkhmfaaFew
import Derived.StillTailTactics
namespace Go.Proofs.Ytpnjhmmodkhmfaa
open Go.RowKit
attribute [local go_sem ↓] Go.wp_at_zero Go.wp_at_succ

set_option maxHeartbeats 2000000 in
theorem colourFolds_some (c : Col) (L : List Col) (b off n cap : Nat) (m : Int) (k : Nat) (w : World) (hc : c.ok) (hl : ∀ x ∈ L, x.ok) (h40 : L.length ≤ 40) (hLc : L.length ≤ cap) (m0 : 0 ≤ m) (m1 : m ≤ 255)
    (hk : m % ((L.length : Int) + 1) = (k : Int)) (hkL : k ≤ L.length) (hkc : k ≠ cap) (hr : ColsAt w b off L)
    (F : ∀ W, Calls Try.prog 10 #[.slice (some ⟨b, off, none⟩) n cap] W fun e w' => e = .returned (.slice (some ⟨b, off, none⟩) L.length cap) ∧ W = w') :
    Calls Try.prog 7 #[.agg #[.int .u8 c.r, .int .u8 c.g, .int .u8 c.b, .int .u8 c.a], .slice (some ⟨b, off, none⟩) n cap, .int .u8 m] w fun e w' => e = .returned (.bool true) ∧ Below w.heap.size w w' := by
  have HF := Lib.hid F
  have HR := Lib.hid hr
  have HL := Lib.hid hl
  clear F hr hl
  have g1 : (0 : Int) ≤ (k : Int) := by omega
  have g2 : (k : Int) ≤ (cap : Int) := by omega
  have g3 : (k : Int) ≤ (L.length : Int) := by omega
  have g4 : (L.length : Int) ≤ (cap : Int) := by omega
  have g5 : ((L.length : Int) + 1 == 0) = false := by simp; omega
  go_enter Try.func7, Try.ntmps7
  go_wp2_with fail
  refine (shown_any _).mono ?_
  rintro e w1 ⟨rfl, hb1⟩
  have hblk1 : w1.heap[w.heap.size]? = some (colB c) := by rw [hb1.block _ (by simp)]; exact heap_alloc_new _ _
  have HB1 := Lib.hid (((Below.refl w.heap.size w).alloc (Nat.le_refl _) _).trans (hb1.mono (by simp)))
  clear hb1
  obtain ⟨e0, e1, e2, e3⟩ := colB_cell hblk1
  have HBL := Lib.hid hblk1
  clear hblk1
  go_wp2_with (go_at_call 10; refine (HF.out _).mono ?_; rintro e w' ⟨rfl, rfl⟩)
  rw [hk]
  have hz : w.heap.size < w1.heap.size := World.block_lt_of_cell? _ _ e0
  have G0 : ∀ x : Grow w1, x.w.cell? ⟨w.heap.size, 0, none⟩ = some (.int .u8 c.r) := fun x => x.cell e0
  have G1 : ∀ x : Grow w1, x.w.cell? ⟨w.heap.size, 1, none⟩ = some (.int .u8 c.g) := fun x => x.cell e1
  have G2 : ∀ x : Grow w1, x.w.cell? ⟨w.heap.size, 2, none⟩ = some (.int .u8 c.b) := fun x => x.cell e2
  have G3 : ∀ x : Grow w1, x.w.cell? ⟨w.heap.size, 3, none⟩ = some (.int .u8 c.a) := fun x => x.cell e3
  have ne := Grow.ne w1
  have HK := Lib.hid hk
  clear hk
  have hcol : ∀ x : Grow w1, ColsAt x.w b off L := fun x => (HR.out.grow HB1.out).grow x.below
  have hokt : (foldC c (L.take k)).ok := foldC_ok hc (fun y hy => HL.out y (List.mem_of_mem_take hy))
  have D1 : ∀ x : Grow w1, Calls Try.prog 17 #[.agg #[.int .u8 c.r, .int .u8 c.g, .int .u8 c.b, .int .u8 c.a], .slice (some ⟨b, off, none⟩) k cap] x.w fun e w' => e = .returned (.agg #[.int .u8 (foldC c (L.take k)).r, .int .u8 (foldC c (L.take k)).g, .int .u8 (foldC c (L.take k)).b, .int .u8 (foldC c (L.take k)).a]) ∧ Below x.w.heap.size x.w w' := fun x => by
    have h := fold_row c (L.take k) b off cap x.w hc (fun y hy => HL.out y (List.mem_of_mem_take hy)) (by simp; omega) (ColsAt.take (hcol x) k)
    rwa [show (L.take k).length = k from by simp; omega] at h
  have D2 : ∀ x : Grow w1, Calls Try.prog 17 #[.agg #[.int .u8 (foldC c (L.take k)).r, .int .u8 (foldC c (L.take k)).g, .int .u8 (foldC c (L.take k)).b, .int .u8 (foldC c (L.take k)).a], .slice (some ⟨b, off + k * 4, none⟩) (L.length - k) (cap - k)] x.w fun e w' => e = .returned (.agg #[.int .u8 (foldC c L).r, .int .u8 (foldC c L).g, .int .u8 (foldC c L).b, .int .u8 (foldC c L).a]) ∧ Below x.w.heap.size x.w w' := fun x => by
    have h := fold_row (foldC c (L.take k)) (L.drop k) b (off + k * 4) (cap - k) x.w hokt (fun y hy => HL.out y (List.mem_of_mem_drop hy)) (by simp; omega) (ColsAt.drop (hcol x) k)
    rwa [foldC_two, List.length_drop] at h
  have D3 : ∀ x : Grow w1, Calls Try.prog 17 #[.agg #[.int .u8 c.r, .int .u8 c.g, .int .u8 c.b, .int .u8 c.a], .slice (some ⟨b, off, none⟩) L.length cap] x.w fun e w' => e = .returned (.agg #[.int .u8 (foldC c L).r, .int .u8 (foldC c L).g, .int .u8 (foldC c L).b, .int .u8 (foldC c L).a]) ∧ Below x.w.heap.size x.w w' := fun x => fold_row c L b off cap x.w hc HL.out (by omega) (hcol x)
  have HD1 := Lib.hid D1
  have HD2 := Lib.hid D2
  have HD3 := Lib.hid D3
  clear D1 D2 D3 hcol hokt
  refine wp_region_grow (by kernel_rfl) (by kernel_rfl) ?_
  repeat (go_big_quiet_step ((go_at_call 17; first | with_reducible exact Grow.calls (HD1.out _) | with_reducible exact Grow.calls (HD2.out _) | with_reducible exact Grow.calls (HD3.out _))))
  refine wpQuiet_nil ?_
  rintro _ ⟨x, rfl⟩
  obtain ⟨f0, f1, f2, f3⟩ := colB_cell ((x.below.block _ hz).trans HBL.out)
  have hb2 := bstep HB1.out HB1.out.size x.below
  have hblk2 : x.w.heap[w.heap.size]? = some (colB c) := (x.below.block _ hz).trans HBL.out
  have hz2 : w.heap.size < x.w.heap.size := World.block_lt_of_cell? _ _ f0
  clear G0 G1 G2 G3 e0 e1 e2 e3 ne HD1 HD2 HD3 HBL hz HB1
  generalize x.w = w2 at *
  have HB2 := Lib.hid hb2
  have HBL := Lib.hid hblk2
  clear hb2 hblk2
  go_wp2
  go_loopw [10] (fun i wr => ∃ j : Nat, j ≤ L.length ∧ i = .int .i64 j ∧ Below w.heap.size w wr ∧ wr.heap[w.heap.size]? = some (colB c) ∧ wr.heap[w2.heap.size]? = some (colB (foldC c (L.take j))))
    (fun i _ => L.length - (intOf i).toNat)
  case atStart => exact ⟨0, Nat.zero_le _, rfl, HB2.out.alloc HB2.out.size _, (Below.heap_alloc _ _ _ hz2).trans HBL.out, heap_alloc_new _ _⟩
  case round =>
    clear f0 f1 f2 f3
    obtain ⟨j, hj, rfl, hbel, hblk, hnow⟩ := hrel
    by_cases hlt : j < L.length
    · obtain ⟨e0, e1, e2, e3⟩ := (HR.out.grow hbel) j hlt
      obtain ⟨f0, f1, f2, f3⟩ := colB_cell hnow
      have hzr : w.heap.size < wr.heap.size := World.block_lt_of_cell? _ _ (colB_cell hblk).1
      have hz2r : w2.heap.size < wr.heap.size := World.block_lt_of_cell? _ _ f0
      have q1 : (0 : Int) ≤ (j : Int) := by omega
      have q2 : (j : Int) < (L.length : Int) := by omega
      have HT := Lib.hid (show L.take (j + 1) = L.take j ++ [L[j]] by rw [List.take_succ_eq_append_getElem hlt])
      have HBL1 := Lib.hid hblk
      have HBE := Lib.hid hbel
      have HN := Lib.hid hnow
      have HK := Lib.hid (foldC_ok hc (fun y hy => HL.out y (List.mem_of_mem_take (i := j) hy)))
      have HX := Lib.hid (HL.out _ (List.getElem_mem hlt))
      clear hblk hbel hnow
      go_wp2
      go_still_tail 5, (by kernel_rfl)
      change wpList _ _ _ _ _ wr.drew
      go_wp2_with fail
      refine (over_col L[j] (foldC c (L.take j)) _ HX.out HK.out).mono ?_
      rintro e w3 ⟨rfl, hb3⟩
      have hnow3 : w3.heap[w2.heap.size]? = some (colB (foldC c (L.take j))) := (hb3.block _ hz2r).trans HN.out
      have hblk3 : w3.heap[w.heap.size]? = some (colB c) := (hb3.block _ hzr).trans HBL1.out
      obtain ⟨i0, i1, i2, i3⟩ := colB_cell hnow3
      obtain ⟨j0, j1, j2, j3⟩ := colB_free hnow3
      have HB3 := Lib.hid (bstep HBE.out.drew HBE.out.size hb3)
      have HN3 := Lib.hid hnow3
      have HBL3 := Lib.hid hblk3
      clear hb3 hnow3 hblk3 e0 e1 e2 e3 f0 f1 f2 f3
      go_wp2
      go_roundw
      case rel =>
        refine ⟨j + 1, by omega, by go_num, (((HB3.out.setCell (by simp; omega) _).setCell (by simp; omega) _).setCell (by simp; omega) _).setCell (by simp; omega) _, ?_, ?_⟩
        · rw [heap_setCell_other _ _ _ _ (by simp; omega), heap_setCell_other _ _ _ _ (by simp; omega), heap_setCell_other _ _ _ _ (by simp; omega), heap_setCell_other _ _ _ _ (by simp; omega)]; exact HBL3.out
        · rw [HT.out, foldC_snoc]; exact colB_set _ HN3.out
      case measure => simp [intOf]; omega
    · have hts : L.take j = L := List.take_of_length_le (by omega)
      rw [hts] at hnow
      obtain ⟨f0, f1, f2, f3⟩ := colB_cell hnow
      obtain ⟨e0, e1, e2, e3⟩ := colB_cell hblk
      have HBE := Lib.hid hbel
      have D3 : ∀ x : Grow wr, Calls Try.prog 17 #[.agg #[.int .u8 c.r, .int .u8 c.g, .int .u8 c.b, .int .u8 c.a], .slice (some ⟨b, off, none⟩) L.length cap] x.w fun e w' => e = .returned (.agg #[.int .u8 (foldC c L).r, .int .u8 (foldC c L).g, .int .u8 (foldC c L).b, .int .u8 (foldC c L).a]) ∧ Below x.w.heap.size x.w w' := fun x => fold_row c L b off cap x.w hc HL.out (by omega) ((HR.out.grow HBE.out).grow x.below)
      have HD3 := Lib.hid D3
      clear hts hnow hblk hbel D3
      go_wp2
      have G0 : ∀ x : Grow wr, x.w.cell? ⟨w.heap.size, 0, none⟩ = some (.int .u8 c.r) := fun x => x.cell e0
      have G1 : ∀ x : Grow wr, x.w.cell? ⟨w.heap.size, 1, none⟩ = some (.int .u8 c.g) := fun x => x.cell e1
      have G2 : ∀ x : Grow wr, x.w.cell? ⟨w.heap.size, 2, none⟩ = some (.int .u8 c.b) := fun x => x.cell e2
      have G3 : ∀ x : Grow wr, x.w.cell? ⟨w.heap.size, 3, none⟩ = some (.int .u8 c.a) := fun x => x.cell e3
      have G4 : ∀ x : Grow wr, x.w.cell? ⟨w2.heap.size, 0, none⟩ = some (.int .u8 (foldC c L).r) := fun x => x.cell f0
      have G5 : ∀ x : Grow wr, x.w.cell? ⟨w2.heap.size, 1, none⟩ = some (.int .u8 (foldC c L).g) := fun x => x.cell f1
      have G6 : ∀ x : Grow wr, x.w.cell? ⟨w2.heap.size, 2, none⟩ = some (.int .u8 (foldC c L).b) := fun x => x.cell f2
      have G7 : ∀ x : Grow wr, x.w.cell? ⟨w2.heap.size, 3, none⟩ = some (.int .u8 (foldC c L).a) := fun x => x.cell f3
      have ne := Grow.ne wr
      refine wp_region_grow (by kernel_rfl) (by kernel_rfl) ?_
      repeat (go_big_quiet_step ((go_at_call 17; with_reducible exact Grow.calls (HD3.out _))))
      refine wpQuiet_nil ?_
      rintro _ ⟨x, rfl⟩
      go_wp2
      go_ret
      exact ⟨rfl, bstep HBE.out HBE.out.size x.below⟩
end Go.Proofs.Ytpnjhmmodkhmfaa
