/-
  The contract of the reference's Run of what may not run.
-/
import Derived.Test.YtehkcnmjkgelkaaVBad
import Derived.Test.YtehkcnmjkgelkaaRTexel
namespace Go.Proofs.Ytehkcnmjkgelkaa
open Go.RowKit C
attribute [local go_sem ↓] Go.wp_at_zero Go.wp_at_succ

set_option maxRecDepth 100000 in
set_option maxHeartbeats 4000000 in
theorem rrun_bad (l : List In) (A : Option Addr) (c : Nat) (t : Tx) (B : Option Addr) (k : Nat) (r0 r1 r2 r3 r4 r5 r6 r7 : Int) (hok : ∀ x ∈ l, x.ok) (w : World) (he : Es EI w w.heap.size A l) (hc : ¬ chkT l t = 0) :
    Calls Try.prog 12 #[.slice A l.length c, .agg #[.int .i64 t.w, .int .i64 t.h, .slice B t.px.length k], .agg #[.int .i64 r0, .int .i64 r1, .int .i64 r2, .int .i64 r3, .int .i64 r4, .int .i64 r5, .int .i64 r6, .int .i64 r7]] w fun e w' => e = .returned (.tuple #[.agg (regC zero8), .int .i64 0, .int .i64 (chkT l t)]) ∧ Below w.heap.size w w' := by
  have HC := Lib.hid (fun w (h : Es EI w w.heap.size A l) => rcheck_any l A c hok w h)
  have HS := Lib.hid (fun (h : chk l = 0) w (e : Es EI w w.heap.size A l) => rsamples_any l A c (by have := chk_ok h; omega) w e)
  have HR := Lib.hid (rright_tex t B k)
  have HE := Lib.hid he
  have hb3 : Below w.heap.size w (((w.alloc (.cells #[.int .i64 t.w, .int .i64 t.h, .slice B t.px.length k] 25)).alloc (.cells #[.int .i64 r0, .int .i64 r1, .int .i64 r2, .int .i64 r3, .int .i64 r4, .int .i64 r5, .int .i64 r6, .int .i64 r7] 26)).alloc (.cells #[.int .i64 0, .int .i64 0, .int .i64 0, .int .i64 0, .int .i64 0, .int .i64 0, .int .i64 0, .int .i64 0] 26)) := ((new_below _ _).alloc (by simp) _).alloc (by simp; omega) _
  have HB3 := Lib.hid hb3
  have HE3 := Lib.hid (HE.out.up hb3)
  have HZ := Lib.hid (new_at3 w (.cells #[.int .i64 t.w, .int .i64 t.h, .slice B t.px.length k] 25) (.cells #[.int .i64 r0, .int .i64 r1, .int .i64 r2, .int .i64 r3, .int .i64 r4, .int .i64 r5, .int .i64 r6, .int .i64 r7] 26) (RB zero8))
  have HZ2 := Lib.hid (show (((w.alloc (.cells #[.int .i64 t.w, .int .i64 t.h, .slice B t.px.length k] 25)).alloc (.cells #[.int .i64 r0, .int .i64 r1, .int .i64 r2, .int .i64 r3, .int .i64 r4, .int .i64 r5, .int .i64 r6, .int .i64 r7] 26)).alloc (.cells #[.int .i64 0, .int .i64 0, .int .i64 0, .int .i64 0, .int .i64 0, .int .i64 0, .int .i64 0, .int .i64 0] 26)).heap[w.heap.size]? = some (txB t B k) from new_keep _ (new_at20 w _ _))
  clear hb3 he hok
  rcases chk_ways l with h | h
  · have hs : l.any tex = true ∧ t.right = false := by
      unfold chkT at hc
      rw [if_neg (by omega)] at hc
      by_cases e : l.any tex = true ∧ t.right = false
      · exact e
      · rw [if_neg e] at hc; exact absurd rfl hc
    have hE : chkT l t = 22 := by unfold chkT; rw [if_neg (by omega), if_pos hs]
    rw [hE]
    have HS2 := Lib.hid (HS.out h)
    rw [hs.1] at HS2
    rw [hs.2] at HR
    rw [h] at HC
    clear HS hs hE hc h
    generalize l.length = n at *
    go_enter Try.func12, Try.ntmps12
    go_wp2_with (first
      | (go_at_call 30; (with_reducible refine (HC.out _ HE3.out).mono ?_); rintro e w1 ⟨rfl, hb⟩; have HB1 := Lib.hid (bstep HB3.out HB3.out.size hb); have HE1 := Lib.hid (HE3.out.up hb); have HR1 := Lib.hid ((hb.block _ (by simp <;> omega)).trans HZ.out); have HT1 := Lib.hid ((hb.block _ (by simp <;> omega)).trans HZ2.out); clear hb)
      | (go_at_call 31; (with_reducible refine (HS2.out _ HE1.out).mono ?_); rintro e w2 ⟨rfl, hb⟩; have HB2 := Lib.hid (bstep HB1.out HB1.out.size hb); have HR2 := Lib.hid ((hb.block _ (RB_lt HR1.out)).trans HR1.out); have HT2 := Lib.hid ((hb.block _ (txB_lt HT1.out)).trans HT1.out); obtain ⟨d0, d1, d2⟩ := txB_cell HT2.out; clear hb)
      | (go_at_call 32; (with_reducible refine (HR.out _).mono ?_); rintro e w3 ⟨rfl, hb⟩; have HB4 := Lib.hid (bstep HB2.out HB2.out.size hb); have HR3 := Lib.hid ((hb.block _ (RB_lt HR2.out)).trans HR2.out); obtain ⟨c0, c1, c2, c3, c4, c5, c6, c7⟩ := RB_cells HR3.out; obtain ⟨f0, f1, f2, f3, f4, f5, f6, f7⟩ := RB_frees HR3.out; clear hb))
    have hR := RB_set8 0 0 0 0 0 0 0 0 HR3.out
    have hB := RB_put8 (l0 := 0) (l1 := 0) (l2 := 0) (l3 := 0) (l4 := 0) (l5 := 0) (l6 := 0) (l7 := 0) HB4.out (show w.heap.size ≤ w.heap.size + 1 + 1 by omega)
    clear c0 c1 c2 c3 c4 c5 c6 c7 f0 f1 f2 f3 f4 f5 f6 f7 d0 d1 d2 HC HE3 HB3 HZ HB1 HR1 HR2 HR3 HB4 HB2
    revert hR hB
    generalize ((((((((w3.setCell ⟨w.heap.size + 1 + 1, 0, none⟩ (.int .i64 0)).setCell ⟨w.heap.size + 1 + 1, 1, none⟩ (.int .i64 0)).setCell ⟨w.heap.size + 1 + 1, 2, none⟩ (.int .i64 0)).setCell ⟨w.heap.size + 1 + 1, 3, none⟩ (.int .i64 0)).setCell ⟨w.heap.size + 1 + 1, 4, none⟩ (.int .i64 0)).setCell ⟨w.heap.size + 1 + 1, 5, none⟩ (.int .i64 0)).setCell ⟨w.heap.size + 1 + 1, 6, none⟩ (.int .i64 0)).setCell ⟨w.heap.size + 1 + 1, 7, none⟩ (.int .i64 0)) = W
    intro hR hB
    have HB := Lib.hid hB
    obtain ⟨c0, c1, c2, c3, c4, c5, c6, c7⟩ := RB_cells hR
    clear hB hR
    refine bodyPost_ret (v := .tuple #[.agg (regC zero8), .int .i64 0, .int .i64 22]) (by simp [results, Try.results12, go_sem, *]; rfl) rfl ⟨rfl, HB.out⟩
  · have hE : chkT l t = 23 := by unfold chkT; rw [if_pos (by omega)]
    rw [hE]
    rw [h] at HC
    clear HS hE hc h HR HZ2
    generalize l.length = n at *
    go_enter Try.func12, Try.ntmps12
    go_wp2_with (go_at_call 30; (with_reducible refine (HC.out _ HE3.out).mono ?_); rintro e w1 ⟨rfl, hb⟩; have HB1 := Lib.hid (bstep HB3.out HB3.out.size hb); have HR1 := Lib.hid ((hb.block _ (by simp <;> omega)).trans HZ.out); obtain ⟨c0, c1, c2, c3, c4, c5, c6, c7⟩ := RB_cells HR1.out; obtain ⟨f0, f1, f2, f3, f4, f5, f6, f7⟩ := RB_frees HR1.out; clear hb)
    have hR := RB_set8 0 0 0 0 0 0 0 0 HR1.out
    have hB := RB_put8 (l0 := 0) (l1 := 0) (l2 := 0) (l3 := 0) (l4 := 0) (l5 := 0) (l6 := 0) (l7 := 0) HB1.out (show w.heap.size ≤ w.heap.size + 1 + 1 by omega)
    clear c0 c1 c2 c3 c4 c5 c6 c7 f0 f1 f2 f3 f4 f5 f6 f7 HC HE3 HB3 HZ HB1 HR1
    revert hR hB
    generalize ((((((((w1.setCell ⟨w.heap.size + 1 + 1, 0, none⟩ (.int .i64 0)).setCell ⟨w.heap.size + 1 + 1, 1, none⟩ (.int .i64 0)).setCell ⟨w.heap.size + 1 + 1, 2, none⟩ (.int .i64 0)).setCell ⟨w.heap.size + 1 + 1, 3, none⟩ (.int .i64 0)).setCell ⟨w.heap.size + 1 + 1, 4, none⟩ (.int .i64 0)).setCell ⟨w.heap.size + 1 + 1, 5, none⟩ (.int .i64 0)).setCell ⟨w.heap.size + 1 + 1, 6, none⟩ (.int .i64 0)).setCell ⟨w.heap.size + 1 + 1, 7, none⟩ (.int .i64 0)) = W
    intro hR hB
    have HB := Lib.hid hB
    obtain ⟨c0, c1, c2, c3, c4, c5, c6, c7⟩ := RB_cells hR
    clear hB hR
    refine bodyPost_ret (v := .tuple #[.agg (regC zero8), .int .i64 0, .int .i64 23]) (by simp [results, Try.results12, go_sem, *]; rfl) rfl ⟨rfl, HB.out⟩
end Go.Proofs.Ytehkcnmjkgelkaa
