/-
  The contract of vm.Run of what may not run; blocks of registers, cell by cell.
-/
import Derived.Test.YtehkcnmjkgelkaaVCheck
import Derived.Test.YtehkcnmjkgelkaaSmooth
namespace Go.Proofs.Ytehkcnmjkgelkaa
open Go.RowKit C
attribute [local go_sem ↓] Go.wp_at_zero Go.wp_at_succ

theorem onlyw_refl (g : Nat) (w : World) : Onlyw g w w := (Only.refl g w).w
/-- The worlds that differ from X in block g, and in what is new. -/
def OnlyG (g : Nat) (X : World) : Type := { w' : World // Onlyw g X w' }
def OnlyG.w {g : Nat} {X : World} (x : OnlyG g X) : World := x.1
theorem OnlyG.cell {g : Nat} {X : World} (x : OnlyG g X) {k o : Nat} {v : Value} (h : X.cell? ⟨k, o, none⟩ = some v) (hk : k ≠ g) : x.w.cell? ⟨k, o, none⟩ = some v := by
  have hl := World.block_lt_of_cell? _ _ h
  have e := x.2.blk k hk hl
  unfold World.cell? at h ⊢
  rw [show x.w.heap[k]? = X.heap[k]? from e]
  exact h

theorem new_at3 (w : World) (a b c : Obj) : (((w.alloc a).alloc b).alloc c).heap[w.heap.size + 1 + 1]? = some c := by
  have h := heap_alloc_new ((w.alloc a).alloc b) c
  rw [show ((w.alloc a).alloc b).heap.size = w.heap.size + 1 + 1 by simp] at h
  exact h
theorem RB_cells {w : World} {g : Nat} {l0 l1 l2 l3 l4 l5 l6 l7 : Int} (h : w.heap[g]? = some (RB [l0, l1, l2, l3, l4, l5, l6, l7])) :
    w.cell? ⟨g, 0, none⟩ = some (.int .i64 l0) ∧ w.cell? ⟨g, 1, none⟩ = some (.int .i64 l1) ∧ w.cell? ⟨g, 2, none⟩ = some (.int .i64 l2) ∧ w.cell? ⟨g, 3, none⟩ = some (.int .i64 l3) ∧ w.cell? ⟨g, 4, none⟩ = some (.int .i64 l4) ∧ w.cell? ⟨g, 5, none⟩ = some (.int .i64 l5) ∧ w.cell? ⟨g, 6, none⟩ = some (.int .i64 l6) ∧ w.cell? ⟨g, 7, none⟩ = some (.int .i64 l7) :=
  ⟨RB_cell (k := 0) h (by simp), RB_cell (k := 1) h (by simp), RB_cell (k := 2) h (by simp), RB_cell (k := 3) h (by simp), RB_cell (k := 4) h (by simp), RB_cell (k := 5) h (by simp), RB_cell (k := 6) h (by simp), RB_cell (k := 7) h (by simp)⟩
theorem RB_frees {w : World} {g : Nat} {L : List Int} (h : w.heap[g]? = some (RB L)) :
    w.frozen? ⟨g, 0, none⟩ = false ∧ w.frozen? ⟨g, 1, none⟩ = false ∧ w.frozen? ⟨g, 2, none⟩ = false ∧ w.frozen? ⟨g, 3, none⟩ = false ∧ w.frozen? ⟨g, 4, none⟩ = false ∧ w.frozen? ⟨g, 5, none⟩ = false ∧ w.frozen? ⟨g, 6, none⟩ = false ∧ w.frozen? ⟨g, 7, none⟩ = false :=
  ⟨RB_free h 0, RB_free h 1, RB_free h 2, RB_free h 3, RB_free h 4, RB_free h 5, RB_free h 6, RB_free h 7⟩
theorem RB_put8 {w w0 : World} {g base : Nat} {l0 l1 l2 l3 l4 l5 l6 l7 : Int} (hb : Below base w0 w) (hg : base ≤ g) :
    Below base w0 ((((((((w.setCell ⟨g, 0, none⟩ (.int .i64 l0)).setCell ⟨g, 1, none⟩ (.int .i64 l1)).setCell ⟨g, 2, none⟩ (.int .i64 l2)).setCell ⟨g, 3, none⟩ (.int .i64 l3)).setCell ⟨g, 4, none⟩ (.int .i64 l4)).setCell ⟨g, 5, none⟩ (.int .i64 l5)).setCell ⟨g, 6, none⟩ (.int .i64 l6)).setCell ⟨g, 7, none⟩ (.int .i64 l7)) :=
  (((((((hb.setCell (p := ⟨g, 0, none⟩) hg _).setCell (p := ⟨g, 1, none⟩) hg _).setCell (p := ⟨g, 2, none⟩) hg _).setCell (p := ⟨g, 3, none⟩) hg _).setCell (p := ⟨g, 4, none⟩) hg _).setCell (p := ⟨g, 5, none⟩) hg _).setCell (p := ⟨g, 6, none⟩) hg _).setCell (p := ⟨g, 7, none⟩) hg _
theorem RB_set8 {w : World} {g : Nat} {m0 m1 m2 m3 m4 m5 m6 m7 : Int} (l0 l1 l2 l3 l4 l5 l6 l7 : Int) (h : w.heap[g]? = some (RB [m0, m1, m2, m3, m4, m5, m6, m7])) :
    ((((((((w.setCell ⟨g, 0, none⟩ (.int .i64 l0)).setCell ⟨g, 1, none⟩ (.int .i64 l1)).setCell ⟨g, 2, none⟩ (.int .i64 l2)).setCell ⟨g, 3, none⟩ (.int .i64 l3)).setCell ⟨g, 4, none⟩ (.int .i64 l4)).setCell ⟨g, 5, none⟩ (.int .i64 l5)).setCell ⟨g, 6, none⟩ (.int .i64 l6)).setCell ⟨g, 7, none⟩ (.int .i64 l7)).heap[g]? = some (RB [l0, l1, l2, l3, l4, l5, l6, l7]) :=
  RB_set l7 (RB_set l6 (RB_set l5 (RB_set l4 (RB_set l3 (RB_set l2 (RB_set l1 (RB_set l0 h)))))))
set_option maxRecDepth 100000 in
set_option maxHeartbeats 4000000 in
theorem run_bad (l : List In) (A : Option Addr) (c : Nat) (t : Tx) (B : Option Addr) (k : Nat) (r0 r1 r2 r3 r4 r5 r6 r7 : Int) (hok : ∀ x ∈ l, x.ok) (w : World) (he : Es EI w w.heap.size A l) (hc : ¬ chkT l t = 0) :
    Calls Try.prog 11 #[.slice A l.length c, .agg #[.int .i64 t.w, .int .i64 t.h, .slice B t.px.length k], .agg #[.int .i64 r0, .int .i64 r1, .int .i64 r2, .int .i64 r3, .int .i64 r4, .int .i64 r5, .int .i64 r6, .int .i64 r7]] w fun e w' => e = .returned (.tuple #[.agg (regC zero8), .int .i64 0, .int .i64 (chkT l t)]) ∧ Below w.heap.size w w' := by
  have HC := Lib.hid (fun w (h : Es EI w w.heap.size A l) => vcheck_any l A c t B k hok w h)
  have HE := Lib.hid he
  have hc' : (chkT l t == 0) = false := by simpa using hc
  clear he hok
  generalize chkT l t = E at *
  have hb3 : Below w.heap.size w (((w.alloc (.cells #[.int .i64 t.w, .int .i64 t.h, .slice B t.px.length k] 25)).alloc (.cells #[.int .i64 r0, .int .i64 r1, .int .i64 r2, .int .i64 r3, .int .i64 r4, .int .i64 r5, .int .i64 r6, .int .i64 r7] 26)).alloc (.cells #[.int .i64 0, .int .i64 0, .int .i64 0, .int .i64 0, .int .i64 0, .int .i64 0, .int .i64 0, .int .i64 0] 26)) := ((new_below _ _).alloc (by simp) _).alloc (by simp; omega) _
  go_enter Try.func11, Try.ntmps11
  have HB3 := Lib.hid hb3
  have HE3 := Lib.hid (HE.out.up hb3)
  clear hb3
  have HZ := Lib.hid (new_at3 w (.cells #[.int .i64 t.w, .int .i64 t.h, .slice B t.px.length k] 25) (.cells #[.int .i64 r0, .int .i64 r1, .int .i64 r2, .int .i64 r3, .int .i64 r4, .int .i64 r5, .int .i64 r6, .int .i64 r7] 26) (RB zero8))
  go_wp2_with (go_at_call 22; (with_reducible refine (HC.out _ HE3.out).mono ?_); rintro e w1 ⟨rfl, hb⟩; have HB1 := Lib.hid (bstep HB3.out HB3.out.size hb); have HR := Lib.hid ((hb.block _ (by simp)).trans HZ.out); obtain ⟨c0, c1, c2, c3, c4, c5, c6, c7⟩ := RB_cells HR.out; obtain ⟨f0, f1, f2, f3, f4, f5, f6, f7⟩ := RB_frees HR.out; clear hb)
  have hR := RB_set8 0 0 0 0 0 0 0 0 HR.out
  have hB := RB_put8 (l0 := 0) (l1 := 0) (l2 := 0) (l3 := 0) (l4 := 0) (l5 := 0) (l6 := 0) (l7 := 0) HB1.out (show w.heap.size ≤ w.heap.size + 1 + 1 by omega)
  clear c0 c1 c2 c3 c4 c5 c6 c7 f0 f1 f2 f3 f4 f5 f6 f7 HC HE3 HB3 HZ HB1 HR hc'
  revert hR hB
  generalize ((((((((w1.setCell ⟨w.heap.size + 1 + 1, 0, none⟩ (.int .i64 0)).setCell ⟨w.heap.size + 1 + 1, 1, none⟩ (.int .i64 0)).setCell ⟨w.heap.size + 1 + 1, 2, none⟩ (.int .i64 0)).setCell ⟨w.heap.size + 1 + 1, 3, none⟩ (.int .i64 0)).setCell ⟨w.heap.size + 1 + 1, 4, none⟩ (.int .i64 0)).setCell ⟨w.heap.size + 1 + 1, 5, none⟩ (.int .i64 0)).setCell ⟨w.heap.size + 1 + 1, 6, none⟩ (.int .i64 0)).setCell ⟨w.heap.size + 1 + 1, 7, none⟩ (.int .i64 0)) = W
  intro hR hB
  have HB := Lib.hid hB
  obtain ⟨c0, c1, c2, c3, c4, c5, c6, c7⟩ := RB_cells hR
  clear hB hR
  refine bodyPost_ret (v := .tuple #[.agg (regC zero8), .int .i64 0, .int .i64 E]) (by simp [results, Try.results11, go_sem, *]; rfl) rfl ⟨rfl, HB.out⟩
end Go.Proofs.Ytehkcnmjkgelkaa
