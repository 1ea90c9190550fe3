/-
  The contract of vm's check.
-/
import Derived.Test.YtehkcnmjkgelkaaRValue
import Derived.Test.YtehkcnmjkgelkaaCSmp
namespace Go.Proofs.Ytehkcnmjkgelkaa
open Go.RowKit C
attribute [local go_sem ↓] Go.wp_at_zero Go.wp_at_succ

/-- What check tells. -/
def chkT (l : List In) (t : Tx) : Int := if ¬ chk l = 0 then 23 else if l.any tex = true ∧ t.right = false then 22 else 0
set_option maxRecDepth 100000 in
set_option maxHeartbeats 1000000 in
theorem vcheck_any (l : List In) (A : Option Addr) (c : Nat) (t : Tx) (B : Option Addr) (k : Nat) (hok : ∀ x ∈ l, x.ok) (w : World) (he : Es EI w w.heap.size A l) :
    Calls Try.prog 22 #[.slice A l.length c, .agg #[.int .i64 t.w, .int .i64 t.h, .slice B t.px.length k]] w fun e w' => e = .returned (.int .i64 (chkT l t)) ∧ Below w.heap.size w w' := by
  have HC := Lib.hid (fun w (h : Es EI w w.heap.size A l) => check_any l A c hok w h)
  have HS := Lib.hid (fun (h : chk l = 0) w (e : Es EI w w.heap.size A l) => samples_any l A c (by have := chk_ok h; omega) hok w e)
  have HR := Lib.hid (right_any t B k)
  have HE := Lib.hid he
  have HB := Lib.hid (fun o => new_below w o)
  clear he hok
  unfold chkT
  rcases chk_ways l with h | h
  · rw [if_neg (by omega)]
    rw [h] at HC
    have HS2 := Lib.hid (HS.out h)
    clear HS h
    generalize l.length = n at *
    obtain ⟨s, hs⟩ : ∃ s, l.any tex = s := ⟨_, rfl⟩
    obtain ⟨r, hr⟩ : ∃ r, t.right = r := ⟨_, rfl⟩
    rw [hs] at HS2 ⊢
    rw [hr] at HR ⊢
    clear hs hr
    have HT := Lib.hid (show (w.alloc (.cells #[.int .i64 t.w, .int .i64 t.h, .slice B t.px.length k] 25)).heap[w.heap.size]? = some (txB t B k) from new_at1 w _)
    have hB0 : Below w.heap.size w (w.alloc (.cells #[.int .i64 t.w, .int .i64 t.h, .slice B t.px.length k] 25)) := HB.out _
    have HB0 := Lib.hid hB0
    have HE0 := Lib.hid (HE.out.up hB0)
    clear hB0 HE HB
    cases s
    · have e0 : (if false = true ∧ r = false then (22 : Int) else 0) = 0 := if_neg (by intro h; cases h.1)
      rw [e0]
      clear e0 HR
      go_enter Try.func22, Try.ntmps22
      go_wp2_with (first
        | (go_at_call 49; (with_reducible refine (HC.out _ HE0.out).mono ?_); rintro e w1 ⟨rfl, hb⟩; have HB1 := Lib.hid (bstep HB0.out HB0.out.size hb); have HE1 := Lib.hid (HE0.out.up hb); clear hb)
        | (go_at_call 50; (with_reducible refine (HS2.out _ HE1.out).mono ?_); rintro e w2 ⟨rfl, hb⟩; have HB2 := Lib.hid (bstep HB1.out HB1.out.size hb); clear hb))
      go_ret
      exact ⟨rfl, HB2.out⟩
    · cases r
      all_goals
        go_enter Try.func22, Try.ntmps22
        go_wp2_with (first
          | (go_at_call 49; (with_reducible refine (HC.out _ HE0.out).mono ?_); rintro e w1 ⟨rfl, hb⟩; have HB1 := Lib.hid (bstep HB0.out HB0.out.size hb); have HE1 := Lib.hid (HE0.out.up hb); have HT1 := Lib.hid (txB_grow HT.out hb); clear hb)
          | (go_at_call 50; (with_reducible refine (HS2.out _ HE1.out).mono ?_); rintro e w2 ⟨rfl, hb⟩; have HB2 := Lib.hid (bstep HB1.out HB1.out.size hb); obtain ⟨c0, c1, c2⟩ := txB_cell (txB_grow HT1.out hb); clear hb)
          | (go_at_call 51; (with_reducible refine (HR.out _).mono ?_); rintro e w3 ⟨rfl, hb⟩; have HB3 := Lib.hid (bstep HB2.out HB2.out.size hb); clear hb))
        go_ret
        exact ⟨rfl, HB3.out⟩
  · rw [h] at HC
    rw [if_pos (by omega)]
    clear HS h
    generalize l.length = n at *
    go_enter Try.func22, Try.ntmps22
    go_wp2_with (go_at_call 49; (with_reducible refine (HC.out _ (HE.out.up (HB.out _))).mono ?_); rintro e w1 ⟨rfl, hb⟩; have HB1 := Lib.hid (bstep (HB.out _) (HB.out _).size hb); clear hb)
    go_ret
    exact ⟨rfl, HB1.out⟩
end Go.Proofs.Ytehkcnmjkgelkaa
