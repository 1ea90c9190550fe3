/-
  The contract of the example at the head of all statements.
-/
import Derived.Test.YtbhailpnfohomaaFit
namespace Go.Proofs.Ytbhailpnfohomaa
open Go.RowKit
attribute [local go_sem ↓] Go.wp_at_zero Go.wp_at_succ
attribute [local go_sem high] eqlC
attribute [local go_sem] guardC sameC_self

theorem neqC (w : World) (x0 x1 x2 x3 y0 y1 y2 y3 : Int) : (binOp .neq 30 (.agg #[.int .u8 x0, .int .u8 x1, .int .u8 x2, .int .u8 x3]) (.agg #[.int .u8 y0, .int .u8 y1, .int .u8 y2, .int .u8 y3])).run Try.prog w = .ok (.bool (!sameC ⟨x0, x1, x2, x3⟩ ⟨y0, y1, y2, y3⟩)) w := by
  have h := eqlC w x0 x1 x2 x3 y0 y1 y2 y3
  rw [run_eql_struct] at h
  rw [run_neq_struct]
  generalize (Op.equalIn 10000 30 _ _).run Try.prog w = r at h ⊢
  cases r with
  | ok b w' =>
    simp only [Result.andThen_ok, Result.ok.injEq, Value.bool.injEq] at h
    obtain ⟨rfl, rfl⟩ := h
    rfl
  | _ => simp [Result.andThen] at h
def white : Col := ⟨255, 255, 255, 255⟩
def half : Tx := ⟨2, 1, [zC, white]⟩
theorem half_smooth : half.smooth 16 0 = ⟨128, 128, 128, 128⟩ := by kernel_rfl
theorem half_ok : half.ok := by
  intro c hc
  have h : c = zC ∨ c = white := by simpa [half] using hc
  rcases h with rfl | rfl
  · exact zC_ok
  · unfold white Col.ok; decide
theorem half_es {w : World} {g : Nat} {cs : Array Value} (h : w.heap[g]? = some (.cells cs 30 (0, 0))) (e : cs.toList = EC.flat [zC, white]) : Es EC w w.heap.size (some ⟨g, 0, none⟩) half.px := fun _ =>
  ⟨g, 0, rfl, (Array.getElem?_eq_some_iff.1 h).1, fun j u hj r x hr => by
    have hc := cell_of_row w g (0 + j * EC.size + r) cs 30 (0, 0) h
    have hrl : r < EC.size := by
      rcases Nat.lt_or_ge r (EC.cells u).length with h | h
      · exact h
      · rw [List.getElem?_eq_none h] at hr; cases hr
    rw [hc, Nat.zero_add, ← hr, ← EC.flat_get hj r hrl, ← show cs.toList = EC.flat half.px from e, Array.getElem?_toList]⟩

set_option maxHeartbeats 1000000 in
theorem shown_any (w : World) : Calls Try.prog 8 #[] w fun e w' => e = .returned (.bool true) ∧ Below w.heap.size w w' := by
  have HS := Lib.hid (smooth_any half half_ok)
  have hq := half_smooth
  go_enter Try.func8, Try.ntmps8
  go_wp2_with fail
  have hx : (((w.alloc (.cells #[.int .u8 255, .int .u8 255, .int .u8 255, .int .u8 255] 30)).alloc (.cells #[.int .u8 0, .int .u8 0, .int .u8 0, .int .u8 0, .int .u8 255, .int .u8 255, .int .u8 255, .int .u8 255] 30)).heap[w.heap.size + 1]? = some (.cells #[.int .u8 0, .int .u8 0, .int .u8 0, .int .u8 0, .int .u8 255, .int .u8 255, .int .u8 255, .int .u8 255] 30 (0, 0))) := new_at2 _ _ _
  have hB : Below w.heap.size w ((w.alloc (.cells #[.int .u8 255, .int .u8 255, .int .u8 255, .int .u8 255] 30)).alloc (.cells #[.int .u8 0, .int .u8 0, .int .u8 0, .int .u8 0, .int .u8 255, .int .u8 255, .int .u8 255, .int .u8 255] 30)) := ((Below.refl _ _).alloc (Nat.le_refl _) _).alloc (by simp) _
  have hE := Lib.hid (half_es hx rfl)
  have HB := Lib.hid hB
  clear hx hB
  refine (HS.out (some ⟨w.heap.size + 1, 0, none⟩) 2 16 0 (by unfold Far; decide) (by unfold Far; decide) _ hE.out).mono ?_
  rintro e w1 ⟨rfl, hb⟩
  rw [hq]
  have HB1 := Lib.hid (bstep HB.out HB.out.size hb)
  clear hb HS hq
  go_wp2
  go_ret
  exact ⟨rfl, HB1.out⟩
end Go.Proofs.Ytbhailpnfohomaa
