/-
  The contract of the example at the head of all statements; programs of one instruction; no picture.
-/
import Derived.Test.YtehkcnmjkgelkaaEqR
namespace Go.Proofs.Ytehkcnmjkgelkaa
open Go.RowKit C
attribute [local go_sem ↓] Go.wp_at_zero Go.wp_at_succ

/-- No picture. -/
def noT : Tx := ⟨0, 0, []⟩
theorem noT_ok : noT.ok := fun _ h => by cases h
theorem noT_right : noT.right = false := by decide
/-- A program of one instruction in a block of its own. -/
theorem ins_at {w : World} {b : Nat} {x : In} (h : w.heap[b]? = some (.cells #[.int .u8 x.o, .int .u8 x.d, .int .u8 x.a, .int .u8 x.b, .int .i64 x.n] 45)) : Es EI w w.heap.size (some ⟨b, 0, none⟩) [x] := fun _ =>
  ⟨b, 0, rfl, (Array.getElem?_eq_some_iff.1 h).1, fun j u hj r y hr => by
    match j, hj with
    | 0, hj =>
      obtain rfl : x = u := by simpa using hj
      rw [show 0 + 0 * EI.size + r = r by simp, cell_of_row w b r _ 45 (0, 0) h, ← hr, List.getElem?_toArray]
      rfl
    | j + 1, hj => simp at hj⟩
def mulI : In := ⟨4, 0, 0, 1, 0⟩
theorem mul_runs : runQ [mulI] noT [512, 300, 0, 0, 0, 0, 0, 0] = ([600, 300, 0, 0, 0, 0, 0, 0], 1, 0) := by kernel_rfl
theorem mulI_ok : ∀ x ∈ [mulI], x.ok := by
  intro x hx
  obtain rfl : x = mulI := by simpa using hx
  unfold mulI
  constructor <;> decide
set_option maxRecDepth 100000 in
set_option maxHeartbeats 1000000 in
theorem shown_any (w : World) : Calls Try.prog 9 #[] w fun e w' => e = .returned (.bool true) ∧ Below w.heap.size w w' := by
  have HR := Lib.hid (fun A W (h : Es EI W W.heap.size A [mulI]) => run_any [mulI] A 1 noT none 0 512 300 0 0 0 0 0 0 mulI_ok noT_ok W h Es.none_)
  rw [mul_runs] at HR
  go_enter Try.func9, Try.ntmps9
  go_wp2_with fail
  have hb0 := new_below w (.cells #[.int .u8 4, .int .u8 0, .int .u8 0, .int .u8 1, .int .i64 0] 45)
  have he := ins_at (x := mulI) (b := w.heap.size) (new_at1 w (.cells #[.int .u8 4, .int .u8 0, .int .u8 0, .int .u8 1, .int .i64 0] 45))
  refine (HR.out _ _ he).mono ?_
  rintro e w1 ⟨rfl, hb⟩
  have HB := Lib.hid (bstep hb0 hb0.size hb)
  clear hb he hb0 HR
  unfold runV regC
  dsimp only [List.map_cons, List.map_nil]
  go_wp2_with fail
  go_ret
  exact ⟨rfl, HB.out.alloc HB.out.size _⟩
end Go.Proofs.Ytehkcnmjkgelkaa
