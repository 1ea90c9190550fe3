/-
  The contracts of vec.held and vec.Right: a vertex may be just if holding its numbers within their bounds leaves it.
-/
import Derived.Test.YtnpcmoeleigpoaaUCells
namespace Go.Proofs.Ytnpcmoeleigpoaa.U
open Go.RowKit
attribute [local go_sem ↓] Go.wp_at_zero Go.wp_at_succ

def clamp (lo hi n : Int) : Int := min (max n lo) hi
def least : V := ⟨-32768, -32768, -32768, 1, -4096, -4096, -4096, -4096⟩
def most : V := ⟨32768, 32768, 32768, 32768, 4096, 4096, 4096, 4096⟩
/-- The first j numbers held within their bounds. -/
def upto (j : Nat) (v : V) : V :=
  ⟨if 0 < j then min (max v.x (-32768)) 32768 else v.x, if 1 < j then min (max v.y (-32768)) 32768 else v.y, if 2 < j then min (max v.z (-32768)) 32768 else v.z, if 3 < j then min (max v.w 1) 32768 else v.w,
    if 4 < j then min (max v.a (-4096)) 4096 else v.a, if 5 < j then min (max v.b (-4096)) 4096 else v.b, if 6 < j then min (max v.c (-4096)) 4096 else v.c, if 7 < j then min (max v.d (-4096)) 4096 else v.d⟩
def heldV (v : V) : V :=
  ⟨min (max v.x (-32768)) 32768, min (max v.y (-32768)) 32768, min (max v.z (-32768)) 32768, min (max v.w 1) 32768, min (max v.a (-4096)) 4096, min (max v.b (-4096)) 4096, min (max v.c (-4096)) 4096, min (max v.d (-4096)) 4096⟩

set_option maxRecDepth 100000 in
set_option maxHeartbeats 2000000 in
theorem held_any (v : V) (w : World) :
    Calls Try.prog 46 #[.agg #[.int .i64 v.x, .int .i64 v.y, .int .i64 v.z, .int .i64 v.w, .int .i64 v.a, .int .i64 v.b, .int .i64 v.c, .int .i64 v.d]] w fun e w' => e = .returned (.agg #[.int .i64 (heldV v).x, .int .i64 (heldV v).y, .int .i64 (heldV v).z, .int .i64 (heldV v).w, .int .i64 (heldV v).a, .int .i64 (heldV v).b, .int .i64 (heldV v).c, .int .i64 (heldV v).d]) ∧ Below w.heap.size w w' := by
  go_enter Try.func46, Try.ntmps46
  go_wp2
  go_loopw [8] (fun i wr => ∃ j : Nat, j ≤ 8 ∧ i = .int .i64 j ∧ Below w.heap.size w wr ∧ wr.heap[w.heap.size]? = some (vB 85 (upto j v)) ∧ wr.heap[w.heap.size + 1]? = some (vB 85 ⟨0, 0, 0, 0, 0, 0, 0, 0⟩) ∧ wr.heap[w.heap.size + 2]? = some (vB 85 least) ∧ wr.heap[w.heap.size + 3]? = some (vB 85 most))
    (fun i _ => 8 - (intOf i).toNat)
  case atStart =>
    refine ⟨0, by omega, rfl, ?_, ?_, ?_, ?_, ?_⟩
    · exact ((((Below.refl _ _).alloc (Nat.le_refl _) _).alloc (by simp) _).alloc (by simp; omega) _).alloc (by simp; omega) _
    · rw [Below.heap_alloc _ _ _ (by simp; omega), Below.heap_alloc _ _ _ (by simp; omega), Below.heap_alloc _ _ _ (by simp)]; exact heap_alloc_new _ _
    · rw [Below.heap_alloc _ _ _ (by simp), Below.heap_alloc _ _ _ (by simp)]; exact new_at (by simp)
    · rw [Below.heap_alloc _ _ _ (by simp)]; exact new_at (by simp)
    · exact new_at (by simp)
  case round =>
    obtain ⟨j, hj, rfl, hbel, h0, h1, h2, h3⟩ := hrel
    have HBE := Lib.hid hbel
    have H0 := Lib.hid h0
    have H1 := Lib.hid h1
    have H2 := Lib.hid h2
    have H3 := Lib.hid h3
    have hz := vB_lt h0
    clear hbel h0 h1 h2 h3
    rcases (show j = 0 ∨ j = 1 ∨ j = 2 ∨ j = 3 ∨ j = 4 ∨ j = 5 ∨ j = 6 ∨ j = 7 ∨ j = 8 by omega) with rfl | rfl | rfl | rfl | rfl | rfl | rfl | rfl | rfl
    · have c0 : wr.cell? ⟨w.heap.size, 0, none⟩ = some (.int .i64 v.x) := (vB_cell H0.out).1
      have c2 : wr.cell? ⟨w.heap.size + 2, 0, none⟩ = some (.int .i64 (-32768)) := (vB_cell H2.out).1
      have c3 : wr.cell? ⟨w.heap.size + 3, 0, none⟩ = some (.int .i64 32768) := (vB_cell H3.out).1
      have f0 : wr.frozen? ⟨w.heap.size, 0, none⟩ = false := (vB_free H0.out).1
      go_wp2
      go_still_tail 13, (by kernel_rfl)
      change wpList _ _ _ _ _ wr.drew
      go_wp2
      go_roundw
      case rel => exact ⟨1, by omega, by go_num, (HBE.out.drew).setCell (by simp) _, vB_set0 (w := wr.drew) _ H0.out, vB_other (w := wr.drew) _ H1.out (by omega), vB_other (w := wr.drew) _ H2.out (by omega), vB_other (w := wr.drew) _ H3.out (by omega)⟩
      case measure => simp [intOf]
    · have c0 : wr.cell? ⟨w.heap.size, 1, none⟩ = some (.int .i64 v.y) := (vB_cell H0.out).2.1
      have c2 : wr.cell? ⟨w.heap.size + 2, 1, none⟩ = some (.int .i64 (-32768)) := (vB_cell H2.out).2.1
      have c3 : wr.cell? ⟨w.heap.size + 3, 1, none⟩ = some (.int .i64 32768) := (vB_cell H3.out).2.1
      have f0 : wr.frozen? ⟨w.heap.size, 1, none⟩ = false := (vB_free H0.out).2.1
      go_wp2
      go_still_tail 13, (by kernel_rfl)
      change wpList _ _ _ _ _ wr.drew
      go_wp2
      go_roundw
      case rel => exact ⟨2, by omega, by go_num, (HBE.out.drew).setCell (by simp) _, vB_set1 (w := wr.drew) _ H0.out, vB_other (w := wr.drew) _ H1.out (by omega), vB_other (w := wr.drew) _ H2.out (by omega), vB_other (w := wr.drew) _ H3.out (by omega)⟩
      case measure => simp [intOf]
    · have c0 : wr.cell? ⟨w.heap.size, 2, none⟩ = some (.int .i64 v.z) := (vB_cell H0.out).2.2.1
      have c2 : wr.cell? ⟨w.heap.size + 2, 2, none⟩ = some (.int .i64 (-32768)) := (vB_cell H2.out).2.2.1
      have c3 : wr.cell? ⟨w.heap.size + 3, 2, none⟩ = some (.int .i64 32768) := (vB_cell H3.out).2.2.1
      have f0 : wr.frozen? ⟨w.heap.size, 2, none⟩ = false := (vB_free H0.out).2.2.1
      go_wp2
      go_still_tail 13, (by kernel_rfl)
      change wpList _ _ _ _ _ wr.drew
      go_wp2
      go_roundw
      case rel => exact ⟨3, by omega, by go_num, (HBE.out.drew).setCell (by simp) _, vB_set2 (w := wr.drew) _ H0.out, vB_other (w := wr.drew) _ H1.out (by omega), vB_other (w := wr.drew) _ H2.out (by omega), vB_other (w := wr.drew) _ H3.out (by omega)⟩
      case measure => simp [intOf]
    · have c0 : wr.cell? ⟨w.heap.size, 3, none⟩ = some (.int .i64 v.w) := (vB_cell H0.out).2.2.2.1
      have c2 : wr.cell? ⟨w.heap.size + 2, 3, none⟩ = some (.int .i64 1) := (vB_cell H2.out).2.2.2.1
      have c3 : wr.cell? ⟨w.heap.size + 3, 3, none⟩ = some (.int .i64 32768) := (vB_cell H3.out).2.2.2.1
      have f0 : wr.frozen? ⟨w.heap.size, 3, none⟩ = false := (vB_free H0.out).2.2.2.1
      go_wp2
      go_still_tail 13, (by kernel_rfl)
      change wpList _ _ _ _ _ wr.drew
      go_wp2
      go_roundw
      case rel => exact ⟨4, by omega, by go_num, (HBE.out.drew).setCell (by simp) _, vB_set3 (w := wr.drew) _ H0.out, vB_other (w := wr.drew) _ H1.out (by omega), vB_other (w := wr.drew) _ H2.out (by omega), vB_other (w := wr.drew) _ H3.out (by omega)⟩
      case measure => simp [intOf]
    · have c0 : wr.cell? ⟨w.heap.size, 4, none⟩ = some (.int .i64 v.a) := (vB_cell H0.out).2.2.2.2.1
      have c2 : wr.cell? ⟨w.heap.size + 2, 4, none⟩ = some (.int .i64 (-4096)) := (vB_cell H2.out).2.2.2.2.1
      have c3 : wr.cell? ⟨w.heap.size + 3, 4, none⟩ = some (.int .i64 4096) := (vB_cell H3.out).2.2.2.2.1
      have f0 : wr.frozen? ⟨w.heap.size, 4, none⟩ = false := (vB_free H0.out).2.2.2.2.1
      go_wp2
      go_still_tail 13, (by kernel_rfl)
      change wpList _ _ _ _ _ wr.drew
      go_wp2
      go_roundw
      case rel => exact ⟨5, by omega, by go_num, (HBE.out.drew).setCell (by simp) _, vB_set4 (w := wr.drew) _ H0.out, vB_other (w := wr.drew) _ H1.out (by omega), vB_other (w := wr.drew) _ H2.out (by omega), vB_other (w := wr.drew) _ H3.out (by omega)⟩
      case measure => simp [intOf]
    · have c0 : wr.cell? ⟨w.heap.size, 5, none⟩ = some (.int .i64 v.b) := (vB_cell H0.out).2.2.2.2.2.1
      have c2 : wr.cell? ⟨w.heap.size + 2, 5, none⟩ = some (.int .i64 (-4096)) := (vB_cell H2.out).2.2.2.2.2.1
      have c3 : wr.cell? ⟨w.heap.size + 3, 5, none⟩ = some (.int .i64 4096) := (vB_cell H3.out).2.2.2.2.2.1
      have f0 : wr.frozen? ⟨w.heap.size, 5, none⟩ = false := (vB_free H0.out).2.2.2.2.2.1
      go_wp2
      go_still_tail 13, (by kernel_rfl)
      change wpList _ _ _ _ _ wr.drew
      go_wp2
      go_roundw
      case rel => exact ⟨6, by omega, by go_num, (HBE.out.drew).setCell (by simp) _, vB_set5 (w := wr.drew) _ H0.out, vB_other (w := wr.drew) _ H1.out (by omega), vB_other (w := wr.drew) _ H2.out (by omega), vB_other (w := wr.drew) _ H3.out (by omega)⟩
      case measure => simp [intOf]
    · have c0 : wr.cell? ⟨w.heap.size, 6, none⟩ = some (.int .i64 v.c) := (vB_cell H0.out).2.2.2.2.2.2.1
      have c2 : wr.cell? ⟨w.heap.size + 2, 6, none⟩ = some (.int .i64 (-4096)) := (vB_cell H2.out).2.2.2.2.2.2.1
      have c3 : wr.cell? ⟨w.heap.size + 3, 6, none⟩ = some (.int .i64 4096) := (vB_cell H3.out).2.2.2.2.2.2.1
      have f0 : wr.frozen? ⟨w.heap.size, 6, none⟩ = false := (vB_free H0.out).2.2.2.2.2.2.1
      go_wp2
      go_still_tail 13, (by kernel_rfl)
      change wpList _ _ _ _ _ wr.drew
      go_wp2
      go_roundw
      case rel => exact ⟨7, by omega, by go_num, (HBE.out.drew).setCell (by simp) _, vB_set6 (w := wr.drew) _ H0.out, vB_other (w := wr.drew) _ H1.out (by omega), vB_other (w := wr.drew) _ H2.out (by omega), vB_other (w := wr.drew) _ H3.out (by omega)⟩
      case measure => simp [intOf]
    · have c0 : wr.cell? ⟨w.heap.size, 7, none⟩ = some (.int .i64 v.d) := (vB_cell H0.out).2.2.2.2.2.2.2
      have c2 : wr.cell? ⟨w.heap.size + 2, 7, none⟩ = some (.int .i64 (-4096)) := (vB_cell H2.out).2.2.2.2.2.2.2
      have c3 : wr.cell? ⟨w.heap.size + 3, 7, none⟩ = some (.int .i64 4096) := (vB_cell H3.out).2.2.2.2.2.2.2
      have f0 : wr.frozen? ⟨w.heap.size, 7, none⟩ = false := (vB_free H0.out).2.2.2.2.2.2.2
      go_wp2
      go_still_tail 13, (by kernel_rfl)
      change wpList _ _ _ _ _ wr.drew
      go_wp2
      go_roundw
      case rel => exact ⟨8, by omega, by go_num, (HBE.out.drew).setCell (by simp) _, vB_set7 (w := wr.drew) _ H0.out, vB_other (w := wr.drew) _ H1.out (by omega), vB_other (w := wr.drew) _ H2.out (by omega), vB_other (w := wr.drew) _ H3.out (by omega)⟩
      case measure => simp [intOf]
    · obtain ⟨c0, c1, c2, c3, c4, c5, c6, c7⟩ : (wr.cell? ⟨w.heap.size, 0, none⟩ = some (.int .i64 (heldV v).x) ∧ wr.cell? ⟨w.heap.size, 1, none⟩ = some (.int .i64 (heldV v).y) ∧ wr.cell? ⟨w.heap.size, 2, none⟩ = some (.int .i64 (heldV v).z) ∧ wr.cell? ⟨w.heap.size, 3, none⟩ = some (.int .i64 (heldV v).w) ∧ wr.cell? ⟨w.heap.size, 4, none⟩ = some (.int .i64 (heldV v).a) ∧ wr.cell? ⟨w.heap.size, 5, none⟩ = some (.int .i64 (heldV v).b) ∧ wr.cell? ⟨w.heap.size, 6, none⟩ = some (.int .i64 (heldV v).c) ∧ wr.cell? ⟨w.heap.size, 7, none⟩ = some (.int .i64 (heldV v).d)) := vB_cell H0.out
      obtain ⟨d0, d1, d2, d3, d4, d5, d6, d7⟩ := vB_cell H1.out
      obtain ⟨f0, f1, f2, f3, f4, f5, f6, f7⟩ := vB_free H1.out
      have hz1 := vB_lt H1.out
      go_wp2
      have HR := vB_cell (vB_set (heldV v) H1.out)
      obtain ⟨r0, r1, r2, r3, r4, r5, r6, r7⟩ := HR
      refine bodyPost_ret (v := .agg #[.int .i64 (heldV v).x, .int .i64 (heldV v).y, .int .i64 (heldV v).z, .int .i64 (heldV v).w, .int .i64 (heldV v).a, .int .i64 (heldV v).b, .int .i64 (heldV v).c, .int .i64 (heldV v).d]) (by simp [results, Try.results46, go_sem, r0, r1, r2, r3, r4, r5, r6, r7]) rfl ⟨rfl, ?_⟩
      exact (((((((HBE.out.setCell (by simp) _).setCell (by simp) _).setCell (by simp) _).setCell (by simp) _).setCell (by simp) _).setCell (by simp) _).setCell (by simp) _).setCell (by simp) _
end Go.Proofs.Ytnpcmoeleigpoaa.U
