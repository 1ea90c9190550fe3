/-
  The walk of glazierlaw04.VecNarrow.
-/
import Derived.Test.YtjnmebdjgnenoaaFit
namespace Go.Proofs.Ytjnmebdjgnenoaa
open Go.RowKit
attribute [local go_sem ↓] Go.wp_at_zero Go.wp_at_succ

theorem right_no (x y z t a b c d : Int) (h : ¬ (⟨x, y, z, t, a, b, c, d⟩ : V).ok) (w : World) :
    Calls Try.prog 13 #[.agg #[.int .i64 x, .int .i64 y, .int .i64 z, .int .i64 t, .int .i64 a, .int .i64 b, .int .i64 c, .int .i64 d]] w fun e w' => e = .returned (.bool false) ∧ Below w.heap.size w w' := by
  have k := right_any ⟨x, y, z, t, a, b, c, d⟩ w
  rw [rightB_no h] at k
  exact k

set_option maxHeartbeats 8000000 in
theorem narrow_walk (v : V) (n : Int) (g : Bool) (w : World) (n0 : 0 ≤ n) :
    Calls Try.prog 7 #[.agg #[.int .i64 v.x, .int .i64 v.y, .int .i64 v.z, .int .i64 v.w, .int .i64 v.a, .int .i64 v.b, .int .i64 v.c, .int .i64 v.d], .int .u8 n, .bool g] w fun e w' => e = .returned (.bool true) ∧ Below w.heap.size w w' := by
  have HS := Lib.hid shown_any
  have HF := Lib.hid (fit_any v)
  obtain ⟨f, hf⟩ : ∃ f, fitV v = f := ⟨_, rfl⟩
  rw [hf] at HF
  have hok : f.ok := by rw [← hf]; exact fitV_ok v
  have HR := Lib.hid (right_any f)
  rw [rightB_ok hok] at HR
  have HOK := Lib.hid hok
  clear hf hok
  go_enter Try.func7, Try.ntmps7
  go_wp2_with fail
  with_reducible refine (HS.out _).mono ?_
  rintro e w1 ⟨rfl, hb⟩
  have k1 := bstep ((Below.refl w.heap.size w).alloc (Nat.le_refl _) (Obj.cells #[.int .i64 v.x, .int .i64 v.y, .int .i64 v.z, .int .i64 v.w, .int .i64 v.a, .int .i64 v.b, .int .i64 v.c, .int .i64 v.d] 24)) (by simp) hb
  have V1 : w1.heap[w.heap.size]? = some (vB 24 v) := vB_grow (new_at rfl) hb
  have K1 := Lib.hid k1
  clear hb k1
  obtain ⟨c0, c1, c2, c3, c4, c5, c6, c7⟩ := vB_cell V1
  clear V1
  go_wp2_with fail
  with_reducible refine (HF.out _).mono ?_
  rintro e w2 ⟨rfl, hb⟩
  have K2 := Lib.hid (bstep K1.out K1.out.size hb)
  clear hb c0 c1 c2 c3 c4 c5 c6 c7
  go_wp2_with fail
  with_reducible refine (HR.out _).mono ?_
  rintro e w3 ⟨rfl, hb⟩
  have k3 := K2.out.alloc K2.out.size (Obj.cells #[.int .i64 f.x, .int .i64 f.y, .int .i64 f.z, .int .i64 f.w, .int .i64 f.a, .int .i64 f.b, .int .i64 f.c, .int .i64 f.d] 24)
  have F3 := Lib.hid (show w3.heap[w2.heap.size]? = some (vB 24 f) from vB_grow (new_at rfl) hb)
  have K3 := Lib.hid (bstep k3 k3.size hb)
  clear hb k3
  have hsz : w.heap.size ≤ w2.heap.size := K2.out.size
  obtain ⟨c0, c1, c2, c3, c4, c5, c6, c7⟩ := vB_cell F3.out
  obtain ⟨f0, f1, f2, f3, f4, f5, f6, f7⟩ := vB_free F3.out
  rcases (show n % 8 = 0 ∨ n % 8 = 1 ∨ n % 8 = 2 ∨ n % 8 = 3 ∨ n % 8 = 4 ∨ n % 8 = 5 ∨ n % 8 = 6 ∨ n % 8 = 7 by omega) with h8 | h8 | h8 | h8 | h8 | h8 | h8 | h8
  · have t8 : n.tmod 8 = 0 := by rw [Int.tmod_eq_emod_of_nonneg n0]; exact h8
    have h4 : n % 4 = 0 := by omega
    have t4 : n.tmod 4 = 0 := by rw [Int.tmod_eq_emod_of_nonneg n0]; exact h4
    cases g
    · go_wp2_with fail
      with_reducible refine (right_no _ _ _ _ _ _ _ _ (fun h => by have h := h.x; simp at h) _).mono ?_
      rintro e w4 ⟨rfl, hb⟩
      have K4 := Lib.hid hb
      clear hb
      go_wp2
      go_ret
      exact ⟨rfl, bstep (by repeat (first | exact K3.out | refine Below.setCell ?_ (by simpa using hsz) _)) (by simp; exact K3.out.size) K4.out⟩
    · go_wp2_with fail
      with_reducible refine (right_no _ _ _ _ _ _ _ _ (fun h => by have h := h.x; simp at h) _).mono ?_
      rintro e w4 ⟨rfl, hb⟩
      have K4 := Lib.hid hb
      clear hb
      go_wp2
      go_ret
      exact ⟨rfl, bstep (by repeat (first | exact K3.out | refine Below.setCell ?_ (by simpa using hsz) _)) (by simp; exact K3.out.size) K4.out⟩
  · have t8 : n.tmod 8 = 1 := by rw [Int.tmod_eq_emod_of_nonneg n0]; exact h8
    have h4 : n % 4 = 1 := by omega
    have t4 : n.tmod 4 = 1 := by rw [Int.tmod_eq_emod_of_nonneg n0]; exact h4
    cases g
    · go_wp2_with fail
      with_reducible refine (right_no _ _ _ _ _ _ _ _ (fun h => by have h := h.y; simp at h) _).mono ?_
      rintro e w4 ⟨rfl, hb⟩
      have K4 := Lib.hid hb
      clear hb
      go_wp2
      go_ret
      exact ⟨rfl, bstep (by repeat (first | exact K3.out | refine Below.setCell ?_ (by simpa using hsz) _)) (by simp; exact K3.out.size) K4.out⟩
    · go_wp2_with fail
      with_reducible refine (right_no _ _ _ _ _ _ _ _ (fun h => by have h := h.y; simp at h) _).mono ?_
      rintro e w4 ⟨rfl, hb⟩
      have K4 := Lib.hid hb
      clear hb
      go_wp2
      go_ret
      exact ⟨rfl, bstep (by repeat (first | exact K3.out | refine Below.setCell ?_ (by simpa using hsz) _)) (by simp; exact K3.out.size) K4.out⟩
  · have t8 : n.tmod 8 = 2 := by rw [Int.tmod_eq_emod_of_nonneg n0]; exact h8
    have h4 : n % 4 = 2 := by omega
    have t4 : n.tmod 4 = 2 := by rw [Int.tmod_eq_emod_of_nonneg n0]; exact h4
    cases g
    · go_wp2_with fail
      with_reducible refine (right_no _ _ _ _ _ _ _ _ (fun h => by have h := h.z; simp at h) _).mono ?_
      rintro e w4 ⟨rfl, hb⟩
      have K4 := Lib.hid hb
      clear hb
      go_wp2
      go_ret
      exact ⟨rfl, bstep (by repeat (first | exact K3.out | refine Below.setCell ?_ (by simpa using hsz) _)) (by simp; exact K3.out.size) K4.out⟩
    · go_wp2_with fail
      with_reducible refine (right_no _ _ _ _ _ _ _ _ (fun h => by have h := h.z; simp at h) _).mono ?_
      rintro e w4 ⟨rfl, hb⟩
      have K4 := Lib.hid hb
      clear hb
      go_wp2
      go_ret
      exact ⟨rfl, bstep (by repeat (first | exact K3.out | refine Below.setCell ?_ (by simpa using hsz) _)) (by simp; exact K3.out.size) K4.out⟩
  · have t8 : n.tmod 8 = 3 := by rw [Int.tmod_eq_emod_of_nonneg n0]; exact h8
    have h4 : n % 4 = 3 := by omega
    have t4 : n.tmod 4 = 3 := by rw [Int.tmod_eq_emod_of_nonneg n0]; exact h4
    cases g
    · go_wp2_with fail
      with_reducible refine (right_no _ _ _ _ _ _ _ _ (fun h => by have h := h.w; simp at h) _).mono ?_
      rintro e w4 ⟨rfl, hb⟩
      have K4 := Lib.hid hb
      clear hb
      go_wp2
      go_ret
      exact ⟨rfl, bstep (by repeat (first | exact K3.out | refine Below.setCell ?_ (by simpa using hsz) _)) (by simp; exact K3.out.size) K4.out⟩
    · go_wp2_with fail
      with_reducible refine (right_no _ _ _ _ _ _ _ _ (fun h => by have h := h.w; simp at h) _).mono ?_
      rintro e w4 ⟨rfl, hb⟩
      have K4 := Lib.hid hb
      clear hb
      go_wp2
      go_ret
      exact ⟨rfl, bstep (by repeat (first | exact K3.out | refine Below.setCell ?_ (by simpa using hsz) _)) (by simp; exact K3.out.size) K4.out⟩
  · have t8 : n.tmod 8 = 4 := by rw [Int.tmod_eq_emod_of_nonneg n0]; exact h8
    have h4 : n % 4 = 0 := by omega
    have t4 : n.tmod 4 = 0 := by rw [Int.tmod_eq_emod_of_nonneg n0]; exact h4
    cases g
    · go_wp2_with fail
      with_reducible refine (right_no _ _ _ _ _ _ _ _ (fun h => by have h := h.a; simp at h) _).mono ?_
      rintro e w4 ⟨rfl, hb⟩
      have K4 := Lib.hid hb
      clear hb
      go_wp2
      go_ret
      exact ⟨rfl, bstep (by repeat (first | exact K3.out | refine Below.setCell ?_ (by simpa using hsz) _)) (by simp; exact K3.out.size) K4.out⟩
    · go_wp2_with fail
      with_reducible refine (right_no _ _ _ _ _ _ _ _ (fun h => by have h := h.a; simp at h) _).mono ?_
      rintro e w4 ⟨rfl, hb⟩
      have K4 := Lib.hid hb
      clear hb
      go_wp2
      go_ret
      exact ⟨rfl, bstep (by repeat (first | exact K3.out | refine Below.setCell ?_ (by simpa using hsz) _)) (by simp; exact K3.out.size) K4.out⟩
  · have t8 : n.tmod 8 = 5 := by rw [Int.tmod_eq_emod_of_nonneg n0]; exact h8
    have h4 : n % 4 = 1 := by omega
    have t4 : n.tmod 4 = 1 := by rw [Int.tmod_eq_emod_of_nonneg n0]; exact h4
    cases g
    · go_wp2_with fail
      with_reducible refine (right_no _ _ _ _ _ _ _ _ (fun h => by have h := h.b; simp at h) _).mono ?_
      rintro e w4 ⟨rfl, hb⟩
      have K4 := Lib.hid hb
      clear hb
      go_wp2
      go_ret
      exact ⟨rfl, bstep (by repeat (first | exact K3.out | refine Below.setCell ?_ (by simpa using hsz) _)) (by simp; exact K3.out.size) K4.out⟩
    · go_wp2_with fail
      with_reducible refine (right_no _ _ _ _ _ _ _ _ (fun h => by have h := h.b; simp at h) _).mono ?_
      rintro e w4 ⟨rfl, hb⟩
      have K4 := Lib.hid hb
      clear hb
      go_wp2
      go_ret
      exact ⟨rfl, bstep (by repeat (first | exact K3.out | refine Below.setCell ?_ (by simpa using hsz) _)) (by simp; exact K3.out.size) K4.out⟩
  · have t8 : n.tmod 8 = 6 := by rw [Int.tmod_eq_emod_of_nonneg n0]; exact h8
    have h4 : n % 4 = 2 := by omega
    have t4 : n.tmod 4 = 2 := by rw [Int.tmod_eq_emod_of_nonneg n0]; exact h4
    cases g
    · go_wp2_with fail
      with_reducible refine (right_no _ _ _ _ _ _ _ _ (fun h => by have h := h.c; simp at h) _).mono ?_
      rintro e w4 ⟨rfl, hb⟩
      have K4 := Lib.hid hb
      clear hb
      go_wp2
      go_ret
      exact ⟨rfl, bstep (by repeat (first | exact K3.out | refine Below.setCell ?_ (by simpa using hsz) _)) (by simp; exact K3.out.size) K4.out⟩
    · go_wp2_with fail
      with_reducible refine (right_no _ _ _ _ _ _ _ _ (fun h => by have h := h.c; simp at h) _).mono ?_
      rintro e w4 ⟨rfl, hb⟩
      have K4 := Lib.hid hb
      clear hb
      go_wp2
      go_ret
      exact ⟨rfl, bstep (by repeat (first | exact K3.out | refine Below.setCell ?_ (by simpa using hsz) _)) (by simp; exact K3.out.size) K4.out⟩
  · have t8 : n.tmod 8 = 7 := by rw [Int.tmod_eq_emod_of_nonneg n0]; exact h8
    have h4 : n % 4 = 3 := by omega
    have t4 : n.tmod 4 = 3 := by rw [Int.tmod_eq_emod_of_nonneg n0]; exact h4
    cases g
    · go_wp2_with fail
      with_reducible refine (right_no _ _ _ _ _ _ _ _ (fun h => by have h := h.d; simp at h) _).mono ?_
      rintro e w4 ⟨rfl, hb⟩
      have K4 := Lib.hid hb
      clear hb
      go_wp2
      go_ret
      exact ⟨rfl, bstep (by repeat (first | exact K3.out | refine Below.setCell ?_ (by simpa using hsz) _)) (by simp; exact K3.out.size) K4.out⟩
    · go_wp2_with fail
      with_reducible refine (right_no _ _ _ _ _ _ _ _ (fun h => by have h := h.d; simp at h) _).mono ?_
      rintro e w4 ⟨rfl, hb⟩
      have K4 := Lib.hid hb
      clear hb
      go_wp2
      go_ret
      exact ⟨rfl, bstep (by repeat (first | exact K3.out | refine Below.setCell ?_ (by simpa using hsz) _)) (by simp; exact K3.out.size) K4.out⟩
end Go.Proofs.Ytjnmebdjgnenoaa
