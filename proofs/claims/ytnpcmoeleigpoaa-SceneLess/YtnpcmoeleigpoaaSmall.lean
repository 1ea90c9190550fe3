/-
  What is asked of scenes, number by number (pure), and the contracts of the small functions: within, isId, isPlace, fewTris, mayRun, drawId, triId, colour.Right.
-/
import Derived.Test.YtnpcmoeleigpoaaSc
namespace Go.Proofs.Ytnpcmoeleigpoaa
open Go.RowKit
attribute [local go_sem ↓] Go.wp_at_zero Go.wp_at_succ

def inB (n a b : Int) : Bool := decide (a ≤ n ∧ n ≤ b)
theorem within_any (n a b : Int) (w : World) :
    Calls Try.prog 23 #[.int .i64 n, .int .i64 a, .int .i64 b] w fun e w' => e = .returned (.bool (inB n a b)) ∧ w = w' := by
  unfold inB
  by_cases h1 : a ≤ n
  · by_cases h2 : n ≤ b
    · have e : decide (a ≤ n ∧ n ≤ b) = true := by simp [h1, h2]
      rw [e]
      go_enter Try.func23, Try.ntmps23
      go_wp2
      go_ret
      exact ⟨rfl, rfl⟩
    · have e : decide (a ≤ n ∧ n ≤ b) = false := by simp [h2]
      rw [e]
      go_enter Try.func23, Try.ntmps23
      go_wp2
      go_ret
      exact ⟨rfl, rfl⟩
  · have e : decide (a ≤ n ∧ n ≤ b) = false := by simp [h1]
    rw [e]
    go_enter Try.func23, Try.ntmps23
    go_wp2
    go_ret
    exact ⟨rfl, rfl⟩
theorem isId_any (n : Int) (w : World) :
    Calls Try.prog 64 #[.int .i64 n] w fun e w' => e = .returned (.bool (inB n 0 9999)) ∧ w = w' := by
  have HW := Lib.hid (within_any n 0 9999)
  generalize inB n 0 9999 = r at *
  go_enter Try.func64, Try.ntmps64
  go_wp2_with fail
  with_reducible refine (HW.out _).mono ?_
  rintro e w' ⟨rfl, rfl⟩
  go_wp2
  go_ret
  exact ⟨rfl, rfl⟩
theorem isPlace63 (n : Int) (A : Option Addr) (m c : Nat) (hm : m ≤ 1000) (w : World) :
    Calls Try.prog 63 #[.int .i64 n, .slice A m c] w fun e w' => e = .returned (.bool (inB n 0 (m - 1))) ∧ w = w' := by
  have HW := Lib.hid (within_any n 0 (m - 1))
  have hw : IntKind.i64.wrap ((m : Int) - 1) = m - 1 := by rw [IntKind.wrap_i64]; omega
  generalize inB n 0 (m - 1) = r at *
  clear hm
  go_enter Try.func63, Try.ntmps63
  go_wp2_with fail
  with_reducible refine (HW.out _).mono ?_
  rintro e w' ⟨rfl, rfl⟩
  go_wp2
  go_ret
  exact ⟨rfl, rfl⟩
theorem isPlace66 (n : Int) (A : Option Addr) (m c : Nat) (hm : m ≤ 1000) (w : World) :
    Calls Try.prog 66 #[.int .i64 n, .slice A m c] w fun e w' => e = .returned (.bool (inB n 0 (m - 1))) ∧ w = w' := by
  have HW := Lib.hid (within_any n 0 (m - 1))
  have hw : IntKind.i64.wrap ((m : Int) - 1) = m - 1 := by rw [IntKind.wrap_i64]; omega
  generalize inB n 0 (m - 1) = r at *
  clear hm
  go_enter Try.func66, Try.ntmps66
  go_wp2_with fail
  with_reducible refine (HW.out _).mono ?_
  rintro e w' ⟨rfl, rfl⟩
  go_wp2
  go_ret
  exact ⟨rfl, rfl⟩
theorem isPlace74 (n : Int) (A : Option Addr) (m c : Nat) (hm : m ≤ 1000) (w : World) :
    Calls Try.prog 74 #[.int .i64 n, .slice A m c] w fun e w' => e = .returned (.bool (inB n 0 (m - 1))) ∧ w = w' := by
  have HW := Lib.hid (within_any n 0 (m - 1))
  have hw : IntKind.i64.wrap ((m : Int) - 1) = m - 1 := by rw [IntKind.wrap_i64]; omega
  generalize inB n 0 (m - 1) = r at *
  clear hm
  go_enter Try.func74, Try.ntmps74
  go_wp2_with fail
  with_reducible refine (HW.out _).mono ?_
  rintro e w' ⟨rfl, rfl⟩
  go_wp2
  go_ret
  exact ⟨rfl, rfl⟩
theorem drawId_any (l : Lo Dr) (w : World) :
    Calls Try.prog 51 #[.agg #[.int .i64 l.x.id, .int .i64 l.x.prog, .int .i64 l.x.tex, .bool l.x.op, .slice l.A l.x.tris.length l.c]] w fun e w' => e = .returned (.int .i64 l.x.id) ∧ Below w.heap.size w w' := by
  have HK := Lib.hid (new_below w)
  go_enter Try.func51, Try.ntmps51
  go_wp2
  go_ret
  exact ⟨rfl, HK.out _⟩
theorem triId_any (t : Tr) (w : World) :
    Calls Try.prog 53 #[.agg #[.int .i64 t.i, .int .i64 t.a, .int .i64 t.b, .int .i64 t.c]] w fun e w' => e = .returned (.int .i64 t.i) ∧ Below w.heap.size w w' := by
  have HK := Lib.hid (new_below w)
  go_enter Try.func53, Try.ntmps53
  go_wp2
  go_ret
  exact ⟨rfl, HK.out _⟩
theorem fewTris_any (l : Lo Dr) (w : World) :
    Calls Try.prog 44 #[.agg #[.int .i64 l.x.id, .int .i64 l.x.prog, .int .i64 l.x.tex, .bool l.x.op, .slice l.A l.x.tris.length l.c]] w fun e w' => e = .returned (.bool (decide (l.x.tris.length ≤ 32))) ∧ Below w.heap.size w w' := by
  have HK := Lib.hid (new_below w)
  generalize l.x.tris.length = n
  by_cases h : n ≤ 32
  · have h1 : (n : Int) ≤ 32 := by omega
    have e : decide (n ≤ 32) = true := by simp [h]
    rw [e]
    clear e h
    go_enter Try.func44, Try.ntmps44
    go_wp2
    go_ret
    exact ⟨rfl, HK.out _⟩
  · have h1 : ¬ (n : Int) ≤ 32 := by omega
    have e : decide (n ≤ 32) = false := by simp; omega
    rw [e]
    clear e h
    go_enter Try.func44, Try.ntmps44
    go_wp2
    go_ret
    exact ⟨rfl, HK.out _⟩
theorem mayRun_any (l : List C.In) (A : Option Addr) (c : Nat) (hok : ∀ x ∈ l, x.ok) (w : World) (he : Es C.EI w w.heap.size A l) :
    Calls Try.prog 31 #[.slice A l.length c] w fun e w' => e = .returned (.bool (decide (C.chk l = 0))) ∧ Below w.heap.size w w' := by
  have HC := Lib.hid (C.check_any l A c hok w he)
  have hr : C.chk l = 0 ∨ C.chk l = 23 := by unfold C.chk; split; exact .inr rfl; split; exact .inl rfl; exact .inr rfl
  clear he hok
  rcases hr with h | h
  · rw [h] at HC ⊢
    clear h
    go_enter Try.func31, Try.ntmps31
    go_wp2_with fail
    with_reducible refine HC.out.mono ?_
    rintro e w' ⟨rfl, hb⟩
    have HB := Lib.hid hb
    clear hb
    go_wp2
    go_ret
    exact ⟨rfl, HB.out⟩
  · rw [h] at HC ⊢
    clear h
    go_enter Try.func31, Try.ntmps31
    go_wp2_with fail
    with_reducible refine HC.out.mono ?_
    rintro e w' ⟨rfl, hb⟩
    have HB := Lib.hid hb
    clear hb
    go_wp2
    go_ret
    exact ⟨rfl, HB.out⟩
theorem cright_any (c : Col) (w : World) :
    Calls Try.prog 24 #[.agg #[.int .u8 c.r, .int .u8 c.g, .int .u8 c.b, .int .u8 c.a]] w fun e w' => e = .returned (.bool (rightB c)) ∧ Below w.heap.size w w' := by
  have HK := Lib.hid (new_below w)
  unfold rightB
  by_cases h1 : c.r ≤ c.a
  · by_cases h2 : c.g ≤ c.a
    · by_cases h3 : c.b ≤ c.a
      · have e : (decide (c.r ≤ c.a) && decide (c.g ≤ c.a) && decide (c.b ≤ c.a)) = true := by simp [h1, h2, h3]
        rw [e]
        clear e
        go_enter Try.func24, Try.ntmps24
        go_wp2
        go_ret
        exact ⟨rfl, HK.out _⟩
      · have e : (decide (c.r ≤ c.a) && decide (c.g ≤ c.a) && decide (c.b ≤ c.a)) = false := by simp [h1, h2, h3]
        rw [e]
        clear e
        go_enter Try.func24, Try.ntmps24
        go_wp2
        go_ret
        exact ⟨rfl, HK.out _⟩
    · have e : (decide (c.r ≤ c.a) && decide (c.g ≤ c.a) && decide (c.b ≤ c.a)) = false := by simp [h1, h2]
      rw [e]
      clear e
      go_enter Try.func24, Try.ntmps24
      go_wp2
      go_ret
      exact ⟨rfl, HK.out _⟩
  · have e : (decide (c.r ≤ c.a) && decide (c.g ≤ c.a) && decide (c.b ≤ c.a)) = false := by simp [h1]
    rw [e]
    clear e
    go_enter Try.func24, Try.ntmps24
    go_wp2
    go_ret
    exact ⟨rfl, HK.out _⟩
end Go.Proofs.Ytnpcmoeleigpoaa
