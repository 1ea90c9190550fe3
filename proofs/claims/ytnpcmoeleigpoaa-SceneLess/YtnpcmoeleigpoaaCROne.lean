/-
  The contract of the reference's One: it is the program's.
-/
import Derived.Test.YtnpcmoeleigpoaaCOne
namespace Go.Proofs.Ytnpcmoeleigpoaa.C
open Go.RowKit
attribute [local go_sem ↓] Go.wp_at_zero Go.wp_at_succ

theorem ms_le (u : Int) : ms u 1 ≤ 7 ∧ ms u 2 ≤ 7 ∧ ms u 4 ≤ 7 := by
  unfold ms
  refine ⟨?_, ?_, ?_⟩ <;> simp <;> omega
def th (o : Int) : Bool := decide ((2 ≤ o ∧ o ≤ 8) ∨ o = 11 ∨ o = 13 ∨ o = 14)
set_option maxHeartbeats 1000000 in
theorem three_any (o : Int) (h0 : 0 ≤ o) (w : World) :
    Calls Try.prog 69 #[.int .u8 o] w fun e w' => e = .returned (.bool (th o)) ∧ w = w' := by
  rcases ops h0 with rfl | rfl | rfl | rfl | rfl | rfl | rfl | rfl | rfl | rfl | rfl | rfl | rfl | rfl | rfl | h
  all_goals try (go_enter Try.func69, Try.ntmps69; go_wp2; go_ret; exact ⟨rfl, rfl⟩)
  have e : th o = false := by unfold th; exact decide_eq_false (by omega)
  rw [e]
  have k0 : 2 ≤ o := by omega
  have k1 : ¬ o ≤ 8 := by omega
  have k11 : ¬ o = 11 := by omega
  have k13 : ¬ o = 13 := by omega
  have k14 : ¬ o = 14 := by omega
  have f11 : (o == 11) = false := by simpa using k11
  have f13 : (o == 13) = false := by simpa using k13
  have f14 : (o == 14) = false := by simpa using k14
  clear h h0 e
  go_enter Try.func69, Try.ntmps69
  go_wp2
  refine bodyPost_ret (v := .bool false) (by simp [results, Try.results69, go_sem, *]) rfl ⟨rfl, rfl⟩
set_option maxRecDepth 100000 in
set_option maxHeartbeats 8000000 in
theorem rone_any (x : In) (i n : Int) (hx : x.ok) (hi' : I64 i) (hn : I64 n) (w : World) :
    Calls Try.prog 55 #[.agg #[.int .u8 x.o, .int .u8 x.d, .int .u8 x.a, .int .u8 x.b, .int .i64 x.n], .int .i64 i, .int .i64 n] w fun e w' => e = .returned (.bool (oneB x i n)) ∧ Below w.heap.size w w' := by
  have HB := Lib.hid (new_below w (inB x))
  have HG := Lib.hid (inB_cell (new_at1 w (inB x)))
  have h0 := hx.o.1
  have b0 := hx.b.1
  have a0 := hx.a.1
  have d0 := hx.d.1
  clear hx
  obtain ⟨o, d, a, b, m⟩ := x
  dsimp only at *
  have HU := Lib.hid (three_any o h0)
  by_cases k0 : d ≤ 7
  case neg =>
    have e : oneB ⟨o, d, a, b, m⟩ i n = false := by unfold oneB; exact decide_eq_false (by have := ms_le (us o); dsimp only; omega)
    rw [e]
    clear e
    go_enter Try.func55, Try.ntmps55
    go_wp2_with fail
    obtain ⟨c0, c1, c2, c3, c4⟩ := HG.out
    go_wp2_with fail
    go_ret
    exact ⟨rfl, HB.out⟩
  by_cases k1 : a ≤ 7
  case neg =>
    have e : oneB ⟨o, d, a, b, m⟩ i n = false := by unfold oneB; exact decide_eq_false (by have := ms_le (us o); dsimp only; omega)
    rw [e]
    clear e
    go_enter Try.func55, Try.ntmps55
    go_wp2_with fail
    obtain ⟨c0, c1, c2, c3, c4⟩ := HG.out
    go_wp2_with fail
    go_ret
    exact ⟨rfl, HB.out⟩
  by_cases k2 : b ≤ 7
  case neg =>
    have e : oneB ⟨o, d, a, b, m⟩ i n = false := by unfold oneB; exact decide_eq_false (by have := ms_le (us o); dsimp only; omega)
    rw [e]
    clear e
    go_enter Try.func55, Try.ntmps55
    go_wp2_with fail
    obtain ⟨c0, c1, c2, c3, c4⟩ := HG.out
    go_wp2_with fail
    go_ret
    exact ⟨rfl, HB.out⟩
  by_cases k3 : 0 ≤ i
  case neg =>
    have e : oneB ⟨o, d, a, b, m⟩ i n = false := by unfold oneB; exact decide_eq_false (by have := ms_le (us o); dsimp only; omega)
    rw [e]
    clear e
    go_enter Try.func55, Try.ntmps55
    go_wp2_with fail
    obtain ⟨c0, c1, c2, c3, c4⟩ := HG.out
    go_wp2_with fail
    go_ret
    exact ⟨rfl, HB.out⟩
  by_cases k4 : i < n
  case neg =>
    have e : oneB ⟨o, d, a, b, m⟩ i n = false := by unfold oneB; exact decide_eq_false (by have := ms_le (us o); dsimp only; omega)
    rw [e]
    clear e
    go_enter Try.func55, Try.ntmps55
    go_wp2_with fail
    obtain ⟨c0, c1, c2, c3, c4⟩ := HG.out
    go_wp2_with fail
    go_ret
    exact ⟨rfl, HB.out⟩
  obtain ⟨k, hk⟩ : ∃ k, n - i = k := ⟨_, rfl⟩
  obtain ⟨j, hj⟩ : ∃ j, k - 1 = j := ⟨_, rfl⟩
  have g1 : IntKind.i64.wrap (n - i) = k := by rw [hk, IntKind.wrap_i64]; omega
  have g2 : IntKind.i64.wrap (k - 1) = j := by rw [hj, IntKind.wrap_i64]; omega
  have e0 : n - i - 1 = j := by omega
  replace e0 := Lib.hid e0
  replace hi' := Lib.hid hi'
  replace hn := Lib.hid hn
  replace hk := Lib.hid hk
  clear hj
  obtain ⟨r, hr⟩ : ∃ r, oneB ⟨o, d, a, b, m⟩ i n = r := ⟨_, rfl⟩
  rw [hr]
  replace hr := Lib.hid hr
  go_enter Try.func55, Try.ntmps55
  go_wp2_with fail
  obtain ⟨c0, c1, c2, c3, c4⟩ := HG.out
  go_wp2_with fail
  obtain ⟨T, hT⟩ : ∃ T, th o = T := ⟨_, rfl⟩
  rw [hT] at HU
  unfold th at hT
  replace HB := Lib.hid (show Below w.heap.size w (w.alloc (.cells #[.int .u8 o, .int .u8 d, .int .u8 a, .int .u8 b, .int .i64 m] 57)) from HB.out)
  clear HG
  generalize w.alloc (.cells #[.int .u8 o, .int .u8 d, .int .u8 a, .int .u8 b, .int .i64 m] 57) = X at *
  with_reducible refine (HU.out _).mono ?_
  rintro e w' ⟨rfl, rfl⟩
  clear HU
  rcases ops h0 with rfl | rfl | rfl | rfl | rfl | rfl | rfl | rfl | rfl | rfl | rfl | rfl | rfl | rfl | rfl | h15
  · obtain rfl : false = T := hT
    by_cases q0 : b = 0
    case neg =>
      obtain rfl : false = r := by rw [← hr.out]; unfold oneB; rw [e0.out]; symm; exact decide_eq_false (by simp [us, ms, lo, hi] <;> omega)
      go_wp2_with fail
      first | (go_ret; exact ⟨rfl, HB.out⟩) | exact bodyPost_ret (v := .bool false) (by simp [results, Try.results55, go_sem]; omega) rfl ⟨rfl, HB.out⟩
    by_cases q1 : a = 0
    case neg =>
      obtain rfl : false = r := by rw [← hr.out]; unfold oneB; rw [e0.out]; symm; exact decide_eq_false (by simp [us, ms, lo, hi] <;> omega)
      go_wp2_with fail
      first | (go_ret; exact ⟨rfl, HB.out⟩) | exact bodyPost_ret (v := .bool false) (by simp [results, Try.results55, go_sem]; omega) rfl ⟨rfl, HB.out⟩
    by_cases q2 : -2147483648 ≤ m
    case neg =>
      obtain rfl : false = r := by rw [← hr.out]; unfold oneB; rw [e0.out]; symm; exact decide_eq_false (by simp [us, ms, lo, hi] <;> omega)
      go_wp2_with fail
      first | (go_ret; exact ⟨rfl, HB.out⟩) | exact bodyPost_ret (v := .bool false) (by simp [results, Try.results55, go_sem]; omega) rfl ⟨rfl, HB.out⟩
    by_cases q3 : m ≤ 2147483647
    case neg =>
      obtain rfl : false = r := by rw [← hr.out]; unfold oneB; rw [e0.out]; symm; exact decide_eq_false (by simp [us, ms, lo, hi] <;> omega)
      go_wp2_with fail
      first | (go_ret; exact ⟨rfl, HB.out⟩) | exact bodyPost_ret (v := .bool false) (by simp [results, Try.results55, go_sem]; omega) rfl ⟨rfl, HB.out⟩
    skip -- q0
    skip -- q1
    obtain rfl : true = r := by rw [← hr.out]; unfold oneB; rw [e0.out]; symm; exact decide_eq_true (by simp [us, ms, lo, hi] <;> omega)
    go_wp2_with fail
    first | (go_ret; exact ⟨rfl, HB.out⟩) | exact bodyPost_ret (v := .bool true) (by simp [results, Try.results55, go_sem]; omega) rfl ⟨rfl, HB.out⟩
  · obtain rfl : false = T := hT
    by_cases q0 : b = 0
    case neg =>
      obtain rfl : false = r := by rw [← hr.out]; unfold oneB; rw [e0.out]; symm; exact decide_eq_false (by simp [us, ms, lo, hi] <;> omega)
      go_wp2_with fail
      first | (go_ret; exact ⟨rfl, HB.out⟩) | exact bodyPost_ret (v := .bool false) (by simp [results, Try.results55, go_sem]; omega) rfl ⟨rfl, HB.out⟩
    by_cases q1 : m = 0
    case neg =>
      obtain rfl : false = r := by rw [← hr.out]; unfold oneB; rw [e0.out]; symm; exact decide_eq_false (by simp [us, ms, lo, hi] <;> omega)
      go_wp2_with fail
      first | (go_ret; exact ⟨rfl, HB.out⟩) | exact bodyPost_ret (v := .bool false) (by simp [results, Try.results55, go_sem]; omega) rfl ⟨rfl, HB.out⟩
    skip -- q0
    skip -- q1
    obtain rfl : true = r := by rw [← hr.out]; unfold oneB; rw [e0.out]; symm; exact decide_eq_true (by simp [us, ms, lo, hi] <;> omega)
    go_wp2_with fail
    first | (go_ret; exact ⟨rfl, HB.out⟩) | exact bodyPost_ret (v := .bool true) (by simp [results, Try.results55, go_sem]; omega) rfl ⟨rfl, HB.out⟩
  · obtain rfl : true = T := hT
    by_cases q0 : m = 0
    case neg =>
      obtain rfl : false = r := by rw [← hr.out]; unfold oneB; rw [e0.out]; symm; exact decide_eq_false (by simp [us, ms, lo, hi] <;> omega)
      go_wp2_with fail
      first | (go_ret; exact ⟨rfl, HB.out⟩) | exact bodyPost_ret (v := .bool false) (by simp [results, Try.results55, go_sem]; omega) rfl ⟨rfl, HB.out⟩
    skip -- q0
    obtain rfl : true = r := by rw [← hr.out]; unfold oneB; rw [e0.out]; symm; exact decide_eq_true (by simp [us, ms, lo, hi] <;> omega)
    go_wp2_with fail
    first | (go_ret; exact ⟨rfl, HB.out⟩) | exact bodyPost_ret (v := .bool true) (by simp [results, Try.results55, go_sem]; omega) rfl ⟨rfl, HB.out⟩
  · obtain rfl : true = T := hT
    by_cases q0 : m = 0
    case neg =>
      obtain rfl : false = r := by rw [← hr.out]; unfold oneB; rw [e0.out]; symm; exact decide_eq_false (by simp [us, ms, lo, hi] <;> omega)
      go_wp2_with fail
      first | (go_ret; exact ⟨rfl, HB.out⟩) | exact bodyPost_ret (v := .bool false) (by simp [results, Try.results55, go_sem]; omega) rfl ⟨rfl, HB.out⟩
    skip -- q0
    obtain rfl : true = r := by rw [← hr.out]; unfold oneB; rw [e0.out]; symm; exact decide_eq_true (by simp [us, ms, lo, hi] <;> omega)
    go_wp2_with fail
    first | (go_ret; exact ⟨rfl, HB.out⟩) | exact bodyPost_ret (v := .bool true) (by simp [results, Try.results55, go_sem]; omega) rfl ⟨rfl, HB.out⟩
  · obtain rfl : true = T := hT
    by_cases q0 : m = 0
    case neg =>
      obtain rfl : false = r := by rw [← hr.out]; unfold oneB; rw [e0.out]; symm; exact decide_eq_false (by simp [us, ms, lo, hi] <;> omega)
      go_wp2_with fail
      first | (go_ret; exact ⟨rfl, HB.out⟩) | exact bodyPost_ret (v := .bool false) (by simp [results, Try.results55, go_sem]; omega) rfl ⟨rfl, HB.out⟩
    skip -- q0
    obtain rfl : true = r := by rw [← hr.out]; unfold oneB; rw [e0.out]; symm; exact decide_eq_true (by simp [us, ms, lo, hi] <;> omega)
    go_wp2_with fail
    first | (go_ret; exact ⟨rfl, HB.out⟩) | exact bodyPost_ret (v := .bool true) (by simp [results, Try.results55, go_sem]; omega) rfl ⟨rfl, HB.out⟩
  · obtain rfl : true = T := hT
    by_cases q0 : m = 0
    case neg =>
      obtain rfl : false = r := by rw [← hr.out]; unfold oneB; rw [e0.out]; symm; exact decide_eq_false (by simp [us, ms, lo, hi] <;> omega)
      go_wp2_with fail
      first | (go_ret; exact ⟨rfl, HB.out⟩) | exact bodyPost_ret (v := .bool false) (by simp [results, Try.results55, go_sem]; omega) rfl ⟨rfl, HB.out⟩
    skip -- q0
    obtain rfl : true = r := by rw [← hr.out]; unfold oneB; rw [e0.out]; symm; exact decide_eq_true (by simp [us, ms, lo, hi] <;> omega)
    go_wp2_with fail
    first | (go_ret; exact ⟨rfl, HB.out⟩) | exact bodyPost_ret (v := .bool true) (by simp [results, Try.results55, go_sem]; omega) rfl ⟨rfl, HB.out⟩
  · obtain rfl : true = T := hT
    by_cases q0 : m = 0
    case neg =>
      obtain rfl : false = r := by rw [← hr.out]; unfold oneB; rw [e0.out]; symm; exact decide_eq_false (by simp [us, ms, lo, hi] <;> omega)
      go_wp2_with fail
      first | (go_ret; exact ⟨rfl, HB.out⟩) | exact bodyPost_ret (v := .bool false) (by simp [results, Try.results55, go_sem]; omega) rfl ⟨rfl, HB.out⟩
    skip -- q0
    obtain rfl : true = r := by rw [← hr.out]; unfold oneB; rw [e0.out]; symm; exact decide_eq_true (by simp [us, ms, lo, hi] <;> omega)
    go_wp2_with fail
    first | (go_ret; exact ⟨rfl, HB.out⟩) | exact bodyPost_ret (v := .bool true) (by simp [results, Try.results55, go_sem]; omega) rfl ⟨rfl, HB.out⟩
  · obtain rfl : true = T := hT
    by_cases q0 : m = 0
    case neg =>
      obtain rfl : false = r := by rw [← hr.out]; unfold oneB; rw [e0.out]; symm; exact decide_eq_false (by simp [us, ms, lo, hi] <;> omega)
      go_wp2_with fail
      first | (go_ret; exact ⟨rfl, HB.out⟩) | exact bodyPost_ret (v := .bool false) (by simp [results, Try.results55, go_sem]; omega) rfl ⟨rfl, HB.out⟩
    skip -- q0
    obtain rfl : true = r := by rw [← hr.out]; unfold oneB; rw [e0.out]; symm; exact decide_eq_true (by simp [us, ms, lo, hi] <;> omega)
    go_wp2_with fail
    first | (go_ret; exact ⟨rfl, HB.out⟩) | exact bodyPost_ret (v := .bool true) (by simp [results, Try.results55, go_sem]; omega) rfl ⟨rfl, HB.out⟩
  · obtain rfl : true = T := hT
    by_cases q0 : m = 0
    case neg =>
      obtain rfl : false = r := by rw [← hr.out]; unfold oneB; rw [e0.out]; symm; exact decide_eq_false (by simp [us, ms, lo, hi] <;> omega)
      go_wp2_with fail
      first | (go_ret; exact ⟨rfl, HB.out⟩) | exact bodyPost_ret (v := .bool false) (by simp [results, Try.results55, go_sem]; omega) rfl ⟨rfl, HB.out⟩
    skip -- q0
    obtain rfl : true = r := by rw [← hr.out]; unfold oneB; rw [e0.out]; symm; exact decide_eq_true (by simp [us, ms, lo, hi] <;> omega)
    go_wp2_with fail
    first | (go_ret; exact ⟨rfl, HB.out⟩) | exact bodyPost_ret (v := .bool true) (by simp [results, Try.results55, go_sem]; omega) rfl ⟨rfl, HB.out⟩
  · obtain rfl : false = T := hT
    by_cases q0 : b = 0
    case neg =>
      obtain rfl : false = r := by rw [← hr.out]; unfold oneB; rw [e0.out]; symm; exact decide_eq_false (by simp [us, ms, lo, hi] <;> omega)
      go_wp2_with fail
      first | (go_ret; exact ⟨rfl, HB.out⟩) | exact bodyPost_ret (v := .bool false) (by simp [results, Try.results55, go_sem]; omega) rfl ⟨rfl, HB.out⟩
    by_cases q1 : 0 ≤ m
    case neg =>
      obtain rfl : false = r := by rw [← hr.out]; unfold oneB; rw [e0.out]; symm; exact decide_eq_false (by simp [us, ms, lo, hi] <;> omega)
      go_wp2_with fail
      first | (go_ret; exact ⟨rfl, HB.out⟩) | exact bodyPost_ret (v := .bool false) (by simp [results, Try.results55, go_sem]; omega) rfl ⟨rfl, HB.out⟩
    by_cases q2 : m ≤ 31
    case neg =>
      obtain rfl : false = r := by rw [← hr.out]; unfold oneB; rw [e0.out]; symm; exact decide_eq_false (by simp [us, ms, lo, hi] <;> omega)
      go_wp2_with fail
      first | (go_ret; exact ⟨rfl, HB.out⟩) | exact bodyPost_ret (v := .bool false) (by simp [results, Try.results55, go_sem]; omega) rfl ⟨rfl, HB.out⟩
    skip -- q0
    obtain rfl : true = r := by rw [← hr.out]; unfold oneB; rw [e0.out]; symm; exact decide_eq_true (by simp [us, ms, lo, hi] <;> omega)
    go_wp2_with fail
    first | (go_ret; exact ⟨rfl, HB.out⟩) | exact bodyPost_ret (v := .bool true) (by simp [results, Try.results55, go_sem]; omega) rfl ⟨rfl, HB.out⟩
  · obtain rfl : false = T := hT
    by_cases q0 : b = 0
    case neg =>
      obtain rfl : false = r := by rw [← hr.out]; unfold oneB; rw [e0.out]; symm; exact decide_eq_false (by simp [us, ms, lo, hi] <;> omega)
      go_wp2_with fail
      first | (go_ret; exact ⟨rfl, HB.out⟩) | exact bodyPost_ret (v := .bool false) (by simp [results, Try.results55, go_sem]; omega) rfl ⟨rfl, HB.out⟩
    by_cases q1 : 0 ≤ m
    case neg =>
      obtain rfl : false = r := by rw [← hr.out]; unfold oneB; rw [e0.out]; symm; exact decide_eq_false (by simp [us, ms, lo, hi] <;> omega)
      go_wp2_with fail
      first | (go_ret; exact ⟨rfl, HB.out⟩) | exact bodyPost_ret (v := .bool false) (by simp [results, Try.results55, go_sem]; omega) rfl ⟨rfl, HB.out⟩
    by_cases q2 : m ≤ 31
    case neg =>
      obtain rfl : false = r := by rw [← hr.out]; unfold oneB; rw [e0.out]; symm; exact decide_eq_false (by simp [us, ms, lo, hi] <;> omega)
      go_wp2_with fail
      first | (go_ret; exact ⟨rfl, HB.out⟩) | exact bodyPost_ret (v := .bool false) (by simp [results, Try.results55, go_sem]; omega) rfl ⟨rfl, HB.out⟩
    skip -- q0
    obtain rfl : true = r := by rw [← hr.out]; unfold oneB; rw [e0.out]; symm; exact decide_eq_true (by simp [us, ms, lo, hi] <;> omega)
    go_wp2_with fail
    first | (go_ret; exact ⟨rfl, HB.out⟩) | exact bodyPost_ret (v := .bool true) (by simp [results, Try.results55, go_sem]; omega) rfl ⟨rfl, HB.out⟩
  · obtain rfl : true = T := hT
    by_cases q0 : m = 0
    case neg =>
      obtain rfl : false = r := by rw [← hr.out]; unfold oneB; rw [e0.out]; symm; exact decide_eq_false (by simp [us, ms, lo, hi] <;> omega)
      go_wp2_with fail
      first | (go_ret; exact ⟨rfl, HB.out⟩) | exact bodyPost_ret (v := .bool false) (by simp [results, Try.results55, go_sem]; omega) rfl ⟨rfl, HB.out⟩
    skip -- q0
    obtain rfl : true = r := by rw [← hr.out]; unfold oneB; rw [e0.out]; symm; exact decide_eq_true (by simp [us, ms, lo, hi] <;> omega)
    go_wp2_with fail
    first | (go_ret; exact ⟨rfl, HB.out⟩) | exact bodyPost_ret (v := .bool true) (by simp [results, Try.results55, go_sem]; omega) rfl ⟨rfl, HB.out⟩
  · obtain rfl : false = T := hT
    by_cases q0 : b = 0
    case neg =>
      obtain rfl : false = r := by rw [← hr.out]; unfold oneB; rw [e0.out]; symm; exact decide_eq_false (by simp [us, ms, lo, hi] <;> omega)
      go_wp2_with fail
      first | (go_ret; exact ⟨rfl, HB.out⟩) | exact bodyPost_ret (v := .bool false) (by simp [results, Try.results55, go_sem]; omega) rfl ⟨rfl, HB.out⟩
    by_cases q1 : d = 0
    case neg =>
      obtain rfl : false = r := by rw [← hr.out]; unfold oneB; rw [e0.out]; symm; exact decide_eq_false (by simp [us, ms, lo, hi] <;> omega)
      go_wp2_with fail
      first | (go_ret; exact ⟨rfl, HB.out⟩) | exact bodyPost_ret (v := .bool false) (by simp [results, Try.results55, go_sem]; omega) rfl ⟨rfl, HB.out⟩
    by_cases q2 : 0 ≤ m
    case neg =>
      obtain rfl : false = r := by rw [← hr.out]; unfold oneB; rw [e0.out]; symm; exact decide_eq_false (by simp [us, ms, lo, hi] <;> omega)
      go_wp2_with fail
      first | (go_ret; exact ⟨rfl, HB.out⟩) | exact bodyPost_ret (v := .bool false) (by simp [results, Try.results55, go_sem]; omega) rfl ⟨rfl, HB.out⟩
    by_cases q3 : m ≤ j
    case neg =>
      obtain rfl : false = r := by rw [← hr.out]; unfold oneB; rw [e0.out]; symm; exact decide_eq_false (by simp [us, ms, lo, hi] <;> omega)
      go_wp2_with fail
      first | (go_ret; exact ⟨rfl, HB.out⟩) | exact bodyPost_ret (v := .bool false) (by simp [results, Try.results55, go_sem]; omega) rfl ⟨rfl, HB.out⟩
    skip -- q0
    skip -- q1
    obtain rfl : true = r := by rw [← hr.out]; unfold oneB; rw [e0.out]; symm; exact decide_eq_true (by simp [us, ms, lo, hi] <;> omega)
    go_wp2_with fail
    first | (go_ret; exact ⟨rfl, HB.out⟩) | exact bodyPost_ret (v := .bool true) (by simp [results, Try.results55, go_sem]; omega) rfl ⟨rfl, HB.out⟩
  · obtain rfl : true = T := hT
    by_cases q0 : m = 0
    case neg =>
      obtain rfl : false = r := by rw [← hr.out]; unfold oneB; rw [e0.out]; symm; exact decide_eq_false (by simp [us, ms, lo, hi] <;> omega)
      go_wp2_with fail
      first | (go_ret; exact ⟨rfl, HB.out⟩) | exact bodyPost_ret (v := .bool false) (by simp [results, Try.results55, go_sem]; omega) rfl ⟨rfl, HB.out⟩
    by_cases q1 : d ≤ 4
    case neg =>
      obtain rfl : false = r := by rw [← hr.out]; unfold oneB; rw [e0.out]; symm; exact decide_eq_false (by simp [us, ms, lo, hi] <;> omega)
      go_wp2_with fail
      first | (go_ret; exact ⟨rfl, HB.out⟩) | exact bodyPost_ret (v := .bool false) (by simp [results, Try.results55, go_sem]; omega) rfl ⟨rfl, HB.out⟩
    skip -- q0
    obtain rfl : true = r := by rw [← hr.out]; unfold oneB; rw [e0.out]; symm; exact decide_eq_true (by simp [us, ms, lo, hi] <;> omega)
    go_wp2_with fail
    first | (go_ret; exact ⟨rfl, HB.out⟩) | exact bodyPost_ret (v := .bool true) (by simp [results, Try.results55, go_sem]; omega) rfl ⟨rfl, HB.out⟩
  · obtain rfl : true = T := hT
    by_cases q0 : m = 0
    case neg =>
      obtain rfl : false = r := by rw [← hr.out]; unfold oneB; rw [e0.out]; symm; exact decide_eq_false (by simp [us, ms, lo, hi] <;> omega)
      go_wp2_with fail
      first | (go_ret; exact ⟨rfl, HB.out⟩) | exact bodyPost_ret (v := .bool false) (by simp [results, Try.results55, go_sem]; omega) rfl ⟨rfl, HB.out⟩
    by_cases q1 : d ≤ 4
    case neg =>
      obtain rfl : false = r := by rw [← hr.out]; unfold oneB; rw [e0.out]; symm; exact decide_eq_false (by simp [us, ms, lo, hi] <;> omega)
      go_wp2_with fail
      first | (go_ret; exact ⟨rfl, HB.out⟩) | exact bodyPost_ret (v := .bool false) (by simp [results, Try.results55, go_sem]; omega) rfl ⟨rfl, HB.out⟩
    skip -- q0
    obtain rfl : true = r := by rw [← hr.out]; unfold oneB; rw [e0.out]; symm; exact decide_eq_true (by simp [us, ms, lo, hi] <;> omega)
    go_wp2_with fail
    first | (go_ret; exact ⟨rfl, HB.out⟩) | exact bodyPost_ret (v := .bool true) (by simp [results, Try.results55, go_sem]; omega) rfl ⟨rfl, HB.out⟩
  · obtain rfl : false = T := by rw [← hT]; symm; exact decide_eq_false (by omega)
    obtain rfl : false = r := by
      rw [← hr.out]
      symm
      have e : us o = 0 := by unfold us; rw [if_neg (by omega), if_neg (by omega), if_neg (by omega), if_neg (by omega), if_neg (by omega)]
      unfold oneB
      exact decide_eq_false (by dsimp only; omega)
    have r0 : ¬ o = 0 := by omega
    have r1 : ¬ o = 1 := by omega
    have r9 : ¬ o = 9 := by omega
    have r10 : ¬ o = 10 := by omega
    have r12 : ¬ o = 12 := by omega
    clear h15 h0
    by_cases q : b = 0
    · go_wp2_with fail
      go_ret
      exact ⟨rfl, HB.out⟩
    · go_wp2_with fail
      go_ret
      exact ⟨rfl, HB.out⟩
end Go.Proofs.Ytnpcmoeleigpoaa.C
