/-
  The contract of the reference's One: it is the program's.
-/
import Derived.Test.YtfmmfaeognoleaaGreatM1
import Derived.Lib.MinMax
namespace Go.Proofs.YtfmmfaeognoleaaGreat.C
open Go.RowKit
attribute [local go_sem ↓] Go.wp_at_zero Go.wp_at_succ

theorem ms_le (u : Int) : ms u 1 ≤ 7 ∧ ms u 2 ≤ 7 ∧ ms u 4 ≤ 7 := by
  unfold ms
  refine ⟨?_, ?_, ?_⟩ <;> simp <;> omega
def th (o : Int) : Bool := decide ((2 ≤ o ∧ o ≤ 8) ∨ o = 11 ∨ o = 13 ∨ o = 14)
set_option maxHeartbeats 1000000 in
theorem three_any (o : Int) (h0 : 0 ≤ o) (w : World) :
    Calls Tryz.prog 111 #[.int .u8 o] w fun e w' => e = .returned (.bool (th o)) ∧ w = w' := by
  rcases ops h0 with rfl | rfl | rfl | rfl | rfl | rfl | rfl | rfl | rfl | rfl | rfl | rfl | rfl | rfl | rfl | h
  all_goals try (go_enter Tryz.func111, Tryz.ntmps111; go_wp2; go_ret; exact ⟨rfl, rfl⟩)
  have e : th o = false := by unfold th; exact decide_eq_false (by omega)
  rw [e]
  have k0 : 2 ≤ o := by omega
  have k1 : ¬ o ≤ 8 := by omega
  have k11 : ¬ o = 11 := by omega
  have k13 : ¬ o = 13 := by omega
  have k14 : ¬ o = 14 := by omega
  have f11 : (o == 11) = false := by simpa using k11
  have f13 : (o == 13) = false := by simpa using k13
  have f14 : (o == 14) = false := by simpa using k14
  clear h h0 e
  go_enter Tryz.func111, Tryz.ntmps111
  go_wp2
  refine bodyPost_ret (v := .bool false) (by simp [results, Tryz.results111, go_sem, *]) rfl ⟨rfl, rfl⟩
set_option maxRecDepth 100000 in
set_option maxHeartbeats 8000000 in
theorem rone_any (x : In) (i n : Int) (hx : x.ok) (hi' : I64 i) (hn : I64 n) (w : World) :
    Calls Tryz.prog 77 #[.agg #[.int .u8 x.o, .int .u8 x.d, .int .u8 x.a, .int .u8 x.b, .int .i64 x.n], .int .i64 i, .int .i64 n] w fun e w' => e = .returned (.bool (oneB x i n)) ∧ Below w.heap.size w w' := by
  have HB := Lib.hid (new_below w (inB x))
  have HG := Lib.hid (inB_cell (new_at1 w (inB x)))
  have h0 := hx.o.1
  have b0 := hx.b.1
  have a0 := hx.a.1
  have d0 := hx.d.1
  clear hx
  obtain ⟨o, d, a, b, m⟩ := x
  dsimp only at *
  have HU := Lib.hid (three_any o h0)
  by_cases k0 : d ≤ 7
  case neg =>
    have e : oneB ⟨o, d, a, b, m⟩ i n = false := by unfold oneB; exact decide_eq_false (by have := ms_le (us o); dsimp only; omega)
    rw [e]
    clear e
    go_enter Tryz.func77, Tryz.ntmps77
    go_wp2_with fail
    obtain ⟨c0, c1, c2, c3, c4⟩ := HG.out
    go_wp2_with fail
    go_ret
    exact ⟨rfl, HB.out⟩
  by_cases k1 : a ≤ 7
  case neg =>
    have e : oneB ⟨o, d, a, b, m⟩ i n = false := by unfold oneB; exact decide_eq_false (by have := ms_le (us o); dsimp only; omega)
    rw [e]
    clear e
    go_enter Tryz.func77, Tryz.ntmps77
    go_wp2_with fail
    obtain ⟨c0, c1, c2, c3, c4⟩ := HG.out
    go_wp2_with fail
    go_ret
    exact ⟨rfl, HB.out⟩
  by_cases k2 : b ≤ 7
  case neg =>
    have e : oneB ⟨o, d, a, b, m⟩ i n = false := by unfold oneB; exact decide_eq_false (by have := ms_le (us o); dsimp only; omega)
    rw [e]
    clear e
    go_enter Tryz.func77, Tryz.ntmps77
    go_wp2_with fail
    obtain ⟨c0, c1, c2, c3, c4⟩ := HG.out
    go_wp2_with fail
    go_ret
    exact ⟨rfl, HB.out⟩
  by_cases k3 : 0 ≤ i
  case neg =>
    have e : oneB ⟨o, d, a, b, m⟩ i n = false := by unfold oneB; exact decide_eq_false (by have := ms_le (us o); dsimp only; omega)
    rw [e]
    clear e
    go_enter Tryz.func77, Tryz.ntmps77
    go_wp2_with fail
    obtain ⟨c0, c1, c2, c3, c4⟩ := HG.out
    go_wp2_with fail
    go_ret
    exact ⟨rfl, HB.out⟩
  by_cases k4 : i < n
  case neg =>
    have e : oneB ⟨o, d, a, b, m⟩ i n = false := by unfold oneB; exact decide_eq_false (by have := ms_le (us o); dsimp only; omega)
    rw [e]
    clear e
    go_enter Tryz.func77, Tryz.ntmps77
    go_wp2_with fail
    obtain ⟨c0, c1, c2, c3, c4⟩ := HG.out
    go_wp2_with fail
    go_ret
    exact ⟨rfl, HB.out⟩
  obtain ⟨k, hk⟩ : ∃ k, n - i = k := ⟨_, rfl⟩
  obtain ⟨j, hj⟩ : ∃ j, k - 1 = j := ⟨_, rfl⟩
  have g1 : IntKind.i64.wrap (n - i) = k := by rw [hk, IntKind.wrap_i64]; omega
  have g2 : IntKind.i64.wrap (k - 1) = j := by rw [hj, IntKind.wrap_i64]; omega
  have e0 : n - i - 1 = j := by omega
  replace e0 := Lib.hid e0
  replace hi' := Lib.hid hi'
  replace hn := Lib.hid hn
  replace hk := Lib.hid hk
  clear hj
  obtain ⟨r, hr⟩ : ∃ r, oneB ⟨o, d, a, b, m⟩ i n = r := ⟨_, rfl⟩
  rw [hr]
  replace hr := Lib.hid hr
  go_enter Tryz.func77, Tryz.ntmps77
  go_wp2_with fail
  obtain ⟨c0, c1, c2, c3, c4⟩ := HG.out
  go_wp2_with fail
  obtain ⟨T, hT⟩ : ∃ T, th o = T := ⟨_, rfl⟩
  rw [hT] at HU
  unfold th at hT
  replace HB := Lib.hid (show Below w.heap.size w (w.alloc (.cells #[.int .u8 o, .int .u8 d, .int .u8 a, .int .u8 b, .int .i64 m] 76)) from HB.out)
  clear HG
  generalize w.alloc (.cells #[.int .u8 o, .int .u8 d, .int .u8 a, .int .u8 b, .int .i64 m] 76) = X at *
  with_reducible refine (HU.out _).mono ?_
  rintro e w' ⟨rfl, rfl⟩
  clear HU
  rcases ops h0 with rfl | rfl | rfl | rfl | rfl | rfl | rfl | rfl | rfl | rfl | rfl | rfl | rfl | rfl | rfl | h15
  · obtain rfl : false = T := hT
    by_cases q0 : b = 0
    case neg =>
      obtain rfl : false = r := by rw [← hr.out]; unfold oneB; rw [e0.out]; symm; exact decide_eq_false (by simp [us, ms, lo, hi] <;> omega)
      go_wp2_with fail
      first | (go_ret; exact ⟨rfl, HB.out⟩) | exact bodyPost_ret (v := .bool false) (by simp [results, Tryz.results77, go_sem]; omega) rfl ⟨rfl, HB.out⟩
    by_cases q1 : a = 0
    case neg =>
      obtain rfl : false = r := by rw [← hr.out]; unfold oneB; rw [e0.out]; symm; exact decide_eq_false (by simp [us, ms, lo, hi] <;> omega)
      go_wp2_with fail
      first | (go_ret; exact ⟨rfl, HB.out⟩) | exact bodyPost_ret (v := .bool false) (by simp [results, Tryz.results77, go_sem]; omega) rfl ⟨rfl, HB.out⟩
    by_cases q2 : -2147483648 ≤ m
    case neg =>
      obtain rfl : false = r := by rw [← hr.out]; unfold oneB; rw [e0.out]; symm; exact decide_eq_false (by simp [us, ms, lo, hi] <;> omega)
      go_wp2_with fail
      first | (go_ret; exact ⟨rfl, HB.out⟩) | exact bodyPost_ret (v := .bool false) (by simp [results, Tryz.results77, go_sem]; omega) rfl ⟨rfl, HB.out⟩
    by_cases q3 : m ≤ 2147483647
    case neg =>
      obtain rfl : false = r := by rw [← hr.out]; unfold oneB; rw [e0.out]; symm; exact decide_eq_false (by simp [us, ms, lo, hi] <;> omega)
      go_wp2_with fail
      first | (go_ret; exact ⟨rfl, HB.out⟩) | exact bodyPost_ret (v := .bool false) (by simp [results, Tryz.results77, go_sem]; omega) rfl ⟨rfl, HB.out⟩
    skip -- q0
    skip -- q1
    obtain rfl : true = r := by rw [← hr.out]; unfold oneB; rw [e0.out]; symm; exact decide_eq_true (by simp [us, ms, lo, hi] <;> omega)
    go_wp2_with fail
    first | (go_ret; exact ⟨rfl, HB.out⟩) | exact bodyPost_ret (v := .bool true) (by simp [results, Tryz.results77, go_sem]; omega) rfl ⟨rfl, HB.out⟩
  · obtain rfl : false = T := hT
    by_cases q0 : b = 0
    case neg =>
      obtain rfl : false = r := by rw [← hr.out]; unfold oneB; rw [e0.out]; symm; exact decide_eq_false (by simp [us, ms, lo, hi] <;> omega)
      go_wp2_with fail
      first | (go_ret; exact ⟨rfl, HB.out⟩) | exact bodyPost_ret (v := .bool false) (by simp [results, Tryz.results77, go_sem]; omega) rfl ⟨rfl, HB.out⟩
    by_cases q1 : m = 0
    case neg =>
      obtain rfl : false = r := by rw [← hr.out]; unfold oneB; rw [e0.out]; symm; exact decide_eq_false (by simp [us, ms, lo, hi] <;> omega)
      go_wp2_with fail
      first | (go_ret; exact ⟨rfl, HB.out⟩) | exact bodyPost_ret (v := .bool false) (by simp [results, Tryz.results77, go_sem]; omega) rfl ⟨rfl, HB.out⟩
    skip -- q0
    skip -- q1
    obtain rfl : true = r := by rw [← hr.out]; unfold oneB; rw [e0.out]; symm; exact decide_eq_true (by simp [us, ms, lo, hi] <;> omega)
    go_wp2_with fail
    first | (go_ret; exact ⟨rfl, HB.out⟩) | exact bodyPost_ret (v := .bool true) (by simp [results, Tryz.results77, go_sem]; omega) rfl ⟨rfl, HB.out⟩
  · obtain rfl : true = T := hT
    by_cases q0 : m = 0
    case neg =>
      obtain rfl : false = r := by rw [← hr.out]; unfold oneB; rw [e0.out]; symm; exact decide_eq_false (by simp [us, ms, lo, hi] <;> omega)
      go_wp2_with fail
      first | (go_ret; exact ⟨rfl, HB.out⟩) | exact bodyPost_ret (v := .bool false) (by simp [results, Tryz.results77, go_sem]; omega) rfl ⟨rfl, HB.out⟩
    skip -- q0
    obtain rfl : true = r := by rw [← hr.out]; unfold oneB; rw [e0.out]; symm; exact decide_eq_true (by simp [us, ms, lo, hi] <;> omega)
    go_wp2_with fail
    first | (go_ret; exact ⟨rfl, HB.out⟩) | exact bodyPost_ret (v := .bool true) (by simp [results, Tryz.results77, go_sem]; omega) rfl ⟨rfl, HB.out⟩
  · obtain rfl : true = T := hT
    by_cases q0 : m = 0
    case neg =>
      obtain rfl : false = r := by rw [← hr.out]; unfold oneB; rw [e0.out]; symm; exact decide_eq_false (by simp [us, ms, lo, hi] <;> omega)
      go_wp2_with fail
      first | (go_ret; exact ⟨rfl, HB.out⟩) | exact bodyPost_ret (v := .bool false) (by simp [results, Tryz.results77, go_sem]; omega) rfl ⟨rfl, HB.out⟩
    skip -- q0
    obtain rfl : true = r := by rw [← hr.out]; unfold oneB; rw [e0.out]; symm; exact decide_eq_true (by simp [us, ms, lo, hi] <;> omega)
    go_wp2_with fail
    first | (go_ret; exact ⟨rfl, HB.out⟩) | exact bodyPost_ret (v := .bool true) (by simp [results, Tryz.results77, go_sem]; omega) rfl ⟨rfl, HB.out⟩
  · obtain rfl : true = T := hT
    by_cases q0 : m = 0
    case neg =>
      obtain rfl : false = r := by rw [← hr.out]; unfold oneB; rw [e0.out]; symm; exact decide_eq_false (by simp [us, ms, lo, hi] <;> omega)
      go_wp2_with fail
      first | (go_ret; exact ⟨rfl, HB.out⟩) | exact bodyPost_ret (v := .bool false) (by simp [results, Tryz.results77, go_sem]; omega) rfl ⟨rfl, HB.out⟩
    skip -- q0
    obtain rfl : true = r := by rw [← hr.out]; unfold oneB; rw [e0.out]; symm; exact decide_eq_true (by simp [us, ms, lo, hi] <;> omega)
    go_wp2_with fail
    first | (go_ret; exact ⟨rfl, HB.out⟩) | exact bodyPost_ret (v := .bool true) (by simp [results, Tryz.results77, go_sem]; omega) rfl ⟨rfl, HB.out⟩
  · obtain rfl : true = T := hT
    by_cases q0 : m = 0
    case neg =>
      obtain rfl : false = r := by rw [← hr.out]; unfold oneB; rw [e0.out]; symm; exact decide_eq_false (by simp [us, ms, lo, hi] <;> omega)
      go_wp2_with fail
      first | (go_ret; exact ⟨rfl, HB.out⟩) | exact bodyPost_ret (v := .bool false) (by simp [results, Tryz.results77, go_sem]; omega) rfl ⟨rfl, HB.out⟩
    skip -- q0
    obtain rfl : true = r := by rw [← hr.out]; unfold oneB; rw [e0.out]; symm; exact decide_eq_true (by simp [us, ms, lo, hi] <;> omega)
    go_wp2_with fail
    first | (go_ret; exact ⟨rfl, HB.out⟩) | exact bodyPost_ret (v := .bool true) (by simp [results, Tryz.results77, go_sem]; omega) rfl ⟨rfl, HB.out⟩
  · obtain rfl : true = T := hT
    by_cases q0 : m = 0
    case neg =>
      obtain rfl : false = r := by rw [← hr.out]; unfold oneB; rw [e0.out]; symm; exact decide_eq_false (by simp [us, ms, lo, hi] <;> omega)
      go_wp2_with fail
      first | (go_ret; exact ⟨rfl, HB.out⟩) | exact bodyPost_ret (v := .bool false) (by simp [results, Tryz.results77, go_sem]; omega) rfl ⟨rfl, HB.out⟩
    skip -- q0
    obtain rfl : true = r := by rw [← hr.out]; unfold oneB; rw [e0.out]; symm; exact decide_eq_true (by simp [us, ms, lo, hi] <;> omega)
    go_wp2_with fail
    first | (go_ret; exact ⟨rfl, HB.out⟩) | exact bodyPost_ret (v := .bool true) (by simp [results, Tryz.results77, go_sem]; omega) rfl ⟨rfl, HB.out⟩
  · obtain rfl : true = T := hT
    by_cases q0 : m = 0
    case neg =>
      obtain rfl : false = r := by rw [← hr.out]; unfold oneB; rw [e0.out]; symm; exact decide_eq_false (by simp [us, ms, lo, hi] <;> omega)
      go_wp2_with fail
      first | (go_ret; exact ⟨rfl, HB.out⟩) | exact bodyPost_ret (v := .bool false) (by simp [results, Tryz.results77, go_sem]; omega) rfl ⟨rfl, HB.out⟩
    skip -- q0
    obtain rfl : true = r := by rw [← hr.out]; unfold oneB; rw [e0.out]; symm; exact decide_eq_true (by simp [us, ms, lo, hi] <;> omega)
    go_wp2_with fail
    first | (go_ret; exact ⟨rfl, HB.out⟩) | exact bodyPost_ret (v := .bool true) (by simp [results, Tryz.results77, go_sem]; omega) rfl ⟨rfl, HB.out⟩
  · obtain rfl : true = T := hT
    by_cases q0 : m = 0
    case neg =>
      obtain rfl : false = r := by rw [← hr.out]; unfold oneB; rw [e0.out]; symm; exact decide_eq_false (by simp [us, ms, lo, hi] <;> omega)
      go_wp2_with fail
      first | (go_ret; exact ⟨rfl, HB.out⟩) | exact bodyPost_ret (v := .bool false) (by simp [results, Tryz.results77, go_sem]; omega) rfl ⟨rfl, HB.out⟩
    skip -- q0
    obtain rfl : true = r := by rw [← hr.out]; unfold oneB; rw [e0.out]; symm; exact decide_eq_true (by simp [us, ms, lo, hi] <;> omega)
    go_wp2_with fail
    first | (go_ret; exact ⟨rfl, HB.out⟩) | exact bodyPost_ret (v := .bool true) (by simp [results, Tryz.results77, go_sem]; omega) rfl ⟨rfl, HB.out⟩
  · obtain rfl : false = T := hT
    by_cases q0 : b = 0
    case neg =>
      obtain rfl : false = r := by rw [← hr.out]; unfold oneB; rw [e0.out]; symm; exact decide_eq_false (by simp [us, ms, lo, hi] <;> omega)
      go_wp2_with fail
      first | (go_ret; exact ⟨rfl, HB.out⟩) | exact bodyPost_ret (v := .bool false) (by simp [results, Tryz.results77, go_sem]; omega) rfl ⟨rfl, HB.out⟩
    by_cases q1 : 0 ≤ m
    case neg =>
      obtain rfl : false = r := by rw [← hr.out]; unfold oneB; rw [e0.out]; symm; exact decide_eq_false (by simp [us, ms, lo, hi] <;> omega)
      go_wp2_with fail
      first | (go_ret; exact ⟨rfl, HB.out⟩) | exact bodyPost_ret (v := .bool false) (by simp [results, Tryz.results77, go_sem]; omega) rfl ⟨rfl, HB.out⟩
    by_cases q2 : m ≤ 31
    case neg =>
      obtain rfl : false = r := by rw [← hr.out]; unfold oneB; rw [e0.out]; symm; exact decide_eq_false (by simp [us, ms, lo, hi] <;> omega)
      go_wp2_with fail
      first | (go_ret; exact ⟨rfl, HB.out⟩) | exact bodyPost_ret (v := .bool false) (by simp [results, Tryz.results77, go_sem]; omega) rfl ⟨rfl, HB.out⟩
    skip -- q0
    obtain rfl : true = r := by rw [← hr.out]; unfold oneB; rw [e0.out]; symm; exact decide_eq_true (by simp [us, ms, lo, hi] <;> omega)
    go_wp2_with fail
    first | (go_ret; exact ⟨rfl, HB.out⟩) | exact bodyPost_ret (v := .bool true) (by simp [results, Tryz.results77, go_sem]; omega) rfl ⟨rfl, HB.out⟩
  · obtain rfl : false = T := hT
    by_cases q0 : b = 0
    case neg =>
      obtain rfl : false = r := by rw [← hr.out]; unfold oneB; rw [e0.out]; symm; exact decide_eq_false (by simp [us, ms, lo, hi] <;> omega)
      go_wp2_with fail
      first | (go_ret; exact ⟨rfl, HB.out⟩) | exact bodyPost_ret (v := .bool false) (by simp [results, Tryz.results77, go_sem]; omega) rfl ⟨rfl, HB.out⟩
    by_cases q1 : 0 ≤ m
    case neg =>
      obtain rfl : false = r := by rw [← hr.out]; unfold oneB; rw [e0.out]; symm; exact decide_eq_false (by simp [us, ms, lo, hi] <;> omega)
      go_wp2_with fail
      first | (go_ret; exact ⟨rfl, HB.out⟩) | exact bodyPost_ret (v := .bool false) (by simp [results, Tryz.results77, go_sem]; omega) rfl ⟨rfl, HB.out⟩
    by_cases q2 : m ≤ 31
    case neg =>
      obtain rfl : false = r := by rw [← hr.out]; unfold oneB; rw [e0.out]; symm; exact decide_eq_false (by simp [us, ms, lo, hi] <;> omega)
      go_wp2_with fail
      first | (go_ret; exact ⟨rfl, HB.out⟩) | exact bodyPost_ret (v := .bool false) (by simp [results, Tryz.results77, go_sem]; omega) rfl ⟨rfl, HB.out⟩
    skip -- q0
    obtain rfl : true = r := by rw [← hr.out]; unfold oneB; rw [e0.out]; symm; exact decide_eq_true (by simp [us, ms, lo, hi] <;> omega)
    go_wp2_with fail
    first | (go_ret; exact ⟨rfl, HB.out⟩) | exact bodyPost_ret (v := .bool true) (by simp [results, Tryz.results77, go_sem]; omega) rfl ⟨rfl, HB.out⟩
  · obtain rfl : true = T := hT
    by_cases q0 : m = 0
    case neg =>
      obtain rfl : false = r := by rw [← hr.out]; unfold oneB; rw [e0.out]; symm; exact decide_eq_false (by simp [us, ms, lo, hi] <;> omega)
      go_wp2_with fail
      first | (go_ret; exact ⟨rfl, HB.out⟩) | exact bodyPost_ret (v := .bool false) (by simp [results, Tryz.results77, go_sem]; omega) rfl ⟨rfl, HB.out⟩
    skip -- q0
    obtain rfl : true = r := by rw [← hr.out]; unfold oneB; rw [e0.out]; symm; exact decide_eq_true (by simp [us, ms, lo, hi] <;> omega)
    go_wp2_with fail
    first | (go_ret; exact ⟨rfl, HB.out⟩) | exact bodyPost_ret (v := .bool true) (by simp [results, Tryz.results77, go_sem]; omega) rfl ⟨rfl, HB.out⟩
  · obtain rfl : false = T := hT
    by_cases q0 : b = 0
    case neg =>
      obtain rfl : false = r := by rw [← hr.out]; unfold oneB; rw [e0.out]; symm; exact decide_eq_false (by simp [us, ms, lo, hi] <;> omega)
      go_wp2_with fail
      first | (go_ret; exact ⟨rfl, HB.out⟩) | exact bodyPost_ret (v := .bool false) (by simp [results, Tryz.results77, go_sem]; omega) rfl ⟨rfl, HB.out⟩
    by_cases q1 : d = 0
    case neg =>
      obtain rfl : false = r := by rw [← hr.out]; unfold oneB; rw [e0.out]; symm; exact decide_eq_false (by simp [us, ms, lo, hi] <;> omega)
      go_wp2_with fail
      first | (go_ret; exact ⟨rfl, HB.out⟩) | exact bodyPost_ret (v := .bool false) (by simp [results, Tryz.results77, go_sem]; omega) rfl ⟨rfl, HB.out⟩
    by_cases q2 : 0 ≤ m
    case neg =>
      obtain rfl : false = r := by rw [← hr.out]; unfold oneB; rw [e0.out]; symm; exact decide_eq_false (by simp [us, ms, lo, hi] <;> omega)
      go_wp2_with fail
      first | (go_ret; exact ⟨rfl, HB.out⟩) | exact bodyPost_ret (v := .bool false) (by simp [results, Tryz.results77, go_sem]; omega) rfl ⟨rfl, HB.out⟩
    by_cases q3 : m ≤ j
    case neg =>
      obtain rfl : false = r := by rw [← hr.out]; unfold oneB; rw [e0.out]; symm; exact decide_eq_false (by simp [us, ms, lo, hi] <;> omega)
      go_wp2_with fail
      first | (go_ret; exact ⟨rfl, HB.out⟩) | exact bodyPost_ret (v := .bool false) (by simp [results, Tryz.results77, go_sem]; omega) rfl ⟨rfl, HB.out⟩
    skip -- q0
    skip -- q1
    obtain rfl : true = r := by rw [← hr.out]; unfold oneB; rw [e0.out]; symm; exact decide_eq_true (by simp [us, ms, lo, hi] <;> omega)
    go_wp2_with fail
    first | (go_ret; exact ⟨rfl, HB.out⟩) | exact bodyPost_ret (v := .bool true) (by simp [results, Tryz.results77, go_sem]; omega) rfl ⟨rfl, HB.out⟩
  · obtain rfl : true = T := hT
    by_cases q0 : m = 0
    case neg =>
      obtain rfl : false = r := by rw [← hr.out]; unfold oneB; rw [e0.out]; symm; exact decide_eq_false (by simp [us, ms, lo, hi] <;> omega)
      go_wp2_with fail
      first | (go_ret; exact ⟨rfl, HB.out⟩) | exact bodyPost_ret (v := .bool false) (by simp [results, Tryz.results77, go_sem]; omega) rfl ⟨rfl, HB.out⟩
    by_cases q1 : d ≤ 4
    case neg =>
      obtain rfl : false = r := by rw [← hr.out]; unfold oneB; rw [e0.out]; symm; exact decide_eq_false (by simp [us, ms, lo, hi] <;> omega)
      go_wp2_with fail
      first | (go_ret; exact ⟨rfl, HB.out⟩) | exact bodyPost_ret (v := .bool false) (by simp [results, Tryz.results77, go_sem]; omega) rfl ⟨rfl, HB.out⟩
    skip -- q0
    obtain rfl : true = r := by rw [← hr.out]; unfold oneB; rw [e0.out]; symm; exact decide_eq_true (by simp [us, ms, lo, hi] <;> omega)
    go_wp2_with fail
    first | (go_ret; exact ⟨rfl, HB.out⟩) | exact bodyPost_ret (v := .bool true) (by simp [results, Tryz.results77, go_sem]; omega) rfl ⟨rfl, HB.out⟩
  · obtain rfl : true = T := hT
    by_cases q0 : m = 0
    case neg =>
      obtain rfl : false = r := by rw [← hr.out]; unfold oneB; rw [e0.out]; symm; exact decide_eq_false (by simp [us, ms, lo, hi] <;> omega)
      go_wp2_with fail
      first | (go_ret; exact ⟨rfl, HB.out⟩) | exact bodyPost_ret (v := .bool false) (by simp [results, Tryz.results77, go_sem]; omega) rfl ⟨rfl, HB.out⟩
    by_cases q1 : d ≤ 4
    case neg =>
      obtain rfl : false = r := by rw [← hr.out]; unfold oneB; rw [e0.out]; symm; exact decide_eq_false (by simp [us, ms, lo, hi] <;> omega)
      go_wp2_with fail
      first | (go_ret; exact ⟨rfl, HB.out⟩) | exact bodyPost_ret (v := .bool false) (by simp [results, Tryz.results77, go_sem]; omega) rfl ⟨rfl, HB.out⟩
    skip -- q0
    obtain rfl : true = r := by rw [← hr.out]; unfold oneB; rw [e0.out]; symm; exact decide_eq_true (by simp [us, ms, lo, hi] <;> omega)
    go_wp2_with fail
    first | (go_ret; exact ⟨rfl, HB.out⟩) | exact bodyPost_ret (v := .bool true) (by simp [results, Tryz.results77, go_sem]; omega) rfl ⟨rfl, HB.out⟩
  · obtain rfl : false = T := by rw [← hT]; symm; exact decide_eq_false (by omega)
    obtain rfl : false = r := by
      rw [← hr.out]
      symm
      have e : us o = 0 := by unfold us; rw [if_neg (by omega), if_neg (by omega), if_neg (by omega), if_neg (by omega), if_neg (by omega)]
      unfold oneB
      exact decide_eq_false (by dsimp only; omega)
    have r0 : ¬ o = 0 := by omega
    have r1 : ¬ o = 1 := by omega
    have r9 : ¬ o = 9 := by omega
    have r10 : ¬ o = 10 := by omega
    have r12 : ¬ o = 12 := by omega
    clear h15 h0
    by_cases q : b = 0
    · go_wp2_with fail
      go_ret
      exact ⟨rfl, HB.out⟩
    · go_wp2_with fail
      go_ret
      exact ⟨rfl, HB.out⟩
end Go.Proofs.YtfmmfaeognoleaaGreat.C
/-
  The contracts of Check, Samples and Target, of the program and of the reference.
-/
namespace Go.Proofs.YtfmmfaeognoleaaGreat.C
open Go.RowKit
attribute [local go_sem ↓] Go.wp_at_zero Go.wp_at_succ

def fine (l : List In) : Bool := (List.range l.length).all fun i => (l[i]?).all fun x => oneB x i l.length
theorem fine_iff {l : List In} : fine l = true ↔ ∀ (i : Nat) x, l[i]? = some x → oneB x i l.length = true := by
  unfold fine
  rw [List.all_eq_true]
  constructor
  · intro h i x hi
    have := h i (by rw [List.mem_range]; exact (List.getElem?_eq_some_iff.1 hi).1)
    rw [hi] at this
    simpa using this
  · intro h i _
    cases e : l[i]? with
    | none => rfl
    | some x => simpa using h i x e
def chk (l : List In) : Int := if l.length < 1 ∨ 32 < l.length then 23 else if fine l = true then 0 else 23
theorem atI {w : World} {b o : Nat} {x : In} (h : AtE EI w b o x) : w.cell? ⟨b, o, none⟩ = some (.int .u8 x.o) ∧ w.cell? ⟨b, o + 1, none⟩ = some (.int .u8 x.d) ∧ w.cell? ⟨b, o + 2, none⟩ = some (.int .u8 x.a) ∧ w.cell? ⟨b, o + 3, none⟩ = some (.int .u8 x.b) ∧ w.cell? ⟨b, o + 4, none⟩ = some (.int .i64 x.n) :=
  ⟨h 0 _ rfl, h 1 _ rfl, h 2 _ rfl, h 3 _ rfl, h 4 _ rfl⟩
theorem get_lt {l : List In} {k : Nat} (h : k < l.length) : ∃ u, l[k]? = some u := ⟨_, List.getElem?_eq_getElem h⟩
theorem chk_bad {l : List In} {k : Nat} {u : In} (h : l[k]? = some u) (hr : oneB u k l.length = false) : chk l = 23 := by
  unfold chk
  split
  · rfl
  · rw [if_neg fun hf => ?_]
    have := fine_iff.1 hf k u h
    rw [hr] at this
    cases this
theorem chk_good {l : List In} (h1 : ¬ l.length < 1) (h2 : ¬ 32 < l.length) (h : ∀ (i : Nat) x, l[i]? = some x → oneB x i l.length = true) : chk l = 0 := by
  unfold chk
  rw [if_neg (by omega), if_pos (fine_iff.2 h)]

set_option maxRecDepth 100000 in
set_option maxHeartbeats 4000000 in
theorem check_any (l : List In) (A : Option Addr) (c : Nat) (hok : ∀ x ∈ l, x.ok) (w : World) (he : Es EI w w.heap.size A l) :
    Calls Tryz.prog 85 #[.slice A l.length c] w fun e w' => e = .returned (.int .i64 (chk l)) ∧ Below w.heap.size w w' := by
  by_cases h1 : l.length < 1
  · have e : chk l = 23 := by unfold chk; rw [if_pos (Or.inl h1)]
    rw [e]
    generalize l.length = n at *
    have h2 : (n : Int) < 1 := by omega
    clear e h1 he
    go_enter Tryz.func85, Tryz.ntmps85
    go_wp2_with fail
    go_ret
    exact ⟨rfl, Below.refl _ _⟩
  by_cases h2 : 32 < l.length
  · have e : chk l = 23 := by unfold chk; rw [if_pos (Or.inr h2)]
    rw [e]
    generalize l.length = n at *
    have h3 : ¬ (n : Int) < 1 := by omega
    have h4 : (32 : Int) < n := by omega
    clear e h1 h2 he
    go_enter Tryz.func85, Tryz.ntmps85
    go_wp2_with fail
    go_ret
    exact ⟨rfl, Below.refl _ _⟩
  have HGd := Lib.hid (chk_good h1 h2)
  have HBd := Lib.hid (fun (k : Nat) (u : In) (h : l[k]? = some u) (hr : oneB u k l.length = false) => chk_bad h hr)
  have HL := Lib.hid (fun (k : Nat) (h : k < l.length) => get_lt h)
  generalize chk l = R at *
  obtain ⟨n, hn⟩ : ∃ n, l.length = n := ⟨_, rfl⟩
  rw [hn] at HGd HBd HL h1 h2 ⊢
  have h3 : ¬ (n : Int) < 1 := by omega
  have h4 : ¬ (32 : Int) < n := by omega
  have hn32 : n ≤ 32 := by omega
  have HE := Lib.hid he
  have HO := Lib.hid (fun x (h : x ∈ l) => hok x h)
  replace hn := Lib.hid hn
  clear h1 h2 he hok
  go_enter Tryz.func85, Tryz.ntmps85
  go_wp2_with fail
  go_loopw [15] (fun i wr => ∃ k : Nat, k ≤ n ∧ i = .int .i64 k ∧ (∀ (j : Nat) x, j < k → l[j]? = some x → oneB x j n = true) ∧ Below w.heap.size w wr) (fun i _ => n - (intOf i).toNat)
  case atStart => exact ⟨0, Nat.zero_le _, rfl, fun j x h => absurd h (Nat.not_lt_zero _), Below.refl _ _⟩
  case round =>
    obtain ⟨k, hk, rfl, hin, hb⟩ := hrel
    have HB := Lib.hid hb
    have HI := Lib.hid hin
    clear hin hb
    by_cases hlt : k < n
    · obtain ⟨u, hu⟩ := HL.out k hlt
      obtain ⟨b, off, rfl, hbB, hat⟩ := HE.out.at hu
      obtain ⟨c0, c1, c2, c3, c4⟩ := atI (show AtE EI wr b (off + k * 5) u from hat.below HB.out hbB)
      have hbw := Nat.lt_of_lt_of_le hbB HB.out.size
      have HU := Lib.hid (show ∀ w', Calls Tryz.prog 112 #[.agg #[.int .u8 u.o, .int .u8 u.d, .int .u8 u.a, .int .u8 u.b, .int .i64 u.n], .int .i64 k, .int .i64 n] w' fun e w'' => e = .returned (.bool (oneB u k n)) ∧ Below w'.heap.size w' w'' from fun w' => one_any u k n (HO.out u (List.mem_of_getElem? hu)) ⟨by omega, by omega⟩ ⟨by omega, by omega⟩ w')
      replace hu := Lib.hid hu
      obtain ⟨r, hr⟩ : ∃ r, oneB u k n = r := ⟨_, rfl⟩
      rw [hr] at HU
      replace hr := Lib.hid hr
      clear hat
      go_wp2_with fail
      have hs := new_below wr (inB u)
      have B2 := Lib.hid (bstep HB.out HB.out.size hs)
      clear hs
      with_reducible refine (HU.out _).mono ?_
      rintro e w2 ⟨rfl, hb2⟩
      have B3 := Lib.hid (bstep B2.out B2.out.size hb2)
      clear hb2 B2 HU c0 c1 c2 c3 c4
      cases r
      · obtain rfl : R = 23 := HBd.out k u hu.out hr.out
        go_wp2_with fail
        go_ret
        exact ⟨rfl, B3.out⟩
      · go_wp2_with fail
        go_roundw
        case rel =>
          refine ⟨k + 1, by omega, by go_num, fun j x hj hx => ?_, B3.out⟩
          rcases Nat.lt_or_ge j k with h | h
          · exact HI.out j x h hx
          · obtain rfl : j = k := by omega
            have h5 := hu.out
            rw [hx] at h5
            cases h5
            exact hr.out
        case measure => simp [intOf]; omega
    · obtain rfl : k = n := by omega
      obtain rfl : R = 0 := HGd.out fun i x hx => HI.out i x (by have := (List.getElem?_eq_some_iff.1 hx).1; rw [hn.out] at this; exact this) hx
      go_wp2_with fail
      go_ret
      exact ⟨rfl, HB.out⟩
set_option maxRecDepth 100000 in
set_option maxHeartbeats 4000000 in
theorem rcheck_any (l : List In) (A : Option Addr) (c : Nat) (hok : ∀ x ∈ l, x.ok) (w : World) (he : Es EI w w.heap.size A l) :
    Calls Tryz.prog 40 #[.slice A l.length c] w fun e w' => e = .returned (.int .i64 (chk l)) ∧ Below w.heap.size w w' := by
  by_cases h1 : l.length < 1
  · have e : chk l = 23 := by unfold chk; rw [if_pos (Or.inl h1)]
    rw [e]
    generalize l.length = n at *
    have h2 : (n : Int) < 1 := by omega
    clear e h1 he
    go_enter Tryz.func40, Tryz.ntmps40
    go_wp2_with fail
    go_ret
    exact ⟨rfl, Below.refl _ _⟩
  by_cases h2 : 32 < l.length
  · have e : chk l = 23 := by unfold chk; rw [if_pos (Or.inr h2)]
    rw [e]
    generalize l.length = n at *
    have h3 : ¬ (n : Int) < 1 := by omega
    have h4 : (32 : Int) < n := by omega
    clear e h1 h2 he
    go_enter Tryz.func40, Tryz.ntmps40
    go_wp2_with fail
    go_ret
    exact ⟨rfl, Below.refl _ _⟩
  have HGd := Lib.hid (chk_good h1 h2)
  have HBd := Lib.hid (fun (k : Nat) (u : In) (h : l[k]? = some u) (hr : oneB u k l.length = false) => chk_bad h hr)
  have HL := Lib.hid (fun (k : Nat) (h : k < l.length) => get_lt h)
  generalize chk l = R at *
  obtain ⟨n, hn⟩ : ∃ n, l.length = n := ⟨_, rfl⟩
  rw [hn] at HGd HBd HL h1 h2 ⊢
  have h3 : ¬ (n : Int) < 1 := by omega
  have h4 : ¬ (32 : Int) < n := by omega
  have hn32 : n ≤ 32 := by omega
  have HE := Lib.hid he
  have HO := Lib.hid (fun x (h : x ∈ l) => hok x h)
  replace hn := Lib.hid hn
  clear h1 h2 he hok
  go_enter Tryz.func40, Tryz.ntmps40
  go_wp2_with fail
  go_loopw [3] (fun i wr => ∃ k : Nat, k ≤ n ∧ i = .int .i64 k ∧ (∀ (j : Nat) x, j < k → l[j]? = some x → oneB x j n = true) ∧ Below w.heap.size w wr) (fun i _ => n - (intOf i).toNat)
  case atStart => exact ⟨0, Nat.zero_le _, rfl, fun j x h => absurd h (Nat.not_lt_zero _), Below.refl _ _⟩
  case round =>
    obtain ⟨k, hk, rfl, hin, hb⟩ := hrel
    have HB := Lib.hid hb
    have HI := Lib.hid hin
    clear hin hb
    by_cases hlt : k < n
    · obtain ⟨u, hu⟩ := HL.out k hlt
      obtain ⟨b, off, rfl, hbB, hat⟩ := HE.out.at hu
      obtain ⟨c0, c1, c2, c3, c4⟩ := atI (show AtE EI wr b (off + k * 5) u from hat.below HB.out hbB)
      have hbw := Nat.lt_of_lt_of_le hbB HB.out.size
      have HU := Lib.hid (show ∀ w', Calls Tryz.prog 77 #[.agg #[.int .u8 u.o, .int .u8 u.d, .int .u8 u.a, .int .u8 u.b, .int .i64 u.n], .int .i64 k, .int .i64 n] w' fun e w'' => e = .returned (.bool (oneB u k n)) ∧ Below w'.heap.size w' w'' from fun w' => rone_any u k n (HO.out u (List.mem_of_getElem? hu)) ⟨by omega, by omega⟩ ⟨by omega, by omega⟩ w')
      replace hu := Lib.hid hu
      obtain ⟨r, hr⟩ : ∃ r, oneB u k n = r := ⟨_, rfl⟩
      rw [hr] at HU
      replace hr := Lib.hid hr
      clear hat
      go_wp2_with fail
      have B2 := Lib.hid HB.out
      with_reducible refine (HU.out _).mono ?_
      rintro e w2 ⟨rfl, hb2⟩
      have B3 := Lib.hid (bstep B2.out B2.out.size hb2)
      clear hb2 B2 HU c0 c1 c2 c3 c4
      cases r
      · obtain rfl : R = 23 := HBd.out k u hu.out hr.out
        go_wp2_with fail
        go_ret
        exact ⟨rfl, B3.out⟩
      · go_wp2_with fail
        go_roundw
        case rel =>
          refine ⟨k + 1, by omega, by go_num, fun j x hj hx => ?_, B3.out⟩
          rcases Nat.lt_or_ge j k with h | h
          · exact HI.out j x h hx
          · obtain rfl : j = k := by omega
            have h5 := hu.out
            rw [hx] at h5
            cases h5
            exact hr.out
        case measure => simp [intOf]; omega
    · obtain rfl : k = n := by omega
      obtain rfl : R = 0 := HGd.out fun i x hx => HI.out i x (by have := (List.getElem?_eq_some_iff.1 hx).1; rw [hn.out] at this; exact this) hx
      go_wp2_with fail
      go_ret
      exact ⟨rfl, HB.out⟩
end Go.Proofs.YtfmmfaeognoleaaGreat.C
/-
  The contracts of the reference's mod and fit.
-/
namespace Go.Proofs.YtfmmfaeognoleaaGreat.C
open Go.RowKit
attribute [local go_sem ↓] Go.wp_at_zero Go.wp_at_succ

theorem emod_ways (n b : Int) (hb : 0 < b) : (n.tmod b < 0 ∧ n % b = n.tmod b + b) ∨ (¬ n.tmod b < 0 ∧ n % b = n.tmod b) := by
  have h := Int.tmod_eq_emod (a := n) (b := b)
  have h0 := Int.emod_nonneg n (show b ≠ 0 by omega)
  have h1 := Int.emod_lt_of_pos n hb
  split at h
  · omega
  · omega
set_option maxHeartbeats 1000000 in
theorem mod_any (n b : Int) (hn : I64 n) (hb : 0 < b) (hb2 : b ≤ 4611686018427387904) (w : World) :
    Calls Tryz.prog 110 #[.int .i64 n, .int .i64 b] w fun e w' => e = .returned (.int .i64 (n % b)) ∧ w = w' := by
  have hw := emod_ways n b hb
  have hp := Int.lt_tmod_of_pos n hb
  have hq := Int.tmod_lt_of_pos n hb
  obtain ⟨k, hk⟩ : ∃ k, n.tmod b = k := ⟨_, rfl⟩
  rw [hk] at hw hp hq
  have g0 : IntKind.i64.wrap k = k := by rw [IntKind.wrap_i64]; omega
  have g1 : IntKind.i64.wrap (k + b) = k + b := by rw [IntKind.wrap_i64]; omega
  have hb0 : ¬ b = 0 := by omega
  have HN := Lib.hid hn
  clear hn
  rcases hw with ⟨h, e⟩ | ⟨h, e⟩
  · rw [e]
    clear e hp hq hb hb2
    go_enter Tryz.func110, Tryz.ntmps110
    go_wp2_with fail
    go_ret
    exact ⟨rfl, rfl⟩
  · rw [e]
    clear e hp hq hb hb2
    go_enter Tryz.func110, Tryz.ntmps110
    go_wp2_with fail
    go_ret
    exact ⟨rfl, rfl⟩
end Go.Proofs.YtfmmfaeognoleaaGreat.C
/-
  The contract of the reference's fit: an instruction that may stand at a place, of any one.
-/
namespace Go.Proofs.YtfmmfaeognoleaaGreat.C
open Go.RowKit
attribute [local go_sem ↓] Go.wp_at_zero Go.wp_at_succ

set_option maxRecDepth 100000 in
set_option maxHeartbeats 4000000 in
theorem fit_0 (x : In) (i n d m : Int) (q0 : x.o.tmod 15 = 0) (qd : x.d.tmod 8 = d) (gm : IntKind.i64.wrap (m - 2147483648) = m - 2147483648) (HM : Hid (∀ w, Calls Tryz.prog 110 #[.int .i64 x.n, .int .i64 4294967296] w fun e w' => e = .returned (.int .i64 m) ∧ w = w')) (w : World) :
    Calls Tryz.prog 75 #[.agg #[.int .u8 x.o, .int .u8 x.d, .int .u8 x.a, .int .u8 x.b, .int .i64 x.n], .int .i64 i, .int .i64 n, .bool false] w fun e w' => e = .returned (.agg #[.int .u8 0, .int .u8 d, .int .u8 0, .int .u8 0, .int .i64 (m - 2147483648)]) ∧ Below w.heap.size w w' := by
  have HB := Lib.hid (fun o o' o'' => ((new_below w o).alloc (by simp) o').alloc (by simp; omega) o'')
  go_enter Tryz.func75, Tryz.ntmps75
  go_wp2_with (go_at_call 110; (with_reducible refine (HM.out _).mono ?_); rintro e w' ⟨rfl, rfl⟩)
  refine bodyPost_ret (v := .agg #[.int .u8 0, .int .u8 d, .int .u8 0, .int .u8 0, .int .i64 (m - 2147483648)]) (by simp [results, Tryz.results75, go_sem, *]) rfl ⟨rfl, ?_⟩
  repeat (first | exact HB.out _ _ _ | refine Below.setCell ?_ (by simp <;> omega) _)

set_option maxRecDepth 100000 in
set_option maxHeartbeats 4000000 in
theorem fit_1 (x : In) (i n d a : Int) (q0 : x.o.tmod 15 = 1) (qd : x.d.tmod 8 = d) (qa : x.a.tmod 8 = a) (w : World) :
    Calls Tryz.prog 75 #[.agg #[.int .u8 x.o, .int .u8 x.d, .int .u8 x.a, .int .u8 x.b, .int .i64 x.n], .int .i64 i, .int .i64 n, .bool false] w fun e w' => e = .returned (.agg #[.int .u8 1, .int .u8 d, .int .u8 a, .int .u8 0, .int .i64 (0)]) ∧ Below w.heap.size w w' := by
  have HB := Lib.hid (fun o o' o'' => ((new_below w o).alloc (by simp) o').alloc (by simp; omega) o'')
  go_enter Tryz.func75, Tryz.ntmps75
  go_wp2_with fail
  refine bodyPost_ret (v := .agg #[.int .u8 1, .int .u8 d, .int .u8 a, .int .u8 0, .int .i64 (0)]) (by simp [results, Tryz.results75, go_sem, *]) rfl ⟨rfl, ?_⟩
  repeat (first | exact HB.out _ _ _ | refine Below.setCell ?_ (by simp <;> omega) _)

set_option maxRecDepth 100000 in
set_option maxHeartbeats 4000000 in
theorem fit_2 (x : In) (i n d a b : Int) (q0 : x.o.tmod 15 = 2) (qd : x.d.tmod 8 = d) (qa : x.a.tmod 8 = a) (qb : x.b.tmod 8 = b) (w : World) :
    Calls Tryz.prog 75 #[.agg #[.int .u8 x.o, .int .u8 x.d, .int .u8 x.a, .int .u8 x.b, .int .i64 x.n], .int .i64 i, .int .i64 n, .bool false] w fun e w' => e = .returned (.agg #[.int .u8 2, .int .u8 d, .int .u8 a, .int .u8 b, .int .i64 (0)]) ∧ Below w.heap.size w w' := by
  have HB := Lib.hid (fun o o' o'' => ((new_below w o).alloc (by simp) o').alloc (by simp; omega) o'')
  go_enter Tryz.func75, Tryz.ntmps75
  go_wp2_with fail
  refine bodyPost_ret (v := .agg #[.int .u8 2, .int .u8 d, .int .u8 a, .int .u8 b, .int .i64 (0)]) (by simp [results, Tryz.results75, go_sem, *]) rfl ⟨rfl, ?_⟩
  repeat (first | exact HB.out _ _ _ | refine Below.setCell ?_ (by simp <;> omega) _)

set_option maxRecDepth 100000 in
set_option maxHeartbeats 4000000 in
theorem fit_3 (x : In) (i n d a b : Int) (q0 : x.o.tmod 15 = 3) (qd : x.d.tmod 8 = d) (qa : x.a.tmod 8 = a) (qb : x.b.tmod 8 = b) (w : World) :
    Calls Tryz.prog 75 #[.agg #[.int .u8 x.o, .int .u8 x.d, .int .u8 x.a, .int .u8 x.b, .int .i64 x.n], .int .i64 i, .int .i64 n, .bool false] w fun e w' => e = .returned (.agg #[.int .u8 3, .int .u8 d, .int .u8 a, .int .u8 b, .int .i64 (0)]) ∧ Below w.heap.size w w' := by
  have HB := Lib.hid (fun o o' o'' => ((new_below w o).alloc (by simp) o').alloc (by simp; omega) o'')
  go_enter Tryz.func75, Tryz.ntmps75
  go_wp2_with fail
  refine bodyPost_ret (v := .agg #[.int .u8 3, .int .u8 d, .int .u8 a, .int .u8 b, .int .i64 (0)]) (by simp [results, Tryz.results75, go_sem, *]) rfl ⟨rfl, ?_⟩
  repeat (first | exact HB.out _ _ _ | refine Below.setCell ?_ (by simp <;> omega) _)

set_option maxRecDepth 100000 in
set_option maxHeartbeats 4000000 in
theorem fit_4 (x : In) (i n d a b : Int) (q0 : x.o.tmod 15 = 4) (qd : x.d.tmod 8 = d) (qa : x.a.tmod 8 = a) (qb : x.b.tmod 8 = b) (w : World) :
    Calls Tryz.prog 75 #[.agg #[.int .u8 x.o, .int .u8 x.d, .int .u8 x.a, .int .u8 x.b, .int .i64 x.n], .int .i64 i, .int .i64 n, .bool false] w fun e w' => e = .returned (.agg #[.int .u8 4, .int .u8 d, .int .u8 a, .int .u8 b, .int .i64 (0)]) ∧ Below w.heap.size w w' := by
  have HB := Lib.hid (fun o o' o'' => ((new_below w o).alloc (by simp) o').alloc (by simp; omega) o'')
  go_enter Tryz.func75, Tryz.ntmps75
  go_wp2_with fail
  refine bodyPost_ret (v := .agg #[.int .u8 4, .int .u8 d, .int .u8 a, .int .u8 b, .int .i64 (0)]) (by simp [results, Tryz.results75, go_sem, *]) rfl ⟨rfl, ?_⟩
  repeat (first | exact HB.out _ _ _ | refine Below.setCell ?_ (by simp <;> omega) _)

set_option maxRecDepth 100000 in
set_option maxHeartbeats 4000000 in
theorem fit_5 (x : In) (i n d a b : Int) (q0 : x.o.tmod 15 = 5) (qd : x.d.tmod 8 = d) (qa : x.a.tmod 8 = a) (qb : x.b.tmod 8 = b) (w : World) :
    Calls Tryz.prog 75 #[.agg #[.int .u8 x.o, .int .u8 x.d, .int .u8 x.a, .int .u8 x.b, .int .i64 x.n], .int .i64 i, .int .i64 n, .bool false] w fun e w' => e = .returned (.agg #[.int .u8 5, .int .u8 d, .int .u8 a, .int .u8 b, .int .i64 (0)]) ∧ Below w.heap.size w w' := by
  have HB := Lib.hid (fun o o' o'' => ((new_below w o).alloc (by simp) o').alloc (by simp; omega) o'')
  go_enter Tryz.func75, Tryz.ntmps75
  go_wp2_with fail
  refine bodyPost_ret (v := .agg #[.int .u8 5, .int .u8 d, .int .u8 a, .int .u8 b, .int .i64 (0)]) (by simp [results, Tryz.results75, go_sem, *]) rfl ⟨rfl, ?_⟩
  repeat (first | exact HB.out _ _ _ | refine Below.setCell ?_ (by simp <;> omega) _)

set_option maxRecDepth 100000 in
set_option maxHeartbeats 4000000 in
theorem fit_6 (x : In) (i n d a b : Int) (q0 : x.o.tmod 15 = 6) (qd : x.d.tmod 8 = d) (qa : x.a.tmod 8 = a) (qb : x.b.tmod 8 = b) (w : World) :
    Calls Tryz.prog 75 #[.agg #[.int .u8 x.o, .int .u8 x.d, .int .u8 x.a, .int .u8 x.b, .int .i64 x.n], .int .i64 i, .int .i64 n, .bool false] w fun e w' => e = .returned (.agg #[.int .u8 6, .int .u8 d, .int .u8 a, .int .u8 b, .int .i64 (0)]) ∧ Below w.heap.size w w' := by
  have HB := Lib.hid (fun o o' o'' => ((new_below w o).alloc (by simp) o').alloc (by simp; omega) o'')
  go_enter Tryz.func75, Tryz.ntmps75
  go_wp2_with fail
  refine bodyPost_ret (v := .agg #[.int .u8 6, .int .u8 d, .int .u8 a, .int .u8 b, .int .i64 (0)]) (by simp [results, Tryz.results75, go_sem, *]) rfl ⟨rfl, ?_⟩
  repeat (first | exact HB.out _ _ _ | refine Below.setCell ?_ (by simp <;> omega) _)

set_option maxRecDepth 100000 in
set_option maxHeartbeats 4000000 in
theorem fit_7 (x : In) (i n d a b : Int) (q0 : x.o.tmod 15 = 7) (qd : x.d.tmod 8 = d) (qa : x.a.tmod 8 = a) (qb : x.b.tmod 8 = b) (w : World) :
    Calls Tryz.prog 75 #[.agg #[.int .u8 x.o, .int .u8 x.d, .int .u8 x.a, .int .u8 x.b, .int .i64 x.n], .int .i64 i, .int .i64 n, .bool false] w fun e w' => e = .returned (.agg #[.int .u8 7, .int .u8 d, .int .u8 a, .int .u8 b, .int .i64 (0)]) ∧ Below w.heap.size w w' := by
  have HB := Lib.hid (fun o o' o'' => ((new_below w o).alloc (by simp) o').alloc (by simp; omega) o'')
  go_enter Tryz.func75, Tryz.ntmps75
  go_wp2_with fail
  refine bodyPost_ret (v := .agg #[.int .u8 7, .int .u8 d, .int .u8 a, .int .u8 b, .int .i64 (0)]) (by simp [results, Tryz.results75, go_sem, *]) rfl ⟨rfl, ?_⟩
  repeat (first | exact HB.out _ _ _ | refine Below.setCell ?_ (by simp <;> omega) _)

set_option maxRecDepth 100000 in
set_option maxHeartbeats 4000000 in
theorem fit_8 (x : In) (i n d a b : Int) (q0 : x.o.tmod 15 = 8) (qd : x.d.tmod 8 = d) (qa : x.a.tmod 8 = a) (qb : x.b.tmod 8 = b) (w : World) :
    Calls Tryz.prog 75 #[.agg #[.int .u8 x.o, .int .u8 x.d, .int .u8 x.a, .int .u8 x.b, .int .i64 x.n], .int .i64 i, .int .i64 n, .bool false] w fun e w' => e = .returned (.agg #[.int .u8 8, .int .u8 d, .int .u8 a, .int .u8 b, .int .i64 (0)]) ∧ Below w.heap.size w w' := by
  have HB := Lib.hid (fun o o' o'' => ((new_below w o).alloc (by simp) o').alloc (by simp; omega) o'')
  go_enter Tryz.func75, Tryz.ntmps75
  go_wp2_with fail
  refine bodyPost_ret (v := .agg #[.int .u8 8, .int .u8 d, .int .u8 a, .int .u8 b, .int .i64 (0)]) (by simp [results, Tryz.results75, go_sem, *]) rfl ⟨rfl, ?_⟩
  repeat (first | exact HB.out _ _ _ | refine Below.setCell ?_ (by simp <;> omega) _)

set_option maxRecDepth 100000 in
set_option maxHeartbeats 4000000 in
theorem fit_9 (x : In) (i n d a m : Int) (q0 : x.o.tmod 15 = 9) (qd : x.d.tmod 8 = d) (qa : x.a.tmod 8 = a) (HM : Hid (∀ w, Calls Tryz.prog 110 #[.int .i64 x.n, .int .i64 32] w fun e w' => e = .returned (.int .i64 m) ∧ w = w')) (w : World) :
    Calls Tryz.prog 75 #[.agg #[.int .u8 x.o, .int .u8 x.d, .int .u8 x.a, .int .u8 x.b, .int .i64 x.n], .int .i64 i, .int .i64 n, .bool false] w fun e w' => e = .returned (.agg #[.int .u8 9, .int .u8 d, .int .u8 a, .int .u8 0, .int .i64 (m)]) ∧ Below w.heap.size w w' := by
  have HB := Lib.hid (fun o o' o'' => ((new_below w o).alloc (by simp) o').alloc (by simp; omega) o'')
  go_enter Tryz.func75, Tryz.ntmps75
  go_wp2_with (go_at_call 110; (with_reducible refine (HM.out _).mono ?_); rintro e w' ⟨rfl, rfl⟩)
  refine bodyPost_ret (v := .agg #[.int .u8 9, .int .u8 d, .int .u8 a, .int .u8 0, .int .i64 (m)]) (by simp [results, Tryz.results75, go_sem, *]) rfl ⟨rfl, ?_⟩
  repeat (first | exact HB.out _ _ _ | refine Below.setCell ?_ (by simp <;> omega) _)

set_option maxRecDepth 100000 in
set_option maxHeartbeats 4000000 in
theorem fit_10 (x : In) (i n d a m : Int) (q0 : x.o.tmod 15 = 10) (qd : x.d.tmod 8 = d) (qa : x.a.tmod 8 = a) (HM : Hid (∀ w, Calls Tryz.prog 110 #[.int .i64 x.n, .int .i64 32] w fun e w' => e = .returned (.int .i64 m) ∧ w = w')) (w : World) :
    Calls Tryz.prog 75 #[.agg #[.int .u8 x.o, .int .u8 x.d, .int .u8 x.a, .int .u8 x.b, .int .i64 x.n], .int .i64 i, .int .i64 n, .bool false] w fun e w' => e = .returned (.agg #[.int .u8 10, .int .u8 d, .int .u8 a, .int .u8 0, .int .i64 (m)]) ∧ Below w.heap.size w w' := by
  have HB := Lib.hid (fun o o' o'' => ((new_below w o).alloc (by simp) o').alloc (by simp; omega) o'')
  go_enter Tryz.func75, Tryz.ntmps75
  go_wp2_with (go_at_call 110; (with_reducible refine (HM.out _).mono ?_); rintro e w' ⟨rfl, rfl⟩)
  refine bodyPost_ret (v := .agg #[.int .u8 10, .int .u8 d, .int .u8 a, .int .u8 0, .int .i64 (m)]) (by simp [results, Tryz.results75, go_sem, *]) rfl ⟨rfl, ?_⟩
  repeat (first | exact HB.out _ _ _ | refine Below.setCell ?_ (by simp <;> omega) _)

set_option maxRecDepth 100000 in
set_option maxHeartbeats 4000000 in
theorem fit_11 (x : In) (i n d a b : Int) (q0 : x.o.tmod 15 = 11) (qd : x.d.tmod 8 = d) (qa : x.a.tmod 8 = a) (qb : x.b.tmod 8 = b) (w : World) :
    Calls Tryz.prog 75 #[.agg #[.int .u8 x.o, .int .u8 x.d, .int .u8 x.a, .int .u8 x.b, .int .i64 x.n], .int .i64 i, .int .i64 n, .bool false] w fun e w' => e = .returned (.agg #[.int .u8 11, .int .u8 d, .int .u8 a, .int .u8 b, .int .i64 (0)]) ∧ Below w.heap.size w w' := by
  have HB := Lib.hid (fun o o' o'' => ((new_below w o).alloc (by simp) o').alloc (by simp; omega) o'')
  go_enter Tryz.func75, Tryz.ntmps75
  go_wp2_with fail
  refine bodyPost_ret (v := .agg #[.int .u8 11, .int .u8 d, .int .u8 a, .int .u8 b, .int .i64 (0)]) (by simp [results, Tryz.results75, go_sem, *]) rfl ⟨rfl, ?_⟩
  repeat (first | exact HB.out _ _ _ | refine Below.setCell ?_ (by simp <;> omega) _)

set_option maxRecDepth 100000 in
set_option maxHeartbeats 4000000 in
theorem fit_12 (x : In) (i n a m k : Int) (q0 : x.o.tmod 15 = 12) (qa : x.a.tmod 8 = a) (gk : IntKind.i64.wrap (n - i) = k) (HM : Hid (∀ w, Calls Tryz.prog 110 #[.int .i64 x.n, .int .i64 k] w fun e w' => e = .returned (.int .i64 m) ∧ w = w')) (w : World) :
    Calls Tryz.prog 75 #[.agg #[.int .u8 x.o, .int .u8 x.d, .int .u8 x.a, .int .u8 x.b, .int .i64 x.n], .int .i64 i, .int .i64 n, .bool false] w fun e w' => e = .returned (.agg #[.int .u8 12, .int .u8 0, .int .u8 a, .int .u8 0, .int .i64 (m)]) ∧ Below w.heap.size w w' := by
  have HB := Lib.hid (fun o o' o'' => ((new_below w o).alloc (by simp) o').alloc (by simp; omega) o'')
  go_enter Tryz.func75, Tryz.ntmps75
  go_wp2_with (go_at_call 110; (with_reducible refine (HM.out _).mono ?_); rintro e w' ⟨rfl, rfl⟩)
  refine bodyPost_ret (v := .agg #[.int .u8 12, .int .u8 0, .int .u8 a, .int .u8 0, .int .i64 (m)]) (by simp [results, Tryz.results75, go_sem, *]) rfl ⟨rfl, ?_⟩
  repeat (first | exact HB.out _ _ _ | refine Below.setCell ?_ (by simp <;> omega) _)

set_option maxRecDepth 100000 in
set_option maxHeartbeats 4000000 in
theorem fit_13 (x : In) (i n a b y : Int) (q0 : x.o.tmod 15 = 13) (qa : x.a.tmod 8 = a) (qb : x.b.tmod 8 = b) (qy : x.d.tmod 5 = y) (w : World) :
    Calls Tryz.prog 75 #[.agg #[.int .u8 x.o, .int .u8 x.d, .int .u8 x.a, .int .u8 x.b, .int .i64 x.n], .int .i64 i, .int .i64 n, .bool false] w fun e w' => e = .returned (.agg #[.int .u8 13, .int .u8 y, .int .u8 a, .int .u8 b, .int .i64 (0)]) ∧ Below w.heap.size w w' := by
  have HB := Lib.hid (fun o o' o'' => ((new_below w o).alloc (by simp) o').alloc (by simp; omega) o'')
  go_enter Tryz.func75, Tryz.ntmps75
  go_wp2_with fail
  refine bodyPost_ret (v := .agg #[.int .u8 13, .int .u8 y, .int .u8 a, .int .u8 b, .int .i64 (0)]) (by simp [results, Tryz.results75, go_sem, *]) rfl ⟨rfl, ?_⟩
  repeat (first | exact HB.out _ _ _ | refine Below.setCell ?_ (by simp <;> omega) _)

set_option maxRecDepth 100000 in
set_option maxHeartbeats 4000000 in
theorem fit_14 (x : In) (i n a b y : Int) (q0 : x.o.tmod 15 = 14) (qa : x.a.tmod 8 = a) (qb : x.b.tmod 8 = b) (qy : x.d.tmod 5 = y) (w : World) :
    Calls Tryz.prog 75 #[.agg #[.int .u8 x.o, .int .u8 x.d, .int .u8 x.a, .int .u8 x.b, .int .i64 x.n], .int .i64 i, .int .i64 n, .bool false] w fun e w' => e = .returned (.agg #[.int .u8 14, .int .u8 y, .int .u8 a, .int .u8 b, .int .i64 (0)]) ∧ Below w.heap.size w w' := by
  have HB := Lib.hid (fun o o' o'' => ((new_below w o).alloc (by simp) o').alloc (by simp; omega) o'')
  go_enter Tryz.func75, Tryz.ntmps75
  go_wp2_with fail
  refine bodyPost_ret (v := .agg #[.int .u8 14, .int .u8 y, .int .u8 a, .int .u8 b, .int .i64 (0)]) (by simp [results, Tryz.results75, go_sem, *]) rfl ⟨rfl, ?_⟩
  repeat (first | exact HB.out _ _ _ | refine Below.setCell ?_ (by simp <;> omega) _)

/-- What fit makes of an instruction. -/
def fitI (x : In) (i n : Int) : In :=
  if x.o % 15 = 0 then ⟨0, x.d % 8, 0, 0, x.n % 4294967296 - 2147483648⟩
  else if x.o % 15 = 1 ∨ x.o % 15 = 9 ∨ x.o % 15 = 10 then ⟨x.o % 15, x.d % 8, x.a % 8, 0, if x.o % 15 = 1 then 0 else x.n % 32⟩
  else if x.o % 15 = 12 then ⟨12, 0, x.a % 8, 0, x.n % (n - i)⟩
  else if x.o % 15 = 13 ∨ x.o % 15 = 14 then ⟨x.o % 15, x.d % 5, x.a % 8, x.b % 8, 0⟩
  else ⟨x.o % 15, x.d % 8, x.a % 8, x.b % 8, 0⟩
set_option maxHeartbeats 1000000 in
theorem fit_any (x : In) (i n : Int) (hx : x.ok) (h0 : 0 ≤ i) (h1 : i < n) (h2 : n ≤ 100000) (w : World) :
    Calls Tryz.prog 75 #[.agg #[.int .u8 x.o, .int .u8 x.d, .int .u8 x.a, .int .u8 x.b, .int .i64 x.n], .int .i64 i, .int .i64 n, .bool false] w fun e w' => e = .returned (.agg #[.int .u8 (fitI x i n).o, .int .u8 (fitI x i n).d, .int .u8 (fitI x i n).a, .int .u8 (fitI x i n).b, .int .i64 (fitI x i n).n]) ∧ Below w.heap.size w w' := by
  obtain ⟨⟨o0, o1⟩, ⟨d0, d1⟩, ⟨a0, a1⟩, ⟨b0, b1⟩, hn⟩ := hx
  have qo := Int.tmod_eq_emod_of_nonneg (b := 15) o0
  have qd := Int.tmod_eq_emod_of_nonneg (b := 8) d0
  have qy := Int.tmod_eq_emod_of_nonneg (b := 5) d0
  have qa := Int.tmod_eq_emod_of_nonneg (b := 8) a0
  have qb := Int.tmod_eq_emod_of_nonneg (b := 8) b0
  have ms : ∀ b : Int, 0 < b → b ≤ 4611686018427387904 → ∀ w, Calls Tryz.prog 110 #[.int .i64 x.n, .int .i64 b] w fun e w' => e = .returned (.int .i64 (x.n % b)) ∧ w = w' := fun b h h' w => mod_any x.n b hn h h' w
  have gm : IntKind.i64.wrap (x.n % 4294967296 - 2147483648) = x.n % 4294967296 - 2147483648 := by rw [IntKind.wrap_i64]; omega
  have gk : IntKind.i64.wrap (n - i) = n - i := by rw [IntKind.wrap_i64]; omega
  have hop : x.o % 15 = 0 ∨ x.o % 15 = 1 ∨ x.o % 15 = 2 ∨ x.o % 15 = 3 ∨ x.o % 15 = 4 ∨ x.o % 15 = 5 ∨ x.o % 15 = 6 ∨ x.o % 15 = 7 ∨ x.o % 15 = 8 ∨ x.o % 15 = 9 ∨ x.o % 15 = 10 ∨ x.o % 15 = 11 ∨ x.o % 15 = 12 ∨ x.o % 15 = 13 ∨ x.o % 15 = 14 := by omega
  unfold fitI
  rcases hop with h | h | h | h | h | h | h | h | h | h | h | h | h | h | h
  · rw [h]
    exact fit_0 x i n _ _ (qo.trans h) qd gm (Lib.hid (ms 4294967296 (by omega) (by omega))) w
  · rw [h]
    exact fit_1 x i n _ _ (qo.trans h) qd qa w
  · rw [h]
    exact fit_2 x i n _ _ _ (qo.trans h) qd qa qb w
  · rw [h]
    exact fit_3 x i n _ _ _ (qo.trans h) qd qa qb w
  · rw [h]
    exact fit_4 x i n _ _ _ (qo.trans h) qd qa qb w
  · rw [h]
    exact fit_5 x i n _ _ _ (qo.trans h) qd qa qb w
  · rw [h]
    exact fit_6 x i n _ _ _ (qo.trans h) qd qa qb w
  · rw [h]
    exact fit_7 x i n _ _ _ (qo.trans h) qd qa qb w
  · rw [h]
    exact fit_8 x i n _ _ _ (qo.trans h) qd qa qb w
  · rw [h]
    exact fit_9 x i n _ _ _ (qo.trans h) qd qa (Lib.hid (ms 32 (by omega) (by omega))) w
  · rw [h]
    exact fit_10 x i n _ _ _ (qo.trans h) qd qa (Lib.hid (ms 32 (by omega) (by omega))) w
  · rw [h]
    exact fit_11 x i n _ _ _ (qo.trans h) qd qa qb w
  · rw [h]
    exact fit_12 x i n _ _ _ (qo.trans h) qa gk (Lib.hid (ms (n - i) (by omega) (by omega))) w
  · rw [h]
    exact fit_13 x i n _ _ _ (qo.trans h) qa qb qy w
  · rw [h]
    exact fit_14 x i n _ _ _ (qo.trans h) qa qb qy w
set_option maxHeartbeats 1000000 in
theorem fitI_one (x : In) (i n : Int) (h0 : 0 ≤ i) (h1 : i < n) : oneB (fitI x i n) i n = true := by
  have hop : x.o % 15 = 0 ∨ x.o % 15 = 1 ∨ x.o % 15 = 2 ∨ x.o % 15 = 3 ∨ x.o % 15 = 4 ∨ x.o % 15 = 5 ∨ x.o % 15 = 6 ∨ x.o % 15 = 7 ∨ x.o % 15 = 8 ∨ x.o % 15 = 9 ∨ x.o % 15 = 10 ∨ x.o % 15 = 11 ∨ x.o % 15 = 12 ∨ x.o % 15 = 13 ∨ x.o % 15 = 14 := by omega
  have e0 := Int.emod_nonneg x.n (show n - i ≠ 0 by omega)
  have e1 := Int.emod_lt_of_pos x.n (show 0 < n - i by omega)
  unfold oneB fitI
  refine decide_eq_true ?_
  rcases hop with h | h | h | h | h | h | h | h | h | h | h | h | h | h | h <;> rw [h] <;> simp [us, ms, lo, hi] <;> omega
set_option maxHeartbeats 1000000 in
theorem fitI_ok (x : In) (i n : Int) (h0 : 0 ≤ i) (h1 : i < n) (h2 : n ≤ 100000) : (fitI x i n).ok := by
  have hop : x.o % 15 = 0 ∨ x.o % 15 = 1 ∨ x.o % 15 = 2 ∨ x.o % 15 = 3 ∨ x.o % 15 = 4 ∨ x.o % 15 = 5 ∨ x.o % 15 = 6 ∨ x.o % 15 = 7 ∨ x.o % 15 = 8 ∨ x.o % 15 = 9 ∨ x.o % 15 = 10 ∨ x.o % 15 = 11 ∨ x.o % 15 = 12 ∨ x.o % 15 = 13 ∨ x.o % 15 = 14 := by omega
  have e0 := Int.emod_nonneg x.n (show n - i ≠ 0 by omega)
  have e1 := Int.emod_lt_of_pos x.n (show 0 < n - i by omega)
  unfold fitI
  rcases hop with h | h | h | h | h | h | h | h | h | h | h | h | h | h | h <;> rw [h] <;> constructor <;> simp <;> omega
end Go.Proofs.YtfmmfaeognoleaaGreat.C
/-
  The contracts of Samples and Target, of the program and of the reference; the statements' few.
-/
namespace Go.Proofs.YtfmmfaeognoleaaGreat.C
open Go.RowKit
attribute [local go_sem ↓] Go.wp_at_zero Go.wp_at_succ

/-- An instruction that asks for a picture. -/
def tex (x : In) : Bool := decide (x.o = 13 ∨ x.o = 14)
theorem us_tex (o : Int) : (us o = 15 ↔ o = 13 ∨ o = 14) ∧ (us o = 0 ∨ us o = 1 ∨ us o = 2 ∨ us o = 3 ∨ us o = 7 ∨ us o = 15) := by
  unfold us
  split
  · omega
  · split
    · omega
    · split
      · omega
      · split
        · omega
        · split
          · omega
          · omega
theorem any_hit {l : List In} {k : Nat} {u : In} (h : l[k]? = some u) (ht : tex u = true) : l.any tex = true := List.any_eq_true.2 ⟨u, List.mem_of_getElem? h, ht⟩
theorem any_none {l : List In} (h : ∀ (i : Nat) x, l[i]? = some x → tex x = false) : l.any tex = false := by
  rw [List.any_eq_false]
  intro x hx
  obtain ⟨i, hi⟩ := List.getElem?_of_mem hx
  rw [h i x hi]
  simp

set_option maxRecDepth 100000 in
set_option maxHeartbeats 4000000 in
theorem samples_any (l : List In) (A : Option Addr) (c : Nat) (hlen : l.length ≤ 100000) (hok : ∀ x ∈ l, x.ok) (w : World) (he : Es EI w w.heap.size A l) :
    Calls Tryz.prog 134 #[.slice A l.length c] w fun e w' => e = .returned (.bool (l.any tex)) ∧ Below w.heap.size w w' := by
  have HGd := Lib.hid (any_none (l := l))
  have HBd := Lib.hid (fun (k : Nat) (u : In) (h : l[k]? = some u) (hr : tex u = true) => any_hit h hr)
  have HL := Lib.hid (fun (k : Nat) (h : k < l.length) => get_lt h)
  generalize l.any tex = R at *
  obtain ⟨n, hn⟩ : ∃ n, l.length = n := ⟨_, rfl⟩
  rw [hn] at HL hlen ⊢
  have HE := Lib.hid he
  have HO := Lib.hid (fun x (h : x ∈ l) => hok x h)
  replace hn := Lib.hid hn
  clear he hok
  go_enter Tryz.func134, Tryz.ntmps134
  go_wp2_with fail
  go_loopw [7] (fun i wr => ∃ k : Nat, k ≤ n ∧ i = .int .i64 k ∧ (∀ (j : Nat) x, j < k → l[j]? = some x → tex x = false) ∧ Below w.heap.size w wr) (fun i _ => n - (intOf i).toNat)
  case atStart => exact ⟨0, Nat.zero_le _, rfl, fun j x h => absurd h (Nat.not_lt_zero _), Below.refl _ _⟩
  case round =>
    obtain ⟨k, hk, rfl, hin, hb⟩ := hrel
    have HB := Lib.hid hb
    have HI := Lib.hid hin
    clear hin hb
    by_cases hlt : k < n
    · obtain ⟨u, hu⟩ := HL.out k hlt
      obtain ⟨b, off, rfl, hbB, hat⟩ := HE.out.at hu
      obtain ⟨c0, c1, c2, c3, c4⟩ := atI (show AtE EI wr b (off + k * 5) u from hat.below HB.out hbB)
      have hbw := Nat.lt_of_lt_of_le hbB HB.out.size
      have HU := Lib.hid (fun w' => uses_any u.o (HO.out u (List.mem_of_getElem? hu)).o.1 w')
      have B2 := Lib.hid (bstep HB.out HB.out.size (new_below wr (inB u)))
      have hT := Lib.hid (us_tex u.o)
      replace hu := Lib.hid hu
      generalize us u.o = U at *
      clear hat
      go_wp2_with fail
      with_reducible refine (HU.out _).mono ?_
      rintro e w2 ⟨rfl, rfl⟩
      clear HU c0 c1 c2 c3 c4
      obtain ⟨ht, hs⟩ := hT.out
      clear hT
      rcases hs with rfl | rfl | rfl | rfl | rfl | rfl
      case inr.inr.inr.inr.inr =>
        obtain rfl : R = true := HBd.out k u hu.out (decide_eq_true (ht.1 rfl))
        clear ht
        go_wp2_with fail
        go_ret
        exact ⟨rfl, B2.out⟩
      all_goals
        replace ht := Lib.hid (show tex u = false from decide_eq_false (fun h => by have := ht.2 h; omega))
        go_wp2_with fail
        go_roundw
        case rel =>
          refine ⟨k + 1, by omega, by go_num, fun j x hj hx => ?_, B2.out⟩
          rcases Nat.lt_or_ge j k with h | h
          · exact HI.out j x h hx
          · obtain rfl : j = k := by omega
            have h5 := hu.out
            rw [hx] at h5
            cases h5
            exact ht.out
        case measure => simp [intOf]; omega
    · obtain rfl : k = n := by omega
      obtain rfl : R = false := HGd.out fun i x hx => HI.out i x (by have := (List.getElem?_eq_some_iff.1 hx).1; rw [hn.out] at this; exact this) hx
      go_wp2_with fail
      go_ret
      exact ⟨rfl, HB.out⟩

set_option maxRecDepth 100000 in
set_option maxHeartbeats 4000000 in
theorem rsamples_any (l : List In) (A : Option Addr) (c : Nat) (hlen : l.length ≤ 100000) (w : World) (he : Es EI w w.heap.size A l) :
    Calls Tryz.prog 78 #[.slice A l.length c] w fun e w' => e = .returned (.bool (l.any tex)) ∧ Below w.heap.size w w' := by
  have HGd := Lib.hid (any_none (l := l))
  have HBd := Lib.hid (fun (k : Nat) (u : In) (h : l[k]? = some u) (hr : tex u = true) => any_hit h hr)
  have HL := Lib.hid (fun (k : Nat) (h : k < l.length) => get_lt h)
  generalize l.any tex = R at *
  obtain ⟨n, hn⟩ : ∃ n, l.length = n := ⟨_, rfl⟩
  rw [hn] at HL hlen ⊢
  have HE := Lib.hid he
  replace hn := Lib.hid hn
  clear he
  go_enter Tryz.func78, Tryz.ntmps78
  go_wp2_with fail
  go_loopw [3] (fun i wr => ∃ k : Nat, k ≤ n ∧ i = .int .i64 k ∧ (∀ (j : Nat) x, j < k → l[j]? = some x → tex x = false) ∧ Below w.heap.size w wr) (fun i _ => n - (intOf i).toNat)
  case atStart => exact ⟨0, Nat.zero_le _, rfl, fun j x h => absurd h (Nat.not_lt_zero _), Below.refl _ _⟩
  case round =>
    obtain ⟨k, hk, rfl, hin, hb⟩ := hrel
    have HB := Lib.hid hb
    have HI := Lib.hid hin
    clear hin hb
    by_cases hlt : k < n
    · obtain ⟨u, hu⟩ := HL.out k hlt
      obtain ⟨b, off, rfl, hbB, hat⟩ := HE.out.at hu
      obtain ⟨c0, c1, c2, c3, c4⟩ := atI (show AtE EI wr b (off + k * 5) u from hat.below HB.out hbB)
      have hbw := Nat.lt_of_lt_of_le hbB HB.out.size
      replace hu := Lib.hid hu
      clear hat c1 c2 c3 c4
      by_cases k13 : u.o = 13
      · obtain rfl : R = true := HBd.out k u hu.out (decide_eq_true (Or.inl k13))
        have f13 : (u.o == 13) = true := by simpa using k13
        go_wp2_with fail
        go_ret
        exact ⟨rfl, HB.out⟩
      have f13 : (u.o == 13) = false := by simpa using k13
      by_cases k14 : u.o = 14
      · obtain rfl : R = true := HBd.out k u hu.out (decide_eq_true (Or.inr k14))
        have f14 : (u.o == 14) = true := by simpa using k14
        go_wp2_with fail
        go_ret
        exact ⟨rfl, HB.out⟩
      have f14 : (u.o == 14) = false := by simpa using k14
      have ht := Lib.hid (show tex u = false from decide_eq_false (by omega))
      go_wp2_with fail
      go_roundw
      case rel =>
        refine ⟨k + 1, by omega, by go_num, fun j x hj hx => ?_, HB.out⟩
        rcases Nat.lt_or_ge j k with h | h
        · exact HI.out j x h hx
        · obtain rfl : j = k := by omega
          have h5 := hu.out
          rw [hx] at h5
          cases h5
          exact ht.out
      case measure => simp [intOf]; omega
    · obtain rfl : k = n := by omega
      obtain rfl : R = false := HGd.out fun i x hx => HI.out i x (by have := (List.getElem?_eq_some_iff.1 hx).1; rw [hn.out] at this; exact this) hx
      go_wp2_with fail
      go_ret
      exact ⟨rfl, HB.out⟩

theorem Es.take {w : World} {B : Nat} {A : Option Addr} {xs : List In} (h : Es EI w B A xs) (k : Nat) : Es EI w B A (xs.take k) := fun hne => by
  obtain ⟨b, off, e, hb, hc⟩ := h (by rintro rfl; simp at hne)
  refine ⟨b, off, e, hb, fun j u hj => hc j u ?_⟩
  rw [List.getElem?_take] at hj
  split at hj
  · exact hj
  · cases hj
end Go.Proofs.YtfmmfaeognoleaaGreat.C
/-
  The contract of the reference's Fit: a program that may be, of any one.
-/
namespace Go.Proofs.YtfmmfaeognoleaaGreat.C
open Go.RowKit
attribute [local go_sem ↓] Go.wp_at_zero Go.wp_at_succ

def mov : In := ⟨1, 0, 0, 0, 0⟩
/-- How many instructions Fit tells of so many. -/
def fitN (n : Nat) : Nat := min n 32
def fitAt (l : List In) (i : Nat) : In := fitI (l.getD i mov) i (fitN l.length)
def fitP (l : List In) : List In := if l.length = 0 then [mov] else (List.range (fitN l.length)).map (fitAt l)
theorem mov_ok : mov.ok := by unfold mov; constructor <;> decide
theorem getD_ok {l : List In} (h : ∀ x ∈ l, x.ok) (i : Nat) : (l.getD i mov).ok := by
  rw [List.getD_eq_getElem?_getD]
  cases e : l[i]? with
  | none => exact mov_ok
  | some c => exact h c (List.mem_of_getElem? e)
theorem fitP_len (l : List In) : 1 ≤ (fitP l).length ∧ (fitP l).length ≤ 32 := by
  unfold fitP fitN
  split
  · exact ⟨Nat.le_refl _, by decide⟩
  · simp; omega
theorem fitP_one (l : List In) : ∀ (i : Nat) x, (fitP l)[i]? = some x → oneB x i (fitP l).length = true ∧ ((∀ y ∈ l, y.ok) → x.ok) := by
  unfold fitP
  intro i x hi
  split at hi
  · rename_i h0
    rw [if_pos h0]
    match i, hi with
    | 0, hi =>
      obtain rfl : mov = x := by simpa using hi
      exact ⟨by decide, fun _ => mov_ok⟩
    | i + 1, hi => simp at hi
  · rename_i h0
    rw [if_neg h0]
    rw [List.getElem?_map] at hi
    have hil : i < fitN l.length := by
      rcases Nat.lt_or_ge i (fitN l.length) with h | h
      · exact h
      · rw [List.getElem?_eq_none (by simpa using h)] at hi; cases hi
    rw [List.getElem?_range hil] at hi
    obtain rfl : fitAt l i = x := by simpa using hi
    have hN : fitN l.length ≤ 32 := by unfold fitN; omega
    rw [List.length_map, List.length_range]
    refine ⟨fitI_one _ _ _ (by omega) (by omega), fun hok => fitI_ok _ _ _ (by omega) (by omega) (by omega)⟩
theorem fitP_ok {l : List In} (hok : ∀ y ∈ l, y.ok) : ∀ x ∈ fitP l, x.ok := by
  intro x hx
  obtain ⟨i, hi⟩ := List.getElem?_of_mem hx
  exact (fitP_one l i x hi).2 hok
theorem fitP_chk (l : List In) : chk (fitP l) = 0 := chk_good (by have := fitP_len l; omega) (by have := fitP_len l; omega) fun i x hi => (fitP_one l i x hi).1
theorem new_keep {w : World} {g : Nat} {x : Obj} (o : Obj) (h : w.heap[g]? = some x) : (w.alloc o).heap[g]? = some x := by
  rw [Below.heap_alloc _ _ _ (Array.getElem?_eq_some_iff.1 h).1]
  exact h
theorem newI_at {w : World} {u : In} {g : Nat} (hg : g = w.heap.size) : ∀ j x, (EI.cells u)[j]? = some x → (w.alloc (.cells #[.int .u8 u.o, .int .u8 u.d, .int .u8 u.a, .int .u8 u.b, .int .i64 u.n] 76)).cell? ((⟨g, 0, none⟩ : Addr).add j) = some x := by
  subst hg
  exact new_el (E := EI) w u _ rfl
theorem range_snoc (f : Nat → In) (k : Nat) : (List.range (k + 1)).map f = (List.range k).map f ++ [f k] := by rw [List.range_succ, List.map_append]; rfl
theorem ownI_new (w : World) (xs : List In) (cs : Array Value) (h : cs.toList = EI.flat xs) (hl : xs.length ≤ 100000) : OwnE EI (w.alloc (.cells cs 76)) w.heap.size (.slice (some ⟨w.heap.size, 0, none⟩) xs.length xs.length) xs := by
  have hs : cs.size = xs.length * 5 := by
    have := EI.flat_length xs
    rw [← h, Array.length_toList] at this
    exact this
  exact ⟨by rw [EI.flat_length], .inr ⟨w.heap.size, xs.length, cs, rfl, Nat.le_refl _, heap_alloc_new _ _, Nat.le_refl _, by unfold maxLen; omega, hs, by rw [h]; exact List.take_of_length_le (Nat.le_of_eq (EI.flat_length xs))⟩⟩

theorem Tryz.info76 : (Tryz.prog.info? 76).map (fun i => (i.zero, i.size, i.bytes)) = some (some (.agg #[.int .u8 0, .int .u8 0, .int .u8 0, .int .u8 0, .int .i64 0]), 5, 16) := by kernel_rfl

set_option maxRecDepth 100000 in
set_option maxHeartbeats 4000000 in
theorem Fit_any (l : List In) (A : Option Addr) (c : Nat) (hok : ∀ x ∈ l, x.ok) (w : World) (he : Es EI w w.heap.size A l) :
    Calls Tryz.prog 35 #[.slice A l.length c, .bool false] w (MadeE EI w.heap.size w (fitP l)) := by
  by_cases h0 : l.length = 0
  · have e : fitP l = [mov] := if_pos h0
    rw [e, h0]
    have HO := Lib.hid (ownI_new w [mov] #[.int .u8 1, .int .u8 0, .int .u8 0, .int .u8 0, .int .i64 0] rfl (by decide))
    have HB := Lib.hid (new_below w (.cells #[.int .u8 1, .int .u8 0, .int .u8 0, .int .u8 0, .int .i64 0] 76))
    go_enter Tryz.func35, Tryz.ntmps35
    go_wp2_with fail
    go_ret
    exact ⟨_, rfl, HO.out, HB.out⟩
  obtain ⟨i0, hi, hz0, hz1, hz2⟩ := info_parts Tryz.info76
  have HI := Lib.hid hi
  have HZ := Lib.hid (And.intro hz0 (And.intro hz1 hz2))
  clear hi hz0 hz1 hz2
  have e : fitP l = (List.range (fitN l.length)).map (fitAt l) := if_neg h0
  rw [e]
  have hmin : min (l.length : Int) 32 = (fitN l.length : Int) := by unfold fitN; omega
  have hml : fitN l.length ≤ l.length := by unfold fitN; omega
  have hm32 : fitN l.length ≤ 32 := by unfold fitN; omega
  have HFA := Lib.hid (fun (k : Nat) (u : In) (h : l[k]? = some u) => show fitAt l k = fitI u k (fitN l.length) by unfold fitAt; rw [List.getD_eq_getElem?_getD, h]; rfl)
  have HL := Lib.hid (fun (k : Nat) (h : k < l.length) => get_lt h)
  have HE := Lib.hid he
  have HK := Lib.hid (fun x (h : x ∈ l) => hok x h)
  generalize fitN l.length = m at *
  generalize l.length = n at *
  have hn0 : ((n : Int) == 0) = false := by simpa using (show ¬ (n : Int) = 0 by omega)
  have HB0 := Lib.hid (new_below w (.cells #[] 76))
  have HO0 := Lib.hid (ownE_empty (E := EI) w (Nat.le_refl w.heap.size))
  clear he hok e h0
  go_enter Tryz.func35, Tryz.ntmps35
  go_wp2_with fail
  go_loopw [6, 7] (fun b i wr => ∃ k : Nat, k ≤ m ∧ i = .int .i64 k ∧ Below w.heap.size w wr ∧ OwnE EI wr w.heap.size b ((List.range k).map (fitAt l))) (fun _ i _ => m - (intOf i).toNat)
  case atStart => exact ⟨0, Nat.zero_le _, rfl, HB0.out, HO0.out⟩
  case round =>
    obtain ⟨k, hk, rfl, hb, ho⟩ := hrel
    obtain ⟨A1, c1, rfl⟩ := ho.form
    have HB := Lib.hid hb
    have HO := Lib.hid ho
    clear hb ho
    by_cases hlt : k < m
    · obtain ⟨x, hx⟩ := HL.out k (by omega)
      obtain ⟨b, off, rfl, hbB, hat⟩ := HE.out.at hx
      obtain ⟨c0, c1', c2, c3, c4⟩ := atI (show AtE EI wr b (off + k * 5) x from hat.below HB.out hbB)
      have hbw := Nat.lt_of_lt_of_le hbB HB.out.size
      have HU := Lib.hid (fun w' => fit_any x k m (HK.out x (List.mem_of_getElem? hx)) (by omega) (by omega) (by omega) w')
      have hu := HFA.out k x hx
      obtain ⟨u, hfu⟩ : ∃ u, fitI x k m = u := ⟨_, rfl⟩
      rw [hfu] at HU hu
      have HS := Lib.hid (show (List.range (k + 1)).map (fitAt l) = (List.range k).map (fitAt l) ++ [u] by rw [range_snoc, hu])
      have hcl : ((List.range k).map (fitAt l)).length = k := by simp
      generalize (List.range k).map (fitAt l) = cs at *
      have HC := Lib.hid hcl
      have hc256 : cs.length ≤ 256 := by omega
      clear hcl hat hx hu hfu
      go_wp2_with fail
      with_reducible refine (HU.out _).mono ?_
      rintro e w2 ⟨rfl, hb2⟩
      have B2 := Lib.hid (bstep HB.out HB.out.size hb2)
      have O1 := Lib.hid (HO.out.keep hb2)
      have O2 := Lib.hid (O1.out.alloc (.cells #[.int .u8 u.o, .int .u8 u.d, .int .u8 u.a, .int .u8 u.b, .int .i64 u.n] 76))
      have hz2 : w.heap.size ≤ w2.heap.size := B2.out.size
      clear hb2 HU c0 c1' c2 c3 c4
      go_wp2_with (at_builtin; refine wpList_append_own _ rfl _ _ 48 rfl w.heap.size 76 i0 _ 5 16 Tryz.underlying48 HI.out HZ.out.1 HZ.out.2.1 HZ.out.2.2 (by kernel_rfl) (by decide) _ _ (EI.flat cs) rfl O2.out.row _ 1 1 (EI.cells u) rfl rfl (newI_at rfl) (EI.one _) (by unfold maxLen; omega) (by omega) (by simp; omega) ?_; intro v' w6 hown' hgrow _; obtain ⟨ho6, hb6⟩ := append_ofE (E := EI) (x := u) O1.out (by omega) hown' hgrow; obtain ⟨A2, c2', rfl⟩ := ho6.form; have O6 := Lib.hid ho6; have B6 := Lib.hid hb6; clear hown' hgrow ho6 hb6)
      go_roundw
      case rel =>
        exact ⟨k + 1, by omega, by go_num, B2.out.trans B6.out, by rw [HS.out]; have h := O6.out; rw [List.length_append] at h; exact h⟩
      case measure => simp [intOf]; omega
    · obtain rfl : k = m := by omega
      go_wp2_with fail
      go_ret
      exact ⟨_, rfl, HO.out, HB.out⟩
end Go.Proofs.YtfmmfaeognoleaaGreat.C
