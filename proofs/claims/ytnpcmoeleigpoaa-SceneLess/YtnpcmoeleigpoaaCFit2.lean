/-
  The contract of the reference's fit: an instruction that may stand at a place, of any one.
-/
import Derived.Test.YtnpcmoeleigpoaaCFit1
namespace Go.Proofs.Ytnpcmoeleigpoaa.C
open Go.RowKit
attribute [local go_sem ↓] Go.wp_at_zero Go.wp_at_succ

set_option maxRecDepth 100000 in
set_option maxHeartbeats 4000000 in
theorem fit_0 (x : In) (i n d m : Int) (q0 : x.o.tmod 15 = 0) (qd : x.d.tmod 8 = d) (gm : IntKind.i64.wrap (m - 2147483648) = m - 2147483648) (HM : Hid (∀ w, Calls Try.prog 59 #[.int .i64 x.n, .int .i64 4294967296] w fun e w' => e = .returned (.int .i64 m) ∧ w = w')) (w : World) :
    Calls Try.prog 42 #[.agg #[.int .u8 x.o, .int .u8 x.d, .int .u8 x.a, .int .u8 x.b, .int .i64 x.n], .int .i64 i, .int .i64 n, .bool false] w fun e w' => e = .returned (.agg #[.int .u8 0, .int .u8 d, .int .u8 0, .int .u8 0, .int .i64 (m - 2147483648)]) ∧ Below w.heap.size w w' := by
  have HB := Lib.hid (fun o o' o'' => ((new_below w o).alloc (by simp) o').alloc (by simp; omega) o'')
  go_enter Try.func42, Try.ntmps42
  go_wp2_with (go_at_call 59; (with_reducible refine (HM.out _).mono ?_); rintro e w' ⟨rfl, rfl⟩)
  refine bodyPost_ret (v := .agg #[.int .u8 0, .int .u8 d, .int .u8 0, .int .u8 0, .int .i64 (m - 2147483648)]) (by simp [results, Try.results42, go_sem, *]) rfl ⟨rfl, ?_⟩
  repeat (first | exact HB.out _ _ _ | refine Below.setCell ?_ (by simp <;> omega) _)

set_option maxRecDepth 100000 in
set_option maxHeartbeats 4000000 in
theorem fit_1 (x : In) (i n d a : Int) (q0 : x.o.tmod 15 = 1) (qd : x.d.tmod 8 = d) (qa : x.a.tmod 8 = a) (w : World) :
    Calls Try.prog 42 #[.agg #[.int .u8 x.o, .int .u8 x.d, .int .u8 x.a, .int .u8 x.b, .int .i64 x.n], .int .i64 i, .int .i64 n, .bool false] w fun e w' => e = .returned (.agg #[.int .u8 1, .int .u8 d, .int .u8 a, .int .u8 0, .int .i64 (0)]) ∧ Below w.heap.size w w' := by
  have HB := Lib.hid (fun o o' o'' => ((new_below w o).alloc (by simp) o').alloc (by simp; omega) o'')
  go_enter Try.func42, Try.ntmps42
  go_wp2_with fail
  refine bodyPost_ret (v := .agg #[.int .u8 1, .int .u8 d, .int .u8 a, .int .u8 0, .int .i64 (0)]) (by simp [results, Try.results42, go_sem, *]) rfl ⟨rfl, ?_⟩
  repeat (first | exact HB.out _ _ _ | refine Below.setCell ?_ (by simp <;> omega) _)

set_option maxRecDepth 100000 in
set_option maxHeartbeats 4000000 in
theorem fit_2 (x : In) (i n d a b : Int) (q0 : x.o.tmod 15 = 2) (qd : x.d.tmod 8 = d) (qa : x.a.tmod 8 = a) (qb : x.b.tmod 8 = b) (w : World) :
    Calls Try.prog 42 #[.agg #[.int .u8 x.o, .int .u8 x.d, .int .u8 x.a, .int .u8 x.b, .int .i64 x.n], .int .i64 i, .int .i64 n, .bool false] w fun e w' => e = .returned (.agg #[.int .u8 2, .int .u8 d, .int .u8 a, .int .u8 b, .int .i64 (0)]) ∧ Below w.heap.size w w' := by
  have HB := Lib.hid (fun o o' o'' => ((new_below w o).alloc (by simp) o').alloc (by simp; omega) o'')
  go_enter Try.func42, Try.ntmps42
  go_wp2_with fail
  refine bodyPost_ret (v := .agg #[.int .u8 2, .int .u8 d, .int .u8 a, .int .u8 b, .int .i64 (0)]) (by simp [results, Try.results42, go_sem, *]) rfl ⟨rfl, ?_⟩
  repeat (first | exact HB.out _ _ _ | refine Below.setCell ?_ (by simp <;> omega) _)

set_option maxRecDepth 100000 in
set_option maxHeartbeats 4000000 in
theorem fit_3 (x : In) (i n d a b : Int) (q0 : x.o.tmod 15 = 3) (qd : x.d.tmod 8 = d) (qa : x.a.tmod 8 = a) (qb : x.b.tmod 8 = b) (w : World) :
    Calls Try.prog 42 #[.agg #[.int .u8 x.o, .int .u8 x.d, .int .u8 x.a, .int .u8 x.b, .int .i64 x.n], .int .i64 i, .int .i64 n, .bool false] w fun e w' => e = .returned (.agg #[.int .u8 3, .int .u8 d, .int .u8 a, .int .u8 b, .int .i64 (0)]) ∧ Below w.heap.size w w' := by
  have HB := Lib.hid (fun o o' o'' => ((new_below w o).alloc (by simp) o').alloc (by simp; omega) o'')
  go_enter Try.func42, Try.ntmps42
  go_wp2_with fail
  refine bodyPost_ret (v := .agg #[.int .u8 3, .int .u8 d, .int .u8 a, .int .u8 b, .int .i64 (0)]) (by simp [results, Try.results42, go_sem, *]) rfl ⟨rfl, ?_⟩
  repeat (first | exact HB.out _ _ _ | refine Below.setCell ?_ (by simp <;> omega) _)

set_option maxRecDepth 100000 in
set_option maxHeartbeats 4000000 in
theorem fit_4 (x : In) (i n d a b : Int) (q0 : x.o.tmod 15 = 4) (qd : x.d.tmod 8 = d) (qa : x.a.tmod 8 = a) (qb : x.b.tmod 8 = b) (w : World) :
    Calls Try.prog 42 #[.agg #[.int .u8 x.o, .int .u8 x.d, .int .u8 x.a, .int .u8 x.b, .int .i64 x.n], .int .i64 i, .int .i64 n, .bool false] w fun e w' => e = .returned (.agg #[.int .u8 4, .int .u8 d, .int .u8 a, .int .u8 b, .int .i64 (0)]) ∧ Below w.heap.size w w' := by
  have HB := Lib.hid (fun o o' o'' => ((new_below w o).alloc (by simp) o').alloc (by simp; omega) o'')
  go_enter Try.func42, Try.ntmps42
  go_wp2_with fail
  refine bodyPost_ret (v := .agg #[.int .u8 4, .int .u8 d, .int .u8 a, .int .u8 b, .int .i64 (0)]) (by simp [results, Try.results42, go_sem, *]) rfl ⟨rfl, ?_⟩
  repeat (first | exact HB.out _ _ _ | refine Below.setCell ?_ (by simp <;> omega) _)

set_option maxRecDepth 100000 in
set_option maxHeartbeats 4000000 in
theorem fit_5 (x : In) (i n d a b : Int) (q0 : x.o.tmod 15 = 5) (qd : x.d.tmod 8 = d) (qa : x.a.tmod 8 = a) (qb : x.b.tmod 8 = b) (w : World) :
    Calls Try.prog 42 #[.agg #[.int .u8 x.o, .int .u8 x.d, .int .u8 x.a, .int .u8 x.b, .int .i64 x.n], .int .i64 i, .int .i64 n, .bool false] w fun e w' => e = .returned (.agg #[.int .u8 5, .int .u8 d, .int .u8 a, .int .u8 b, .int .i64 (0)]) ∧ Below w.heap.size w w' := by
  have HB := Lib.hid (fun o o' o'' => ((new_below w o).alloc (by simp) o').alloc (by simp; omega) o'')
  go_enter Try.func42, Try.ntmps42
  go_wp2_with fail
  refine bodyPost_ret (v := .agg #[.int .u8 5, .int .u8 d, .int .u8 a, .int .u8 b, .int .i64 (0)]) (by simp [results, Try.results42, go_sem, *]) rfl ⟨rfl, ?_⟩
  repeat (first | exact HB.out _ _ _ | refine Below.setCell ?_ (by simp <;> omega) _)

set_option maxRecDepth 100000 in
set_option maxHeartbeats 4000000 in
theorem fit_6 (x : In) (i n d a b : Int) (q0 : x.o.tmod 15 = 6) (qd : x.d.tmod 8 = d) (qa : x.a.tmod 8 = a) (qb : x.b.tmod 8 = b) (w : World) :
    Calls Try.prog 42 #[.agg #[.int .u8 x.o, .int .u8 x.d, .int .u8 x.a, .int .u8 x.b, .int .i64 x.n], .int .i64 i, .int .i64 n, .bool false] w fun e w' => e = .returned (.agg #[.int .u8 6, .int .u8 d, .int .u8 a, .int .u8 b, .int .i64 (0)]) ∧ Below w.heap.size w w' := by
  have HB := Lib.hid (fun o o' o'' => ((new_below w o).alloc (by simp) o').alloc (by simp; omega) o'')
  go_enter Try.func42, Try.ntmps42
  go_wp2_with fail
  refine bodyPost_ret (v := .agg #[.int .u8 6, .int .u8 d, .int .u8 a, .int .u8 b, .int .i64 (0)]) (by simp [results, Try.results42, go_sem, *]) rfl ⟨rfl, ?_⟩
  repeat (first | exact HB.out _ _ _ | refine Below.setCell ?_ (by simp <;> omega) _)

set_option maxRecDepth 100000 in
set_option maxHeartbeats 4000000 in
theorem fit_7 (x : In) (i n d a b : Int) (q0 : x.o.tmod 15 = 7) (qd : x.d.tmod 8 = d) (qa : x.a.tmod 8 = a) (qb : x.b.tmod 8 = b) (w : World) :
    Calls Try.prog 42 #[.agg #[.int .u8 x.o, .int .u8 x.d, .int .u8 x.a, .int .u8 x.b, .int .i64 x.n], .int .i64 i, .int .i64 n, .bool false] w fun e w' => e = .returned (.agg #[.int .u8 7, .int .u8 d, .int .u8 a, .int .u8 b, .int .i64 (0)]) ∧ Below w.heap.size w w' := by
  have HB := Lib.hid (fun o o' o'' => ((new_below w o).alloc (by simp) o').alloc (by simp; omega) o'')
  go_enter Try.func42, Try.ntmps42
  go_wp2_with fail
  refine bodyPost_ret (v := .agg #[.int .u8 7, .int .u8 d, .int .u8 a, .int .u8 b, .int .i64 (0)]) (by simp [results, Try.results42, go_sem, *]) rfl ⟨rfl, ?_⟩
  repeat (first | exact HB.out _ _ _ | refine Below.setCell ?_ (by simp <;> omega) _)

set_option maxRecDepth 100000 in
set_option maxHeartbeats 4000000 in
theorem fit_8 (x : In) (i n d a b : Int) (q0 : x.o.tmod 15 = 8) (qd : x.d.tmod 8 = d) (qa : x.a.tmod 8 = a) (qb : x.b.tmod 8 = b) (w : World) :
    Calls Try.prog 42 #[.agg #[.int .u8 x.o, .int .u8 x.d, .int .u8 x.a, .int .u8 x.b, .int .i64 x.n], .int .i64 i, .int .i64 n, .bool false] w fun e w' => e = .returned (.agg #[.int .u8 8, .int .u8 d, .int .u8 a, .int .u8 b, .int .i64 (0)]) ∧ Below w.heap.size w w' := by
  have HB := Lib.hid (fun o o' o'' => ((new_below w o).alloc (by simp) o').alloc (by simp; omega) o'')
  go_enter Try.func42, Try.ntmps42
  go_wp2_with fail
  refine bodyPost_ret (v := .agg #[.int .u8 8, .int .u8 d, .int .u8 a, .int .u8 b, .int .i64 (0)]) (by simp [results, Try.results42, go_sem, *]) rfl ⟨rfl, ?_⟩
  repeat (first | exact HB.out _ _ _ | refine Below.setCell ?_ (by simp <;> omega) _)

set_option maxRecDepth 100000 in
set_option maxHeartbeats 4000000 in
theorem fit_9 (x : In) (i n d a m : Int) (q0 : x.o.tmod 15 = 9) (qd : x.d.tmod 8 = d) (qa : x.a.tmod 8 = a) (HM : Hid (∀ w, Calls Try.prog 59 #[.int .i64 x.n, .int .i64 32] w fun e w' => e = .returned (.int .i64 m) ∧ w = w')) (w : World) :
    Calls Try.prog 42 #[.agg #[.int .u8 x.o, .int .u8 x.d, .int .u8 x.a, .int .u8 x.b, .int .i64 x.n], .int .i64 i, .int .i64 n, .bool false] w fun e w' => e = .returned (.agg #[.int .u8 9, .int .u8 d, .int .u8 a, .int .u8 0, .int .i64 (m)]) ∧ Below w.heap.size w w' := by
  have HB := Lib.hid (fun o o' o'' => ((new_below w o).alloc (by simp) o').alloc (by simp; omega) o'')
  go_enter Try.func42, Try.ntmps42
  go_wp2_with (go_at_call 59; (with_reducible refine (HM.out _).mono ?_); rintro e w' ⟨rfl, rfl⟩)
  refine bodyPost_ret (v := .agg #[.int .u8 9, .int .u8 d, .int .u8 a, .int .u8 0, .int .i64 (m)]) (by simp [results, Try.results42, go_sem, *]) rfl ⟨rfl, ?_⟩
  repeat (first | exact HB.out _ _ _ | refine Below.setCell ?_ (by simp <;> omega) _)

set_option maxRecDepth 100000 in
set_option maxHeartbeats 4000000 in
theorem fit_10 (x : In) (i n d a m : Int) (q0 : x.o.tmod 15 = 10) (qd : x.d.tmod 8 = d) (qa : x.a.tmod 8 = a) (HM : Hid (∀ w, Calls Try.prog 59 #[.int .i64 x.n, .int .i64 32] w fun e w' => e = .returned (.int .i64 m) ∧ w = w')) (w : World) :
    Calls Try.prog 42 #[.agg #[.int .u8 x.o, .int .u8 x.d, .int .u8 x.a, .int .u8 x.b, .int .i64 x.n], .int .i64 i, .int .i64 n, .bool false] w fun e w' => e = .returned (.agg #[.int .u8 10, .int .u8 d, .int .u8 a, .int .u8 0, .int .i64 (m)]) ∧ Below w.heap.size w w' := by
  have HB := Lib.hid (fun o o' o'' => ((new_below w o).alloc (by simp) o').alloc (by simp; omega) o'')
  go_enter Try.func42, Try.ntmps42
  go_wp2_with (go_at_call 59; (with_reducible refine (HM.out _).mono ?_); rintro e w' ⟨rfl, rfl⟩)
  refine bodyPost_ret (v := .agg #[.int .u8 10, .int .u8 d, .int .u8 a, .int .u8 0, .int .i64 (m)]) (by simp [results, Try.results42, go_sem, *]) rfl ⟨rfl, ?_⟩
  repeat (first | exact HB.out _ _ _ | refine Below.setCell ?_ (by simp <;> omega) _)

set_option maxRecDepth 100000 in
set_option maxHeartbeats 4000000 in
theorem fit_11 (x : In) (i n d a b : Int) (q0 : x.o.tmod 15 = 11) (qd : x.d.tmod 8 = d) (qa : x.a.tmod 8 = a) (qb : x.b.tmod 8 = b) (w : World) :
    Calls Try.prog 42 #[.agg #[.int .u8 x.o, .int .u8 x.d, .int .u8 x.a, .int .u8 x.b, .int .i64 x.n], .int .i64 i, .int .i64 n, .bool false] w fun e w' => e = .returned (.agg #[.int .u8 11, .int .u8 d, .int .u8 a, .int .u8 b, .int .i64 (0)]) ∧ Below w.heap.size w w' := by
  have HB := Lib.hid (fun o o' o'' => ((new_below w o).alloc (by simp) o').alloc (by simp; omega) o'')
  go_enter Try.func42, Try.ntmps42
  go_wp2_with fail
  refine bodyPost_ret (v := .agg #[.int .u8 11, .int .u8 d, .int .u8 a, .int .u8 b, .int .i64 (0)]) (by simp [results, Try.results42, go_sem, *]) rfl ⟨rfl, ?_⟩
  repeat (first | exact HB.out _ _ _ | refine Below.setCell ?_ (by simp <;> omega) _)

set_option maxRecDepth 100000 in
set_option maxHeartbeats 4000000 in
theorem fit_12 (x : In) (i n a m k : Int) (q0 : x.o.tmod 15 = 12) (qa : x.a.tmod 8 = a) (gk : IntKind.i64.wrap (n - i) = k) (HM : Hid (∀ w, Calls Try.prog 59 #[.int .i64 x.n, .int .i64 k] w fun e w' => e = .returned (.int .i64 m) ∧ w = w')) (w : World) :
    Calls Try.prog 42 #[.agg #[.int .u8 x.o, .int .u8 x.d, .int .u8 x.a, .int .u8 x.b, .int .i64 x.n], .int .i64 i, .int .i64 n, .bool false] w fun e w' => e = .returned (.agg #[.int .u8 12, .int .u8 0, .int .u8 a, .int .u8 0, .int .i64 (m)]) ∧ Below w.heap.size w w' := by
  have HB := Lib.hid (fun o o' o'' => ((new_below w o).alloc (by simp) o').alloc (by simp; omega) o'')
  go_enter Try.func42, Try.ntmps42
  go_wp2_with (go_at_call 59; (with_reducible refine (HM.out _).mono ?_); rintro e w' ⟨rfl, rfl⟩)
  refine bodyPost_ret (v := .agg #[.int .u8 12, .int .u8 0, .int .u8 a, .int .u8 0, .int .i64 (m)]) (by simp [results, Try.results42, go_sem, *]) rfl ⟨rfl, ?_⟩
  repeat (first | exact HB.out _ _ _ | refine Below.setCell ?_ (by simp <;> omega) _)

set_option maxRecDepth 100000 in
set_option maxHeartbeats 4000000 in
theorem fit_13 (x : In) (i n a b y : Int) (q0 : x.o.tmod 15 = 13) (qa : x.a.tmod 8 = a) (qb : x.b.tmod 8 = b) (qy : x.d.tmod 5 = y) (w : World) :
    Calls Try.prog 42 #[.agg #[.int .u8 x.o, .int .u8 x.d, .int .u8 x.a, .int .u8 x.b, .int .i64 x.n], .int .i64 i, .int .i64 n, .bool false] w fun e w' => e = .returned (.agg #[.int .u8 13, .int .u8 y, .int .u8 a, .int .u8 b, .int .i64 (0)]) ∧ Below w.heap.size w w' := by
  have HB := Lib.hid (fun o o' o'' => ((new_below w o).alloc (by simp) o').alloc (by simp; omega) o'')
  go_enter Try.func42, Try.ntmps42
  go_wp2_with fail
  refine bodyPost_ret (v := .agg #[.int .u8 13, .int .u8 y, .int .u8 a, .int .u8 b, .int .i64 (0)]) (by simp [results, Try.results42, go_sem, *]) rfl ⟨rfl, ?_⟩
  repeat (first | exact HB.out _ _ _ | refine Below.setCell ?_ (by simp <;> omega) _)

set_option maxRecDepth 100000 in
set_option maxHeartbeats 4000000 in
theorem fit_14 (x : In) (i n a b y : Int) (q0 : x.o.tmod 15 = 14) (qa : x.a.tmod 8 = a) (qb : x.b.tmod 8 = b) (qy : x.d.tmod 5 = y) (w : World) :
    Calls Try.prog 42 #[.agg #[.int .u8 x.o, .int .u8 x.d, .int .u8 x.a, .int .u8 x.b, .int .i64 x.n], .int .i64 i, .int .i64 n, .bool false] w fun e w' => e = .returned (.agg #[.int .u8 14, .int .u8 y, .int .u8 a, .int .u8 b, .int .i64 (0)]) ∧ Below w.heap.size w w' := by
  have HB := Lib.hid (fun o o' o'' => ((new_below w o).alloc (by simp) o').alloc (by simp; omega) o'')
  go_enter Try.func42, Try.ntmps42
  go_wp2_with fail
  refine bodyPost_ret (v := .agg #[.int .u8 14, .int .u8 y, .int .u8 a, .int .u8 b, .int .i64 (0)]) (by simp [results, Try.results42, go_sem, *]) rfl ⟨rfl, ?_⟩
  repeat (first | exact HB.out _ _ _ | refine Below.setCell ?_ (by simp <;> omega) _)

/-- What fit makes of an instruction. -/
def fitI (x : In) (i n : Int) : In :=
  if x.o % 15 = 0 then ⟨0, x.d % 8, 0, 0, x.n % 4294967296 - 2147483648⟩
  else if x.o % 15 = 1 ∨ x.o % 15 = 9 ∨ x.o % 15 = 10 then ⟨x.o % 15, x.d % 8, x.a % 8, 0, if x.o % 15 = 1 then 0 else x.n % 32⟩
  else if x.o % 15 = 12 then ⟨12, 0, x.a % 8, 0, x.n % (n - i)⟩
  else if x.o % 15 = 13 ∨ x.o % 15 = 14 then ⟨x.o % 15, x.d % 5, x.a % 8, x.b % 8, 0⟩
  else ⟨x.o % 15, x.d % 8, x.a % 8, x.b % 8, 0⟩
set_option maxHeartbeats 1000000 in
theorem fit_any (x : In) (i n : Int) (hx : x.ok) (h0 : 0 ≤ i) (h1 : i < n) (h2 : n ≤ 1000) (w : World) :
    Calls Try.prog 42 #[.agg #[.int .u8 x.o, .int .u8 x.d, .int .u8 x.a, .int .u8 x.b, .int .i64 x.n], .int .i64 i, .int .i64 n, .bool false] w fun e w' => e = .returned (.agg #[.int .u8 (fitI x i n).o, .int .u8 (fitI x i n).d, .int .u8 (fitI x i n).a, .int .u8 (fitI x i n).b, .int .i64 (fitI x i n).n]) ∧ Below w.heap.size w w' := by
  obtain ⟨⟨o0, o1⟩, ⟨d0, d1⟩, ⟨a0, a1⟩, ⟨b0, b1⟩, hn⟩ := hx
  have qo := Int.tmod_eq_emod_of_nonneg (b := 15) o0
  have qd := Int.tmod_eq_emod_of_nonneg (b := 8) d0
  have qy := Int.tmod_eq_emod_of_nonneg (b := 5) d0
  have qa := Int.tmod_eq_emod_of_nonneg (b := 8) a0
  have qb := Int.tmod_eq_emod_of_nonneg (b := 8) b0
  have ms : ∀ b : Int, 0 < b → b ≤ 4611686018427387904 → ∀ w, Calls Try.prog 59 #[.int .i64 x.n, .int .i64 b] w fun e w' => e = .returned (.int .i64 (x.n % b)) ∧ w = w' := fun b h h' w => mod_any x.n b hn h h' w
  have gm : IntKind.i64.wrap (x.n % 4294967296 - 2147483648) = x.n % 4294967296 - 2147483648 := by rw [IntKind.wrap_i64]; omega
  have gk : IntKind.i64.wrap (n - i) = n - i := by rw [IntKind.wrap_i64]; omega
  have hop : x.o % 15 = 0 ∨ x.o % 15 = 1 ∨ x.o % 15 = 2 ∨ x.o % 15 = 3 ∨ x.o % 15 = 4 ∨ x.o % 15 = 5 ∨ x.o % 15 = 6 ∨ x.o % 15 = 7 ∨ x.o % 15 = 8 ∨ x.o % 15 = 9 ∨ x.o % 15 = 10 ∨ x.o % 15 = 11 ∨ x.o % 15 = 12 ∨ x.o % 15 = 13 ∨ x.o % 15 = 14 := by omega
  unfold fitI
  rcases hop with h | h | h | h | h | h | h | h | h | h | h | h | h | h | h
  · rw [h]
    exact fit_0 x i n _ _ (qo.trans h) qd gm (Lib.hid (ms 4294967296 (by omega) (by omega))) w
  · rw [h]
    exact fit_1 x i n _ _ (qo.trans h) qd qa w
  · rw [h]
    exact fit_2 x i n _ _ _ (qo.trans h) qd qa qb w
  · rw [h]
    exact fit_3 x i n _ _ _ (qo.trans h) qd qa qb w
  · rw [h]
    exact fit_4 x i n _ _ _ (qo.trans h) qd qa qb w
  · rw [h]
    exact fit_5 x i n _ _ _ (qo.trans h) qd qa qb w
  · rw [h]
    exact fit_6 x i n _ _ _ (qo.trans h) qd qa qb w
  · rw [h]
    exact fit_7 x i n _ _ _ (qo.trans h) qd qa qb w
  · rw [h]
    exact fit_8 x i n _ _ _ (qo.trans h) qd qa qb w
  · rw [h]
    exact fit_9 x i n _ _ _ (qo.trans h) qd qa (Lib.hid (ms 32 (by omega) (by omega))) w
  · rw [h]
    exact fit_10 x i n _ _ _ (qo.trans h) qd qa (Lib.hid (ms 32 (by omega) (by omega))) w
  · rw [h]
    exact fit_11 x i n _ _ _ (qo.trans h) qd qa qb w
  · rw [h]
    exact fit_12 x i n _ _ _ (qo.trans h) qa gk (Lib.hid (ms (n - i) (by omega) (by omega))) w
  · rw [h]
    exact fit_13 x i n _ _ _ (qo.trans h) qa qb qy w
  · rw [h]
    exact fit_14 x i n _ _ _ (qo.trans h) qa qb qy w
set_option maxHeartbeats 1000000 in
theorem fitI_one (x : In) (i n : Int) (h0 : 0 ≤ i) (h1 : i < n) : oneB (fitI x i n) i n = true := by
  have hop : x.o % 15 = 0 ∨ x.o % 15 = 1 ∨ x.o % 15 = 2 ∨ x.o % 15 = 3 ∨ x.o % 15 = 4 ∨ x.o % 15 = 5 ∨ x.o % 15 = 6 ∨ x.o % 15 = 7 ∨ x.o % 15 = 8 ∨ x.o % 15 = 9 ∨ x.o % 15 = 10 ∨ x.o % 15 = 11 ∨ x.o % 15 = 12 ∨ x.o % 15 = 13 ∨ x.o % 15 = 14 := by omega
  have e0 := Int.emod_nonneg x.n (show n - i ≠ 0 by omega)
  have e1 := Int.emod_lt_of_pos x.n (show 0 < n - i by omega)
  unfold oneB fitI
  refine decide_eq_true ?_
  rcases hop with h | h | h | h | h | h | h | h | h | h | h | h | h | h | h <;> rw [h] <;> simp [us, ms, lo, hi] <;> omega
set_option maxHeartbeats 1000000 in
theorem fitI_ok (x : In) (i n : Int) (h0 : 0 ≤ i) (h1 : i < n) (h2 : n ≤ 1000) : (fitI x i n).ok := by
  have hop : x.o % 15 = 0 ∨ x.o % 15 = 1 ∨ x.o % 15 = 2 ∨ x.o % 15 = 3 ∨ x.o % 15 = 4 ∨ x.o % 15 = 5 ∨ x.o % 15 = 6 ∨ x.o % 15 = 7 ∨ x.o % 15 = 8 ∨ x.o % 15 = 9 ∨ x.o % 15 = 10 ∨ x.o % 15 = 11 ∨ x.o % 15 = 12 ∨ x.o % 15 = 13 ∨ x.o % 15 = 14 := by omega
  have e0 := Int.emod_nonneg x.n (show n - i ≠ 0 by omega)
  have e1 := Int.emod_lt_of_pos x.n (show 0 < n - i by omega)
  unfold fitI
  rcases hop with h | h | h | h | h | h | h | h | h | h | h | h | h | h | h <;> rw [h] <;> constructor <;> simp <;> omega
end Go.Proofs.Ytnpcmoeleigpoaa.C
