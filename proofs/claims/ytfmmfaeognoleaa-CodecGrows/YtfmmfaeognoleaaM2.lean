/-
  The contract of the reference's fit: an instruction that may stand at a place, of any one.
-/
import Derived.Test.YtfmmfaeognoleaaM1
import Derived.Lib.MinMax
import Derived.Test.YtfmmfaeognoleaaRows
import Derived.WalkKit
import Derived.WalkSpells
import Derived.Below
import Derived.Deep.RegionHeld3
import Derived.Deep.DrawnRows
import Derived.Deep.QuietTactic
import Derived.BigQuiet
import Derived.Lib.Hide
import Derived.StillTailTactics
import Derived.Laws.StructEq
namespace Go.Proofs.Ytfmmfaeognoleaa.C
open Go.RowKit
attribute [local go_sem ↓] Go.wp_at_zero Go.wp_at_succ

set_option maxRecDepth 100000 in
set_option maxHeartbeats 4000000 in
theorem fit_0 (x : In) (i n d m : Int) (q0 : x.o.tmod 15 = 0) (qd : x.d.tmod 8 = d) (gm : IntKind.i64.wrap (m - 2147483648) = m - 2147483648) (HM : Hid (∀ w, Calls Try.prog 78 #[.int .i64 x.n, .int .i64 4294967296] w fun e w' => e = .returned (.int .i64 m) ∧ w = w')) (w : World) :
    Calls Try.prog 43 #[.agg #[.int .u8 x.o, .int .u8 x.d, .int .u8 x.a, .int .u8 x.b, .int .i64 x.n], .int .i64 i, .int .i64 n, .bool false] w fun e w' => e = .returned (.agg #[.int .u8 0, .int .u8 d, .int .u8 0, .int .u8 0, .int .i64 (m - 2147483648)]) ∧ Below w.heap.size w w' := by
  have HB := Lib.hid (fun o o' o'' => ((new_below w o).alloc (by simp) o').alloc (by simp; omega) o'')
  go_enter Try.func43, Try.ntmps43
  go_wp2_with (go_at_call 78; (with_reducible refine (HM.out _).mono ?_); rintro e w' ⟨rfl, rfl⟩)
  refine bodyPost_ret (v := .agg #[.int .u8 0, .int .u8 d, .int .u8 0, .int .u8 0, .int .i64 (m - 2147483648)]) (by simp [results, Try.results43, go_sem, *]) rfl ⟨rfl, ?_⟩
  repeat (first | exact HB.out _ _ _ | refine Below.setCell ?_ (by simp <;> omega) _)

set_option maxRecDepth 100000 in
set_option maxHeartbeats 4000000 in
theorem fit_1 (x : In) (i n d a : Int) (q0 : x.o.tmod 15 = 1) (qd : x.d.tmod 8 = d) (qa : x.a.tmod 8 = a) (w : World) :
    Calls Try.prog 43 #[.agg #[.int .u8 x.o, .int .u8 x.d, .int .u8 x.a, .int .u8 x.b, .int .i64 x.n], .int .i64 i, .int .i64 n, .bool false] w fun e w' => e = .returned (.agg #[.int .u8 1, .int .u8 d, .int .u8 a, .int .u8 0, .int .i64 (0)]) ∧ Below w.heap.size w w' := by
  have HB := Lib.hid (fun o o' o'' => ((new_below w o).alloc (by simp) o').alloc (by simp; omega) o'')
  go_enter Try.func43, Try.ntmps43
  go_wp2_with fail
  refine bodyPost_ret (v := .agg #[.int .u8 1, .int .u8 d, .int .u8 a, .int .u8 0, .int .i64 (0)]) (by simp [results, Try.results43, go_sem, *]) rfl ⟨rfl, ?_⟩
  repeat (first | exact HB.out _ _ _ | refine Below.setCell ?_ (by simp <;> omega) _)

set_option maxRecDepth 100000 in
set_option maxHeartbeats 4000000 in
theorem fit_2 (x : In) (i n d a b : Int) (q0 : x.o.tmod 15 = 2) (qd : x.d.tmod 8 = d) (qa : x.a.tmod 8 = a) (qb : x.b.tmod 8 = b) (w : World) :
    Calls Try.prog 43 #[.agg #[.int .u8 x.o, .int .u8 x.d, .int .u8 x.a, .int .u8 x.b, .int .i64 x.n], .int .i64 i, .int .i64 n, .bool false] w fun e w' => e = .returned (.agg #[.int .u8 2, .int .u8 d, .int .u8 a, .int .u8 b, .int .i64 (0)]) ∧ Below w.heap.size w w' := by
  have HB := Lib.hid (fun o o' o'' => ((new_below w o).alloc (by simp) o').alloc (by simp; omega) o'')
  go_enter Try.func43, Try.ntmps43
  go_wp2_with fail
  refine bodyPost_ret (v := .agg #[.int .u8 2, .int .u8 d, .int .u8 a, .int .u8 b, .int .i64 (0)]) (by simp [results, Try.results43, go_sem, *]) rfl ⟨rfl, ?_⟩
  repeat (first | exact HB.out _ _ _ | refine Below.setCell ?_ (by simp <;> omega) _)

set_option maxRecDepth 100000 in
set_option maxHeartbeats 4000000 in
theorem fit_3 (x : In) (i n d a b : Int) (q0 : x.o.tmod 15 = 3) (qd : x.d.tmod 8 = d) (qa : x.a.tmod 8 = a) (qb : x.b.tmod 8 = b) (w : World) :
    Calls Try.prog 43 #[.agg #[.int .u8 x.o, .int .u8 x.d, .int .u8 x.a, .int .u8 x.b, .int .i64 x.n], .int .i64 i, .int .i64 n, .bool false] w fun e w' => e = .returned (.agg #[.int .u8 3, .int .u8 d, .int .u8 a, .int .u8 b, .int .i64 (0)]) ∧ Below w.heap.size w w' := by
  have HB := Lib.hid (fun o o' o'' => ((new_below w o).alloc (by simp) o').alloc (by simp; omega) o'')
  go_enter Try.func43, Try.ntmps43
  go_wp2_with fail
  refine bodyPost_ret (v := .agg #[.int .u8 3, .int .u8 d, .int .u8 a, .int .u8 b, .int .i64 (0)]) (by simp [results, Try.results43, go_sem, *]) rfl ⟨rfl, ?_⟩
  repeat (first | exact HB.out _ _ _ | refine Below.setCell ?_ (by simp <;> omega) _)

set_option maxRecDepth 100000 in
set_option maxHeartbeats 4000000 in
theorem fit_4 (x : In) (i n d a b : Int) (q0 : x.o.tmod 15 = 4) (qd : x.d.tmod 8 = d) (qa : x.a.tmod 8 = a) (qb : x.b.tmod 8 = b) (w : World) :
    Calls Try.prog 43 #[.agg #[.int .u8 x.o, .int .u8 x.d, .int .u8 x.a, .int .u8 x.b, .int .i64 x.n], .int .i64 i, .int .i64 n, .bool false] w fun e w' => e = .returned (.agg #[.int .u8 4, .int .u8 d, .int .u8 a, .int .u8 b, .int .i64 (0)]) ∧ Below w.heap.size w w' := by
  have HB := Lib.hid (fun o o' o'' => ((new_below w o).alloc (by simp) o').alloc (by simp; omega) o'')
  go_enter Try.func43, Try.ntmps43
  go_wp2_with fail
  refine bodyPost_ret (v := .agg #[.int .u8 4, .int .u8 d, .int .u8 a, .int .u8 b, .int .i64 (0)]) (by simp [results, Try.results43, go_sem, *]) rfl ⟨rfl, ?_⟩
  repeat (first | exact HB.out _ _ _ | refine Below.setCell ?_ (by simp <;> omega) _)

set_option maxRecDepth 100000 in
set_option maxHeartbeats 4000000 in
theorem fit_5 (x : In) (i n d a b : Int) (q0 : x.o.tmod 15 = 5) (qd : x.d.tmod 8 = d) (qa : x.a.tmod 8 = a) (qb : x.b.tmod 8 = b) (w : World) :
    Calls Try.prog 43 #[.agg #[.int .u8 x.o, .int .u8 x.d, .int .u8 x.a, .int .u8 x.b, .int .i64 x.n], .int .i64 i, .int .i64 n, .bool false] w fun e w' => e = .returned (.agg #[.int .u8 5, .int .u8 d, .int .u8 a, .int .u8 b, .int .i64 (0)]) ∧ Below w.heap.size w w' := by
  have HB := Lib.hid (fun o o' o'' => ((new_below w o).alloc (by simp) o').alloc (by simp; omega) o'')
  go_enter Try.func43, Try.ntmps43
  go_wp2_with fail
  refine bodyPost_ret (v := .agg #[.int .u8 5, .int .u8 d, .int .u8 a, .int .u8 b, .int .i64 (0)]) (by simp [results, Try.results43, go_sem, *]) rfl ⟨rfl, ?_⟩
  repeat (first | exact HB.out _ _ _ | refine Below.setCell ?_ (by simp <;> omega) _)

set_option maxRecDepth 100000 in
set_option maxHeartbeats 4000000 in
theorem fit_6 (x : In) (i n d a b : Int) (q0 : x.o.tmod 15 = 6) (qd : x.d.tmod 8 = d) (qa : x.a.tmod 8 = a) (qb : x.b.tmod 8 = b) (w : World) :
    Calls Try.prog 43 #[.agg #[.int .u8 x.o, .int .u8 x.d, .int .u8 x.a, .int .u8 x.b, .int .i64 x.n], .int .i64 i, .int .i64 n, .bool false] w fun e w' => e = .returned (.agg #[.int .u8 6, .int .u8 d, .int .u8 a, .int .u8 b, .int .i64 (0)]) ∧ Below w.heap.size w w' := by
  have HB := Lib.hid (fun o o' o'' => ((new_below w o).alloc (by simp) o').alloc (by simp; omega) o'')
  go_enter Try.func43, Try.ntmps43
  go_wp2_with fail
  refine bodyPost_ret (v := .agg #[.int .u8 6, .int .u8 d, .int .u8 a, .int .u8 b, .int .i64 (0)]) (by simp [results, Try.results43, go_sem, *]) rfl ⟨rfl, ?_⟩
  repeat (first | exact HB.out _ _ _ | refine Below.setCell ?_ (by simp <;> omega) _)

set_option maxRecDepth 100000 in
set_option maxHeartbeats 4000000 in
theorem fit_7 (x : In) (i n d a b : Int) (q0 : x.o.tmod 15 = 7) (qd : x.d.tmod 8 = d) (qa : x.a.tmod 8 = a) (qb : x.b.tmod 8 = b) (w : World) :
    Calls Try.prog 43 #[.agg #[.int .u8 x.o, .int .u8 x.d, .int .u8 x.a, .int .u8 x.b, .int .i64 x.n], .int .i64 i, .int .i64 n, .bool false] w fun e w' => e = .returned (.agg #[.int .u8 7, .int .u8 d, .int .u8 a, .int .u8 b, .int .i64 (0)]) ∧ Below w.heap.size w w' := by
  have HB := Lib.hid (fun o o' o'' => ((new_below w o).alloc (by simp) o').alloc (by simp; omega) o'')
  go_enter Try.func43, Try.ntmps43
  go_wp2_with fail
  refine bodyPost_ret (v := .agg #[.int .u8 7, .int .u8 d, .int .u8 a, .int .u8 b, .int .i64 (0)]) (by simp [results, Try.results43, go_sem, *]) rfl ⟨rfl, ?_⟩
  repeat (first | exact HB.out _ _ _ | refine Below.setCell ?_ (by simp <;> omega) _)

set_option maxRecDepth 100000 in
set_option maxHeartbeats 4000000 in
theorem fit_8 (x : In) (i n d a b : Int) (q0 : x.o.tmod 15 = 8) (qd : x.d.tmod 8 = d) (qa : x.a.tmod 8 = a) (qb : x.b.tmod 8 = b) (w : World) :
    Calls Try.prog 43 #[.agg #[.int .u8 x.o, .int .u8 x.d, .int .u8 x.a, .int .u8 x.b, .int .i64 x.n], .int .i64 i, .int .i64 n, .bool false] w fun e w' => e = .returned (.agg #[.int .u8 8, .int .u8 d, .int .u8 a, .int .u8 b, .int .i64 (0)]) ∧ Below w.heap.size w w' := by
  have HB := Lib.hid (fun o o' o'' => ((new_below w o).alloc (by simp) o').alloc (by simp; omega) o'')
  go_enter Try.func43, Try.ntmps43
  go_wp2_with fail
  refine bodyPost_ret (v := .agg #[.int .u8 8, .int .u8 d, .int .u8 a, .int .u8 b, .int .i64 (0)]) (by simp [results, Try.results43, go_sem, *]) rfl ⟨rfl, ?_⟩
  repeat (first | exact HB.out _ _ _ | refine Below.setCell ?_ (by simp <;> omega) _)

set_option maxRecDepth 100000 in
set_option maxHeartbeats 4000000 in
theorem fit_9 (x : In) (i n d a m : Int) (q0 : x.o.tmod 15 = 9) (qd : x.d.tmod 8 = d) (qa : x.a.tmod 8 = a) (HM : Hid (∀ w, Calls Try.prog 78 #[.int .i64 x.n, .int .i64 32] w fun e w' => e = .returned (.int .i64 m) ∧ w = w')) (w : World) :
    Calls Try.prog 43 #[.agg #[.int .u8 x.o, .int .u8 x.d, .int .u8 x.a, .int .u8 x.b, .int .i64 x.n], .int .i64 i, .int .i64 n, .bool false] w fun e w' => e = .returned (.agg #[.int .u8 9, .int .u8 d, .int .u8 a, .int .u8 0, .int .i64 (m)]) ∧ Below w.heap.size w w' := by
  have HB := Lib.hid (fun o o' o'' => ((new_below w o).alloc (by simp) o').alloc (by simp; omega) o'')
  go_enter Try.func43, Try.ntmps43
  go_wp2_with (go_at_call 78; (with_reducible refine (HM.out _).mono ?_); rintro e w' ⟨rfl, rfl⟩)
  refine bodyPost_ret (v := .agg #[.int .u8 9, .int .u8 d, .int .u8 a, .int .u8 0, .int .i64 (m)]) (by simp [results, Try.results43, go_sem, *]) rfl ⟨rfl, ?_⟩
  repeat (first | exact HB.out _ _ _ | refine Below.setCell ?_ (by simp <;> omega) _)

set_option maxRecDepth 100000 in
set_option maxHeartbeats 4000000 in
theorem fit_10 (x : In) (i n d a m : Int) (q0 : x.o.tmod 15 = 10) (qd : x.d.tmod 8 = d) (qa : x.a.tmod 8 = a) (HM : Hid (∀ w, Calls Try.prog 78 #[.int .i64 x.n, .int .i64 32] w fun e w' => e = .returned (.int .i64 m) ∧ w = w')) (w : World) :
    Calls Try.prog 43 #[.agg #[.int .u8 x.o, .int .u8 x.d, .int .u8 x.a, .int .u8 x.b, .int .i64 x.n], .int .i64 i, .int .i64 n, .bool false] w fun e w' => e = .returned (.agg #[.int .u8 10, .int .u8 d, .int .u8 a, .int .u8 0, .int .i64 (m)]) ∧ Below w.heap.size w w' := by
  have HB := Lib.hid (fun o o' o'' => ((new_below w o).alloc (by simp) o').alloc (by simp; omega) o'')
  go_enter Try.func43, Try.ntmps43
  go_wp2_with (go_at_call 78; (with_reducible refine (HM.out _).mono ?_); rintro e w' ⟨rfl, rfl⟩)
  refine bodyPost_ret (v := .agg #[.int .u8 10, .int .u8 d, .int .u8 a, .int .u8 0, .int .i64 (m)]) (by simp [results, Try.results43, go_sem, *]) rfl ⟨rfl, ?_⟩
  repeat (first | exact HB.out _ _ _ | refine Below.setCell ?_ (by simp <;> omega) _)

set_option maxRecDepth 100000 in
set_option maxHeartbeats 4000000 in
theorem fit_11 (x : In) (i n d a b : Int) (q0 : x.o.tmod 15 = 11) (qd : x.d.tmod 8 = d) (qa : x.a.tmod 8 = a) (qb : x.b.tmod 8 = b) (w : World) :
    Calls Try.prog 43 #[.agg #[.int .u8 x.o, .int .u8 x.d, .int .u8 x.a, .int .u8 x.b, .int .i64 x.n], .int .i64 i, .int .i64 n, .bool false] w fun e w' => e = .returned (.agg #[.int .u8 11, .int .u8 d, .int .u8 a, .int .u8 b, .int .i64 (0)]) ∧ Below w.heap.size w w' := by
  have HB := Lib.hid (fun o o' o'' => ((new_below w o).alloc (by simp) o').alloc (by simp; omega) o'')
  go_enter Try.func43, Try.ntmps43
  go_wp2_with fail
  refine bodyPost_ret (v := .agg #[.int .u8 11, .int .u8 d, .int .u8 a, .int .u8 b, .int .i64 (0)]) (by simp [results, Try.results43, go_sem, *]) rfl ⟨rfl, ?_⟩
  repeat (first | exact HB.out _ _ _ | refine Below.setCell ?_ (by simp <;> omega) _)

set_option maxRecDepth 100000 in
set_option maxHeartbeats 4000000 in
theorem fit_12 (x : In) (i n a m k : Int) (q0 : x.o.tmod 15 = 12) (qa : x.a.tmod 8 = a) (gk : IntKind.i64.wrap (n - i) = k) (HM : Hid (∀ w, Calls Try.prog 78 #[.int .i64 x.n, .int .i64 k] w fun e w' => e = .returned (.int .i64 m) ∧ w = w')) (w : World) :
    Calls Try.prog 43 #[.agg #[.int .u8 x.o, .int .u8 x.d, .int .u8 x.a, .int .u8 x.b, .int .i64 x.n], .int .i64 i, .int .i64 n, .bool false] w fun e w' => e = .returned (.agg #[.int .u8 12, .int .u8 0, .int .u8 a, .int .u8 0, .int .i64 (m)]) ∧ Below w.heap.size w w' := by
  have HB := Lib.hid (fun o o' o'' => ((new_below w o).alloc (by simp) o').alloc (by simp; omega) o'')
  go_enter Try.func43, Try.ntmps43
  go_wp2_with (go_at_call 78; (with_reducible refine (HM.out _).mono ?_); rintro e w' ⟨rfl, rfl⟩)
  refine bodyPost_ret (v := .agg #[.int .u8 12, .int .u8 0, .int .u8 a, .int .u8 0, .int .i64 (m)]) (by simp [results, Try.results43, go_sem, *]) rfl ⟨rfl, ?_⟩
  repeat (first | exact HB.out _ _ _ | refine Below.setCell ?_ (by simp <;> omega) _)

set_option maxRecDepth 100000 in
set_option maxHeartbeats 4000000 in
theorem fit_13 (x : In) (i n a b y : Int) (q0 : x.o.tmod 15 = 13) (qa : x.a.tmod 8 = a) (qb : x.b.tmod 8 = b) (qy : x.d.tmod 5 = y) (w : World) :
    Calls Try.prog 43 #[.agg #[.int .u8 x.o, .int .u8 x.d, .int .u8 x.a, .int .u8 x.b, .int .i64 x.n], .int .i64 i, .int .i64 n, .bool false] w fun e w' => e = .returned (.agg #[.int .u8 13, .int .u8 y, .int .u8 a, .int .u8 b, .int .i64 (0)]) ∧ Below w.heap.size w w' := by
  have HB := Lib.hid (fun o o' o'' => ((new_below w o).alloc (by simp) o').alloc (by simp; omega) o'')
  go_enter Try.func43, Try.ntmps43
  go_wp2_with fail
  refine bodyPost_ret (v := .agg #[.int .u8 13, .int .u8 y, .int .u8 a, .int .u8 b, .int .i64 (0)]) (by simp [results, Try.results43, go_sem, *]) rfl ⟨rfl, ?_⟩
  repeat (first | exact HB.out _ _ _ | refine Below.setCell ?_ (by simp <;> omega) _)

set_option maxRecDepth 100000 in
set_option maxHeartbeats 4000000 in
theorem fit_14 (x : In) (i n a b y : Int) (q0 : x.o.tmod 15 = 14) (qa : x.a.tmod 8 = a) (qb : x.b.tmod 8 = b) (qy : x.d.tmod 5 = y) (w : World) :
    Calls Try.prog 43 #[.agg #[.int .u8 x.o, .int .u8 x.d, .int .u8 x.a, .int .u8 x.b, .int .i64 x.n], .int .i64 i, .int .i64 n, .bool false] w fun e w' => e = .returned (.agg #[.int .u8 14, .int .u8 y, .int .u8 a, .int .u8 b, .int .i64 (0)]) ∧ Below w.heap.size w w' := by
  have HB := Lib.hid (fun o o' o'' => ((new_below w o).alloc (by simp) o').alloc (by simp; omega) o'')
  go_enter Try.func43, Try.ntmps43
  go_wp2_with fail
  refine bodyPost_ret (v := .agg #[.int .u8 14, .int .u8 y, .int .u8 a, .int .u8 b, .int .i64 (0)]) (by simp [results, Try.results43, go_sem, *]) rfl ⟨rfl, ?_⟩
  repeat (first | exact HB.out _ _ _ | refine Below.setCell ?_ (by simp <;> omega) _)

/-- What fit makes of an instruction. -/
def fitI (x : In) (i n : Int) : In :=
  if x.o % 15 = 0 then ⟨0, x.d % 8, 0, 0, x.n % 4294967296 - 2147483648⟩
  else if x.o % 15 = 1 ∨ x.o % 15 = 9 ∨ x.o % 15 = 10 then ⟨x.o % 15, x.d % 8, x.a % 8, 0, if x.o % 15 = 1 then 0 else x.n % 32⟩
  else if x.o % 15 = 12 then ⟨12, 0, x.a % 8, 0, x.n % (n - i)⟩
  else if x.o % 15 = 13 ∨ x.o % 15 = 14 then ⟨x.o % 15, x.d % 5, x.a % 8, x.b % 8, 0⟩
  else ⟨x.o % 15, x.d % 8, x.a % 8, x.b % 8, 0⟩
set_option maxHeartbeats 1000000 in
theorem fit_any (x : In) (i n : Int) (hx : x.ok) (h0 : 0 ≤ i) (h1 : i < n) (h2 : n ≤ 100000) (w : World) :
    Calls Try.prog 43 #[.agg #[.int .u8 x.o, .int .u8 x.d, .int .u8 x.a, .int .u8 x.b, .int .i64 x.n], .int .i64 i, .int .i64 n, .bool false] w fun e w' => e = .returned (.agg #[.int .u8 (fitI x i n).o, .int .u8 (fitI x i n).d, .int .u8 (fitI x i n).a, .int .u8 (fitI x i n).b, .int .i64 (fitI x i n).n]) ∧ Below w.heap.size w w' := by
  obtain ⟨⟨o0, o1⟩, ⟨d0, d1⟩, ⟨a0, a1⟩, ⟨b0, b1⟩, hn⟩ := hx
  have qo := Int.tmod_eq_emod_of_nonneg (b := 15) o0
  have qd := Int.tmod_eq_emod_of_nonneg (b := 8) d0
  have qy := Int.tmod_eq_emod_of_nonneg (b := 5) d0
  have qa := Int.tmod_eq_emod_of_nonneg (b := 8) a0
  have qb := Int.tmod_eq_emod_of_nonneg (b := 8) b0
  have ms : ∀ b : Int, 0 < b → b ≤ 4611686018427387904 → ∀ w, Calls Try.prog 78 #[.int .i64 x.n, .int .i64 b] w fun e w' => e = .returned (.int .i64 (x.n % b)) ∧ w = w' := fun b h h' w => mod_any x.n b hn h h' w
  have gm : IntKind.i64.wrap (x.n % 4294967296 - 2147483648) = x.n % 4294967296 - 2147483648 := by rw [IntKind.wrap_i64]; omega
  have gk : IntKind.i64.wrap (n - i) = n - i := by rw [IntKind.wrap_i64]; omega
  have hop : x.o % 15 = 0 ∨ x.o % 15 = 1 ∨ x.o % 15 = 2 ∨ x.o % 15 = 3 ∨ x.o % 15 = 4 ∨ x.o % 15 = 5 ∨ x.o % 15 = 6 ∨ x.o % 15 = 7 ∨ x.o % 15 = 8 ∨ x.o % 15 = 9 ∨ x.o % 15 = 10 ∨ x.o % 15 = 11 ∨ x.o % 15 = 12 ∨ x.o % 15 = 13 ∨ x.o % 15 = 14 := by omega
  unfold fitI
  rcases hop with h | h | h | h | h | h | h | h | h | h | h | h | h | h | h
  · rw [h]
    exact fit_0 x i n _ _ (qo.trans h) qd gm (Lib.hid (ms 4294967296 (by omega) (by omega))) w
  · rw [h]
    exact fit_1 x i n _ _ (qo.trans h) qd qa w
  · rw [h]
    exact fit_2 x i n _ _ _ (qo.trans h) qd qa qb w
  · rw [h]
    exact fit_3 x i n _ _ _ (qo.trans h) qd qa qb w
  · rw [h]
    exact fit_4 x i n _ _ _ (qo.trans h) qd qa qb w
  · rw [h]
    exact fit_5 x i n _ _ _ (qo.trans h) qd qa qb w
  · rw [h]
    exact fit_6 x i n _ _ _ (qo.trans h) qd qa qb w
  · rw [h]
    exact fit_7 x i n _ _ _ (qo.trans h) qd qa qb w
  · rw [h]
    exact fit_8 x i n _ _ _ (qo.trans h) qd qa qb w
  · rw [h]
    exact fit_9 x i n _ _ _ (qo.trans h) qd qa (Lib.hid (ms 32 (by omega) (by omega))) w
  · rw [h]
    exact fit_10 x i n _ _ _ (qo.trans h) qd qa (Lib.hid (ms 32 (by omega) (by omega))) w
  · rw [h]
    exact fit_11 x i n _ _ _ (qo.trans h) qd qa qb w
  · rw [h]
    exact fit_12 x i n _ _ _ (qo.trans h) qa gk (Lib.hid (ms (n - i) (by omega) (by omega))) w
  · rw [h]
    exact fit_13 x i n _ _ _ (qo.trans h) qa qb qy w
  · rw [h]
    exact fit_14 x i n _ _ _ (qo.trans h) qa qb qy w
set_option maxHeartbeats 1000000 in
theorem fitI_one (x : In) (i n : Int) (h0 : 0 ≤ i) (h1 : i < n) : oneB (fitI x i n) i n = true := by
  have hop : x.o % 15 = 0 ∨ x.o % 15 = 1 ∨ x.o % 15 = 2 ∨ x.o % 15 = 3 ∨ x.o % 15 = 4 ∨ x.o % 15 = 5 ∨ x.o % 15 = 6 ∨ x.o % 15 = 7 ∨ x.o % 15 = 8 ∨ x.o % 15 = 9 ∨ x.o % 15 = 10 ∨ x.o % 15 = 11 ∨ x.o % 15 = 12 ∨ x.o % 15 = 13 ∨ x.o % 15 = 14 := by omega
  have e0 := Int.emod_nonneg x.n (show n - i ≠ 0 by omega)
  have e1 := Int.emod_lt_of_pos x.n (show 0 < n - i by omega)
  unfold oneB fitI
  refine decide_eq_true ?_
  rcases hop with h | h | h | h | h | h | h | h | h | h | h | h | h | h | h <;> rw [h] <;> simp [us, ms, lo, hi] <;> omega
set_option maxHeartbeats 1000000 in
theorem fitI_ok (x : In) (i n : Int) (h0 : 0 ≤ i) (h1 : i < n) (h2 : n ≤ 100000) : (fitI x i n).ok := by
  have hop : x.o % 15 = 0 ∨ x.o % 15 = 1 ∨ x.o % 15 = 2 ∨ x.o % 15 = 3 ∨ x.o % 15 = 4 ∨ x.o % 15 = 5 ∨ x.o % 15 = 6 ∨ x.o % 15 = 7 ∨ x.o % 15 = 8 ∨ x.o % 15 = 9 ∨ x.o % 15 = 10 ∨ x.o % 15 = 11 ∨ x.o % 15 = 12 ∨ x.o % 15 = 13 ∨ x.o % 15 = 14 := by omega
  have e0 := Int.emod_nonneg x.n (show n - i ≠ 0 by omega)
  have e1 := Int.emod_lt_of_pos x.n (show 0 < n - i by omega)
  unfold fitI
  rcases hop with h | h | h | h | h | h | h | h | h | h | h | h | h | h | h <;> rw [h] <;> constructor <;> simp <;> omega
end Go.Proofs.Ytfmmfaeognoleaa.C
/-
  The contracts of Samples and Target, of the program and of the reference; the statements' few.
-/
namespace Go.Proofs.Ytfmmfaeognoleaa.C
open Go.RowKit
attribute [local go_sem ↓] Go.wp_at_zero Go.wp_at_succ

/-- An instruction that asks for a picture. -/
def tex (x : In) : Bool := decide (x.o = 13 ∨ x.o = 14)
theorem us_tex (o : Int) : (us o = 15 ↔ o = 13 ∨ o = 14) ∧ (us o = 0 ∨ us o = 1 ∨ us o = 2 ∨ us o = 3 ∨ us o = 7 ∨ us o = 15) := by
  unfold us
  split
  · omega
  · split
    · omega
    · split
      · omega
      · split
        · omega
        · split
          · omega
          · omega
theorem any_hit {l : List In} {k : Nat} {u : In} (h : l[k]? = some u) (ht : tex u = true) : l.any tex = true := List.any_eq_true.2 ⟨u, List.mem_of_getElem? h, ht⟩
theorem any_none {l : List In} (h : ∀ (i : Nat) x, l[i]? = some x → tex x = false) : l.any tex = false := by
  rw [List.any_eq_false]
  intro x hx
  obtain ⟨i, hi⟩ := List.getElem?_of_mem hx
  rw [h i x hi]
  simp

set_option maxRecDepth 100000 in
set_option maxHeartbeats 4000000 in
theorem samples_any (l : List In) (A : Option Addr) (c : Nat) (hlen : l.length ≤ 100000) (hok : ∀ x ∈ l, x.ok) (w : World) (he : Es EI w w.heap.size A l) :
    Calls Try.prog 109 #[.slice A l.length c] w fun e w' => e = .returned (.bool (l.any tex)) ∧ Below w.heap.size w w' := by
  have HGd := Lib.hid (any_none (l := l))
  have HBd := Lib.hid (fun (k : Nat) (u : In) (h : l[k]? = some u) (hr : tex u = true) => any_hit h hr)
  have HL := Lib.hid (fun (k : Nat) (h : k < l.length) => get_lt h)
  generalize l.any tex = R at *
  obtain ⟨n, hn⟩ : ∃ n, l.length = n := ⟨_, rfl⟩
  rw [hn] at HL hlen ⊢
  have HE := Lib.hid he
  have HO := Lib.hid (fun x (h : x ∈ l) => hok x h)
  replace hn := Lib.hid hn
  clear he hok
  go_enter Try.func109, Try.ntmps109
  go_wp2_with fail
  go_loopw [7] (fun i wr => ∃ k : Nat, k ≤ n ∧ i = .int .i64 k ∧ (∀ (j : Nat) x, j < k → l[j]? = some x → tex x = false) ∧ Below w.heap.size w wr) (fun i _ => n - (intOf i).toNat)
  case atStart => exact ⟨0, Nat.zero_le _, rfl, fun j x h => absurd h (Nat.not_lt_zero _), Below.refl _ _⟩
  case round =>
    obtain ⟨k, hk, rfl, hin, hb⟩ := hrel
    have HB := Lib.hid hb
    have HI := Lib.hid hin
    clear hin hb
    by_cases hlt : k < n
    · obtain ⟨u, hu⟩ := HL.out k hlt
      obtain ⟨b, off, rfl, hbB, hat⟩ := HE.out.at hu
      obtain ⟨c0, c1, c2, c3, c4⟩ := atI (show AtE EI wr b (off + k * 5) u from hat.below HB.out hbB)
      have hbw := Nat.lt_of_lt_of_le hbB HB.out.size
      have HU := Lib.hid (fun w' => uses_any u.o (HO.out u (List.mem_of_getElem? hu)).o.1 w')
      have B2 := Lib.hid (bstep HB.out HB.out.size (new_below wr (inB u)))
      have hT := Lib.hid (us_tex u.o)
      replace hu := Lib.hid hu
      generalize us u.o = U at *
      clear hat
      go_wp2_with fail
      with_reducible refine (HU.out _).mono ?_
      rintro e w2 ⟨rfl, rfl⟩
      clear HU c0 c1 c2 c3 c4
      obtain ⟨ht, hs⟩ := hT.out
      clear hT
      rcases hs with rfl | rfl | rfl | rfl | rfl | rfl
      case inr.inr.inr.inr.inr =>
        obtain rfl : R = true := HBd.out k u hu.out (decide_eq_true (ht.1 rfl))
        clear ht
        go_wp2_with fail
        go_ret
        exact ⟨rfl, B2.out⟩
      all_goals
        replace ht := Lib.hid (show tex u = false from decide_eq_false (fun h => by have := ht.2 h; omega))
        go_wp2_with fail
        go_roundw
        case rel =>
          refine ⟨k + 1, by omega, by go_num, fun j x hj hx => ?_, B2.out⟩
          rcases Nat.lt_or_ge j k with h | h
          · exact HI.out j x h hx
          · obtain rfl : j = k := by omega
            have h5 := hu.out
            rw [hx] at h5
            cases h5
            exact ht.out
        case measure => simp [intOf]; omega
    · obtain rfl : k = n := by omega
      obtain rfl : R = false := HGd.out fun i x hx => HI.out i x (by have := (List.getElem?_eq_some_iff.1 hx).1; rw [hn.out] at this; exact this) hx
      go_wp2_with fail
      go_ret
      exact ⟨rfl, HB.out⟩

theorem Es.take {w : World} {B : Nat} {A : Option Addr} {xs : List In} (h : Es EI w B A xs) (k : Nat) : Es EI w B A (xs.take k) := fun hne => by
  obtain ⟨b, off, e, hb, hc⟩ := h (by rintro rfl; simp at hne)
  refine ⟨b, off, e, hb, fun j u hj => hc j u ?_⟩
  rw [List.getElem?_take] at hj
  split at hj
  · exact hj
  · cases hj
end Go.Proofs.Ytfmmfaeognoleaa.C
/-
  The contract of the reference's Fit: a program that may be, of any one.
-/
namespace Go.Proofs.Ytfmmfaeognoleaa.C
open Go.RowKit
attribute [local go_sem ↓] Go.wp_at_zero Go.wp_at_succ

def mov : In := ⟨1, 0, 0, 0, 0⟩
/-- How many instructions Fit tells of so many. -/
def fitN (n : Nat) : Nat := min n 32
def fitAt (l : List In) (i : Nat) : In := fitI (l.getD i mov) i (fitN l.length)
def fitP (l : List In) : List In := if l.length = 0 then [mov] else (List.range (fitN l.length)).map (fitAt l)
theorem mov_ok : mov.ok := by unfold mov; constructor <;> decide
theorem getD_ok {l : List In} (h : ∀ x ∈ l, x.ok) (i : Nat) : (l.getD i mov).ok := by
  rw [List.getD_eq_getElem?_getD]
  cases e : l[i]? with
  | none => exact mov_ok
  | some c => exact h c (List.mem_of_getElem? e)
theorem fitP_len (l : List In) : 1 ≤ (fitP l).length ∧ (fitP l).length ≤ 32 := by
  unfold fitP fitN
  split
  · exact ⟨Nat.le_refl _, by decide⟩
  · simp; omega
theorem fitP_one (l : List In) : ∀ (i : Nat) x, (fitP l)[i]? = some x → oneB x i (fitP l).length = true ∧ ((∀ y ∈ l, y.ok) → x.ok) := by
  unfold fitP
  intro i x hi
  split at hi
  · rename_i h0
    rw [if_pos h0]
    match i, hi with
    | 0, hi =>
      obtain rfl : mov = x := by simpa using hi
      exact ⟨by decide, fun _ => mov_ok⟩
    | i + 1, hi => simp at hi
  · rename_i h0
    rw [if_neg h0]
    rw [List.getElem?_map] at hi
    have hil : i < fitN l.length := by
      rcases Nat.lt_or_ge i (fitN l.length) with h | h
      · exact h
      · rw [List.getElem?_eq_none (by simpa using h)] at hi; cases hi
    rw [List.getElem?_range hil] at hi
    obtain rfl : fitAt l i = x := by simpa using hi
    have hN : fitN l.length ≤ 32 := by unfold fitN; omega
    rw [List.length_map, List.length_range]
    refine ⟨fitI_one _ _ _ (by omega) (by omega), fun hok => fitI_ok _ _ _ (by omega) (by omega) (by omega)⟩
theorem fitP_ok {l : List In} (hok : ∀ y ∈ l, y.ok) : ∀ x ∈ fitP l, x.ok := by
  intro x hx
  obtain ⟨i, hi⟩ := List.getElem?_of_mem hx
  exact (fitP_one l i x hi).2 hok
theorem fitP_chk (l : List In) : chk (fitP l) = 0 := chk_good (by have := fitP_len l; omega) (by have := fitP_len l; omega) fun i x hi => (fitP_one l i x hi).1
theorem new_keep {w : World} {g : Nat} {x : Obj} (o : Obj) (h : w.heap[g]? = some x) : (w.alloc o).heap[g]? = some x := by
  rw [Below.heap_alloc _ _ _ (Array.getElem?_eq_some_iff.1 h).1]
  exact h
theorem newI_at {w : World} {u : In} {g : Nat} (hg : g = w.heap.size) : ∀ j x, (EI.cells u)[j]? = some x → (w.alloc (.cells #[.int .u8 u.o, .int .u8 u.d, .int .u8 u.a, .int .u8 u.b, .int .i64 u.n] 70)).cell? ((⟨g, 0, none⟩ : Addr).add j) = some x := by
  subst hg
  exact new_el (E := EI) w u _ rfl
theorem range_snoc (f : Nat → In) (k : Nat) : (List.range (k + 1)).map f = (List.range k).map f ++ [f k] := by rw [List.range_succ, List.map_append]; rfl
theorem ownI_new (w : World) (xs : List In) (cs : Array Value) (h : cs.toList = EI.flat xs) (hl : xs.length ≤ 100000) : OwnE EI (w.alloc (.cells cs 70)) w.heap.size (.slice (some ⟨w.heap.size, 0, none⟩) xs.length xs.length) xs := by
  have hs : cs.size = xs.length * 5 := by
    have := EI.flat_length xs
    rw [← h, Array.length_toList] at this
    exact this
  exact ⟨by rw [EI.flat_length], .inr ⟨w.heap.size, xs.length, cs, rfl, Nat.le_refl _, heap_alloc_new _ _, Nat.le_refl _, by unfold maxLen; omega, hs, by rw [h]; exact List.take_of_length_le (Nat.le_of_eq (EI.flat_length xs))⟩⟩

theorem Try.info70 : (Try.prog.info? 70).map (fun i => (i.zero, i.size, i.bytes)) = some (some (.agg #[.int .u8 0, .int .u8 0, .int .u8 0, .int .u8 0, .int .i64 0]), 5, 16) := by kernel_rfl

set_option maxRecDepth 100000 in
set_option maxHeartbeats 4000000 in
theorem Fit_any (l : List In) (A : Option Addr) (c : Nat) (hok : ∀ x ∈ l, x.ok) (w : World) (he : Es EI w w.heap.size A l) :
    Calls Try.prog 25 #[.slice A l.length c, .bool false] w (MadeE EI w.heap.size w (fitP l)) := by
  by_cases h0 : l.length = 0
  · have e : fitP l = [mov] := if_pos h0
    rw [e, h0]
    have HO := Lib.hid (ownI_new w [mov] #[.int .u8 1, .int .u8 0, .int .u8 0, .int .u8 0, .int .i64 0] rfl (by decide))
    have HB := Lib.hid (new_below w (.cells #[.int .u8 1, .int .u8 0, .int .u8 0, .int .u8 0, .int .i64 0] 70))
    go_enter Try.func25, Try.ntmps25
    go_wp2_with fail
    go_ret
    exact ⟨_, rfl, HO.out, HB.out⟩
  obtain ⟨i0, hi, hz0, hz1, hz2⟩ := info_parts Try.info70
  have HI := Lib.hid hi
  have HZ := Lib.hid (And.intro hz0 (And.intro hz1 hz2))
  clear hi hz0 hz1 hz2
  have e : fitP l = (List.range (fitN l.length)).map (fitAt l) := if_neg h0
  rw [e]
  have hmin : min (l.length : Int) 32 = (fitN l.length : Int) := by unfold fitN; omega
  have hml : fitN l.length ≤ l.length := by unfold fitN; omega
  have hm32 : fitN l.length ≤ 32 := by unfold fitN; omega
  have HFA := Lib.hid (fun (k : Nat) (u : In) (h : l[k]? = some u) => show fitAt l k = fitI u k (fitN l.length) by unfold fitAt; rw [List.getD_eq_getElem?_getD, h]; rfl)
  have HL := Lib.hid (fun (k : Nat) (h : k < l.length) => get_lt h)
  have HE := Lib.hid he
  have HK := Lib.hid (fun x (h : x ∈ l) => hok x h)
  generalize fitN l.length = m at *
  generalize l.length = n at *
  have hn0 : ((n : Int) == 0) = false := by simpa using (show ¬ (n : Int) = 0 by omega)
  have HB0 := Lib.hid (new_below w (.cells #[] 70))
  have HO0 := Lib.hid (ownE_empty (E := EI) w (Nat.le_refl w.heap.size))
  clear he hok e h0
  go_enter Try.func25, Try.ntmps25
  go_wp2_with fail
  go_loopw [6, 7] (fun b i wr => ∃ k : Nat, k ≤ m ∧ i = .int .i64 k ∧ Below w.heap.size w wr ∧ OwnE EI wr w.heap.size b ((List.range k).map (fitAt l))) (fun _ i _ => m - (intOf i).toNat)
  case atStart => exact ⟨0, Nat.zero_le _, rfl, HB0.out, HO0.out⟩
  case round =>
    obtain ⟨k, hk, rfl, hb, ho⟩ := hrel
    obtain ⟨A1, c1, rfl⟩ := ho.form
    have HB := Lib.hid hb
    have HO := Lib.hid ho
    clear hb ho
    by_cases hlt : k < m
    · obtain ⟨x, hx⟩ := HL.out k (by omega)
      obtain ⟨b, off, rfl, hbB, hat⟩ := HE.out.at hx
      obtain ⟨c0, c1', c2, c3, c4⟩ := atI (show AtE EI wr b (off + k * 5) x from hat.below HB.out hbB)
      have hbw := Nat.lt_of_lt_of_le hbB HB.out.size
      have HU := Lib.hid (fun w' => fit_any x k m (HK.out x (List.mem_of_getElem? hx)) (by omega) (by omega) (by omega) w')
      have hu := HFA.out k x hx
      obtain ⟨u, hfu⟩ : ∃ u, fitI x k m = u := ⟨_, rfl⟩
      rw [hfu] at HU hu
      have HS := Lib.hid (show (List.range (k + 1)).map (fitAt l) = (List.range k).map (fitAt l) ++ [u] by rw [range_snoc, hu])
      have hcl : ((List.range k).map (fitAt l)).length = k := by simp
      generalize (List.range k).map (fitAt l) = cs at *
      have HC := Lib.hid hcl
      have hc256 : cs.length ≤ 256 := by omega
      clear hcl hat hx hu hfu
      go_wp2_with fail
      with_reducible refine (HU.out _).mono ?_
      rintro e w2 ⟨rfl, hb2⟩
      have B2 := Lib.hid (bstep HB.out HB.out.size hb2)
      have O1 := Lib.hid (HO.out.keep hb2)
      have O2 := Lib.hid (O1.out.alloc (.cells #[.int .u8 u.o, .int .u8 u.d, .int .u8 u.a, .int .u8 u.b, .int .i64 u.n] 70))
      have hz2 : w.heap.size ≤ w2.heap.size := B2.out.size
      clear hb2 HU c0 c1' c2 c3 c4
      go_wp2_with (at_builtin; refine wpList_append_own _ rfl _ _ 65 rfl w.heap.size 70 i0 _ 5 16 Try.underlying65 HI.out HZ.out.1 HZ.out.2.1 HZ.out.2.2 (by kernel_rfl) (by decide) _ _ (EI.flat cs) rfl O2.out.row _ 1 1 (EI.cells u) rfl rfl (newI_at rfl) (EI.one _) (by unfold maxLen; omega) (by omega) (by simp; omega) ?_; intro v' w6 hown' hgrow _; obtain ⟨ho6, hb6⟩ := append_ofE (E := EI) (x := u) O1.out (by omega) hown' hgrow; obtain ⟨A2, c2', rfl⟩ := ho6.form; have O6 := Lib.hid ho6; have B6 := Lib.hid hb6; clear hown' hgrow ho6 hb6)
      go_roundw
      case rel =>
        exact ⟨k + 1, by omega, by go_num, B2.out.trans B6.out, by rw [HS.out]; have h := O6.out; rw [List.length_append] at h; exact h⟩
      case measure => simp [intOf]; omega
    · obtain rfl : k = m := by omega
      go_wp2_with fail
      go_ret
      exact ⟨_, rfl, HO.out, HB.out⟩
end Go.Proofs.Ytfmmfaeognoleaa.C
/-
  The contract of the reference's fit where it is told to leave pictures out.
-/
namespace Go.Proofs.Ytfmmfaeognoleaa.C
open Go.RowKit
attribute [local go_sem ↓] Go.wp_at_zero Go.wp_at_succ

/-- An instruction that asks for a picture is told as one that adds. -/
def bareI (x : In) : In := if 13 ≤ x.o % 15 then ⟨2, x.d, x.a, x.b, x.n⟩ else x
theorem bareI_ok {x : In} (h : x.ok) : (bareI x).ok := by
  unfold bareI
  split
  · obtain ⟨_, b, c, d, e⟩ := h
    exact ⟨⟨show (0 : Int) ≤ 2 by decide, show (2 : Int) ≤ 255 by decide⟩, b, c, d, e⟩
  · exact h
set_option maxRecDepth 100000 in
set_option maxHeartbeats 4000000 in
theorem fitb_0 (x : In) (i n d m : Int) (q0 : x.o.tmod 15 = 0) (qd : x.d.tmod 8 = d) (gm : IntKind.i64.wrap (m - 2147483648) = m - 2147483648) (HM : Hid (∀ w, Calls Try.prog 78 #[.int .i64 x.n, .int .i64 4294967296] w fun e w' => e = .returned (.int .i64 m) ∧ w = w')) (w : World) :
    Calls Try.prog 43 #[.agg #[.int .u8 x.o, .int .u8 x.d, .int .u8 x.a, .int .u8 x.b, .int .i64 x.n], .int .i64 i, .int .i64 n, .bool true] w fun e w' => e = .returned (.agg #[.int .u8 0, .int .u8 d, .int .u8 0, .int .u8 0, .int .i64 (m - 2147483648)]) ∧ Below w.heap.size w w' := by
  have HB := Lib.hid (fun o o' o'' => ((new_below w o).alloc (by simp) o').alloc (by simp; omega) o'')
  go_enter Try.func43, Try.ntmps43
  go_wp2_with (go_at_call 78; (with_reducible refine (HM.out _).mono ?_); rintro e w' ⟨rfl, rfl⟩)
  refine bodyPost_ret (v := .agg #[.int .u8 0, .int .u8 d, .int .u8 0, .int .u8 0, .int .i64 (m - 2147483648)]) (by simp [results, Try.results43, go_sem, *]) rfl ⟨rfl, ?_⟩
  repeat (first | exact HB.out _ _ _ | refine Below.setCell ?_ (by simp <;> omega) _)

set_option maxRecDepth 100000 in
set_option maxHeartbeats 4000000 in
theorem fitb_1 (x : In) (i n d a : Int) (q0 : x.o.tmod 15 = 1) (qd : x.d.tmod 8 = d) (qa : x.a.tmod 8 = a) (w : World) :
    Calls Try.prog 43 #[.agg #[.int .u8 x.o, .int .u8 x.d, .int .u8 x.a, .int .u8 x.b, .int .i64 x.n], .int .i64 i, .int .i64 n, .bool true] w fun e w' => e = .returned (.agg #[.int .u8 1, .int .u8 d, .int .u8 a, .int .u8 0, .int .i64 (0)]) ∧ Below w.heap.size w w' := by
  have HB := Lib.hid (fun o o' o'' => ((new_below w o).alloc (by simp) o').alloc (by simp; omega) o'')
  go_enter Try.func43, Try.ntmps43
  go_wp2_with fail
  refine bodyPost_ret (v := .agg #[.int .u8 1, .int .u8 d, .int .u8 a, .int .u8 0, .int .i64 (0)]) (by simp [results, Try.results43, go_sem, *]) rfl ⟨rfl, ?_⟩
  repeat (first | exact HB.out _ _ _ | refine Below.setCell ?_ (by simp <;> omega) _)

set_option maxRecDepth 100000 in
set_option maxHeartbeats 4000000 in
theorem fitb_2 (x : In) (i n d a b : Int) (q0 : x.o.tmod 15 = 2) (qd : x.d.tmod 8 = d) (qa : x.a.tmod 8 = a) (qb : x.b.tmod 8 = b) (w : World) :
    Calls Try.prog 43 #[.agg #[.int .u8 x.o, .int .u8 x.d, .int .u8 x.a, .int .u8 x.b, .int .i64 x.n], .int .i64 i, .int .i64 n, .bool true] w fun e w' => e = .returned (.agg #[.int .u8 2, .int .u8 d, .int .u8 a, .int .u8 b, .int .i64 (0)]) ∧ Below w.heap.size w w' := by
  have HB := Lib.hid (fun o o' o'' => ((new_below w o).alloc (by simp) o').alloc (by simp; omega) o'')
  go_enter Try.func43, Try.ntmps43
  go_wp2_with fail
  refine bodyPost_ret (v := .agg #[.int .u8 2, .int .u8 d, .int .u8 a, .int .u8 b, .int .i64 (0)]) (by simp [results, Try.results43, go_sem, *]) rfl ⟨rfl, ?_⟩
  repeat (first | exact HB.out _ _ _ | refine Below.setCell ?_ (by simp <;> omega) _)

set_option maxRecDepth 100000 in
set_option maxHeartbeats 4000000 in
theorem fitb_3 (x : In) (i n d a b : Int) (q0 : x.o.tmod 15 = 3) (qd : x.d.tmod 8 = d) (qa : x.a.tmod 8 = a) (qb : x.b.tmod 8 = b) (w : World) :
    Calls Try.prog 43 #[.agg #[.int .u8 x.o, .int .u8 x.d, .int .u8 x.a, .int .u8 x.b, .int .i64 x.n], .int .i64 i, .int .i64 n, .bool true] w fun e w' => e = .returned (.agg #[.int .u8 3, .int .u8 d, .int .u8 a, .int .u8 b, .int .i64 (0)]) ∧ Below w.heap.size w w' := by
  have HB := Lib.hid (fun o o' o'' => ((new_below w o).alloc (by simp) o').alloc (by simp; omega) o'')
  go_enter Try.func43, Try.ntmps43
  go_wp2_with fail
  refine bodyPost_ret (v := .agg #[.int .u8 3, .int .u8 d, .int .u8 a, .int .u8 b, .int .i64 (0)]) (by simp [results, Try.results43, go_sem, *]) rfl ⟨rfl, ?_⟩
  repeat (first | exact HB.out _ _ _ | refine Below.setCell ?_ (by simp <;> omega) _)

set_option maxRecDepth 100000 in
set_option maxHeartbeats 4000000 in
theorem fitb_4 (x : In) (i n d a b : Int) (q0 : x.o.tmod 15 = 4) (qd : x.d.tmod 8 = d) (qa : x.a.tmod 8 = a) (qb : x.b.tmod 8 = b) (w : World) :
    Calls Try.prog 43 #[.agg #[.int .u8 x.o, .int .u8 x.d, .int .u8 x.a, .int .u8 x.b, .int .i64 x.n], .int .i64 i, .int .i64 n, .bool true] w fun e w' => e = .returned (.agg #[.int .u8 4, .int .u8 d, .int .u8 a, .int .u8 b, .int .i64 (0)]) ∧ Below w.heap.size w w' := by
  have HB := Lib.hid (fun o o' o'' => ((new_below w o).alloc (by simp) o').alloc (by simp; omega) o'')
  go_enter Try.func43, Try.ntmps43
  go_wp2_with fail
  refine bodyPost_ret (v := .agg #[.int .u8 4, .int .u8 d, .int .u8 a, .int .u8 b, .int .i64 (0)]) (by simp [results, Try.results43, go_sem, *]) rfl ⟨rfl, ?_⟩
  repeat (first | exact HB.out _ _ _ | refine Below.setCell ?_ (by simp <;> omega) _)

set_option maxRecDepth 100000 in
set_option maxHeartbeats 4000000 in
theorem fitb_5 (x : In) (i n d a b : Int) (q0 : x.o.tmod 15 = 5) (qd : x.d.tmod 8 = d) (qa : x.a.tmod 8 = a) (qb : x.b.tmod 8 = b) (w : World) :
    Calls Try.prog 43 #[.agg #[.int .u8 x.o, .int .u8 x.d, .int .u8 x.a, .int .u8 x.b, .int .i64 x.n], .int .i64 i, .int .i64 n, .bool true] w fun e w' => e = .returned (.agg #[.int .u8 5, .int .u8 d, .int .u8 a, .int .u8 b, .int .i64 (0)]) ∧ Below w.heap.size w w' := by
  have HB := Lib.hid (fun o o' o'' => ((new_below w o).alloc (by simp) o').alloc (by simp; omega) o'')
  go_enter Try.func43, Try.ntmps43
  go_wp2_with fail
  refine bodyPost_ret (v := .agg #[.int .u8 5, .int .u8 d, .int .u8 a, .int .u8 b, .int .i64 (0)]) (by simp [results, Try.results43, go_sem, *]) rfl ⟨rfl, ?_⟩
  repeat (first | exact HB.out _ _ _ | refine Below.setCell ?_ (by simp <;> omega) _)

set_option maxRecDepth 100000 in
set_option maxHeartbeats 4000000 in
theorem fitb_6 (x : In) (i n d a b : Int) (q0 : x.o.tmod 15 = 6) (qd : x.d.tmod 8 = d) (qa : x.a.tmod 8 = a) (qb : x.b.tmod 8 = b) (w : World) :
    Calls Try.prog 43 #[.agg #[.int .u8 x.o, .int .u8 x.d, .int .u8 x.a, .int .u8 x.b, .int .i64 x.n], .int .i64 i, .int .i64 n, .bool true] w fun e w' => e = .returned (.agg #[.int .u8 6, .int .u8 d, .int .u8 a, .int .u8 b, .int .i64 (0)]) ∧ Below w.heap.size w w' := by
  have HB := Lib.hid (fun o o' o'' => ((new_below w o).alloc (by simp) o').alloc (by simp; omega) o'')
  go_enter Try.func43, Try.ntmps43
  go_wp2_with fail
  refine bodyPost_ret (v := .agg #[.int .u8 6, .int .u8 d, .int .u8 a, .int .u8 b, .int .i64 (0)]) (by simp [results, Try.results43, go_sem, *]) rfl ⟨rfl, ?_⟩
  repeat (first | exact HB.out _ _ _ | refine Below.setCell ?_ (by simp <;> omega) _)

set_option maxRecDepth 100000 in
set_option maxHeartbeats 4000000 in
theorem fitb_7 (x : In) (i n d a b : Int) (q0 : x.o.tmod 15 = 7) (qd : x.d.tmod 8 = d) (qa : x.a.tmod 8 = a) (qb : x.b.tmod 8 = b) (w : World) :
    Calls Try.prog 43 #[.agg #[.int .u8 x.o, .int .u8 x.d, .int .u8 x.a, .int .u8 x.b, .int .i64 x.n], .int .i64 i, .int .i64 n, .bool true] w fun e w' => e = .returned (.agg #[.int .u8 7, .int .u8 d, .int .u8 a, .int .u8 b, .int .i64 (0)]) ∧ Below w.heap.size w w' := by
  have HB := Lib.hid (fun o o' o'' => ((new_below w o).alloc (by simp) o').alloc (by simp; omega) o'')
  go_enter Try.func43, Try.ntmps43
  go_wp2_with fail
  refine bodyPost_ret (v := .agg #[.int .u8 7, .int .u8 d, .int .u8 a, .int .u8 b, .int .i64 (0)]) (by simp [results, Try.results43, go_sem, *]) rfl ⟨rfl, ?_⟩
  repeat (first | exact HB.out _ _ _ | refine Below.setCell ?_ (by simp <;> omega) _)

set_option maxRecDepth 100000 in
set_option maxHeartbeats 4000000 in
theorem fitb_8 (x : In) (i n d a b : Int) (q0 : x.o.tmod 15 = 8) (qd : x.d.tmod 8 = d) (qa : x.a.tmod 8 = a) (qb : x.b.tmod 8 = b) (w : World) :
    Calls Try.prog 43 #[.agg #[.int .u8 x.o, .int .u8 x.d, .int .u8 x.a, .int .u8 x.b, .int .i64 x.n], .int .i64 i, .int .i64 n, .bool true] w fun e w' => e = .returned (.agg #[.int .u8 8, .int .u8 d, .int .u8 a, .int .u8 b, .int .i64 (0)]) ∧ Below w.heap.size w w' := by
  have HB := Lib.hid (fun o o' o'' => ((new_below w o).alloc (by simp) o').alloc (by simp; omega) o'')
  go_enter Try.func43, Try.ntmps43
  go_wp2_with fail
  refine bodyPost_ret (v := .agg #[.int .u8 8, .int .u8 d, .int .u8 a, .int .u8 b, .int .i64 (0)]) (by simp [results, Try.results43, go_sem, *]) rfl ⟨rfl, ?_⟩
  repeat (first | exact HB.out _ _ _ | refine Below.setCell ?_ (by simp <;> omega) _)

set_option maxRecDepth 100000 in
set_option maxHeartbeats 4000000 in
theorem fitb_9 (x : In) (i n d a m : Int) (q0 : x.o.tmod 15 = 9) (qd : x.d.tmod 8 = d) (qa : x.a.tmod 8 = a) (HM : Hid (∀ w, Calls Try.prog 78 #[.int .i64 x.n, .int .i64 32] w fun e w' => e = .returned (.int .i64 m) ∧ w = w')) (w : World) :
    Calls Try.prog 43 #[.agg #[.int .u8 x.o, .int .u8 x.d, .int .u8 x.a, .int .u8 x.b, .int .i64 x.n], .int .i64 i, .int .i64 n, .bool true] w fun e w' => e = .returned (.agg #[.int .u8 9, .int .u8 d, .int .u8 a, .int .u8 0, .int .i64 (m)]) ∧ Below w.heap.size w w' := by
  have HB := Lib.hid (fun o o' o'' => ((new_below w o).alloc (by simp) o').alloc (by simp; omega) o'')
  go_enter Try.func43, Try.ntmps43
  go_wp2_with (go_at_call 78; (with_reducible refine (HM.out _).mono ?_); rintro e w' ⟨rfl, rfl⟩)
  refine bodyPost_ret (v := .agg #[.int .u8 9, .int .u8 d, .int .u8 a, .int .u8 0, .int .i64 (m)]) (by simp [results, Try.results43, go_sem, *]) rfl ⟨rfl, ?_⟩
  repeat (first | exact HB.out _ _ _ | refine Below.setCell ?_ (by simp <;> omega) _)

set_option maxRecDepth 100000 in
set_option maxHeartbeats 4000000 in
theorem fitb_10 (x : In) (i n d a m : Int) (q0 : x.o.tmod 15 = 10) (qd : x.d.tmod 8 = d) (qa : x.a.tmod 8 = a) (HM : Hid (∀ w, Calls Try.prog 78 #[.int .i64 x.n, .int .i64 32] w fun e w' => e = .returned (.int .i64 m) ∧ w = w')) (w : World) :
    Calls Try.prog 43 #[.agg #[.int .u8 x.o, .int .u8 x.d, .int .u8 x.a, .int .u8 x.b, .int .i64 x.n], .int .i64 i, .int .i64 n, .bool true] w fun e w' => e = .returned (.agg #[.int .u8 10, .int .u8 d, .int .u8 a, .int .u8 0, .int .i64 (m)]) ∧ Below w.heap.size w w' := by
  have HB := Lib.hid (fun o o' o'' => ((new_below w o).alloc (by simp) o').alloc (by simp; omega) o'')
  go_enter Try.func43, Try.ntmps43
  go_wp2_with (go_at_call 78; (with_reducible refine (HM.out _).mono ?_); rintro e w' ⟨rfl, rfl⟩)
  refine bodyPost_ret (v := .agg #[.int .u8 10, .int .u8 d, .int .u8 a, .int .u8 0, .int .i64 (m)]) (by simp [results, Try.results43, go_sem, *]) rfl ⟨rfl, ?_⟩
  repeat (first | exact HB.out _ _ _ | refine Below.setCell ?_ (by simp <;> omega) _)

set_option maxRecDepth 100000 in
set_option maxHeartbeats 4000000 in
theorem fitb_11 (x : In) (i n d a b : Int) (q0 : x.o.tmod 15 = 11) (qd : x.d.tmod 8 = d) (qa : x.a.tmod 8 = a) (qb : x.b.tmod 8 = b) (w : World) :
    Calls Try.prog 43 #[.agg #[.int .u8 x.o, .int .u8 x.d, .int .u8 x.a, .int .u8 x.b, .int .i64 x.n], .int .i64 i, .int .i64 n, .bool true] w fun e w' => e = .returned (.agg #[.int .u8 11, .int .u8 d, .int .u8 a, .int .u8 b, .int .i64 (0)]) ∧ Below w.heap.size w w' := by
  have HB := Lib.hid (fun o o' o'' => ((new_below w o).alloc (by simp) o').alloc (by simp; omega) o'')
  go_enter Try.func43, Try.ntmps43
  go_wp2_with fail
  refine bodyPost_ret (v := .agg #[.int .u8 11, .int .u8 d, .int .u8 a, .int .u8 b, .int .i64 (0)]) (by simp [results, Try.results43, go_sem, *]) rfl ⟨rfl, ?_⟩
  repeat (first | exact HB.out _ _ _ | refine Below.setCell ?_ (by simp <;> omega) _)

set_option maxRecDepth 100000 in
set_option maxHeartbeats 4000000 in
theorem fitb_12 (x : In) (i n a m k : Int) (q0 : x.o.tmod 15 = 12) (qa : x.a.tmod 8 = a) (gk : IntKind.i64.wrap (n - i) = k) (HM : Hid (∀ w, Calls Try.prog 78 #[.int .i64 x.n, .int .i64 k] w fun e w' => e = .returned (.int .i64 m) ∧ w = w')) (w : World) :
    Calls Try.prog 43 #[.agg #[.int .u8 x.o, .int .u8 x.d, .int .u8 x.a, .int .u8 x.b, .int .i64 x.n], .int .i64 i, .int .i64 n, .bool true] w fun e w' => e = .returned (.agg #[.int .u8 12, .int .u8 0, .int .u8 a, .int .u8 0, .int .i64 (m)]) ∧ Below w.heap.size w w' := by
  have HB := Lib.hid (fun o o' o'' => ((new_below w o).alloc (by simp) o').alloc (by simp; omega) o'')
  go_enter Try.func43, Try.ntmps43
  go_wp2_with (go_at_call 78; (with_reducible refine (HM.out _).mono ?_); rintro e w' ⟨rfl, rfl⟩)
  refine bodyPost_ret (v := .agg #[.int .u8 12, .int .u8 0, .int .u8 a, .int .u8 0, .int .i64 (m)]) (by simp [results, Try.results43, go_sem, *]) rfl ⟨rfl, ?_⟩
  repeat (first | exact HB.out _ _ _ | refine Below.setCell ?_ (by simp <;> omega) _)

set_option maxRecDepth 100000 in
set_option maxHeartbeats 4000000 in
theorem fitb_13 (x : In) (i n d a b : Int) (q0 : x.o.tmod 15 = 13) (qd : x.d.tmod 8 = d) (qa : x.a.tmod 8 = a) (qb : x.b.tmod 8 = b) (w : World) :
    Calls Try.prog 43 #[.agg #[.int .u8 x.o, .int .u8 x.d, .int .u8 x.a, .int .u8 x.b, .int .i64 x.n], .int .i64 i, .int .i64 n, .bool true] w fun e w' => e = .returned (.agg #[.int .u8 2, .int .u8 d, .int .u8 a, .int .u8 b, .int .i64 (0)]) ∧ Below w.heap.size w w' := by
  have HB := Lib.hid (fun o o' o'' => ((new_below w o).alloc (by simp) o').alloc (by simp; omega) o'')
  go_enter Try.func43, Try.ntmps43
  go_wp2_with fail
  refine bodyPost_ret (v := .agg #[.int .u8 2, .int .u8 d, .int .u8 a, .int .u8 b, .int .i64 (0)]) (by simp [results, Try.results43, go_sem, *]) rfl ⟨rfl, ?_⟩
  repeat (first | exact HB.out _ _ _ | refine Below.setCell ?_ (by simp <;> omega) _)

set_option maxRecDepth 100000 in
set_option maxHeartbeats 4000000 in
theorem fitb_14 (x : In) (i n d a b : Int) (q0 : x.o.tmod 15 = 14) (qd : x.d.tmod 8 = d) (qa : x.a.tmod 8 = a) (qb : x.b.tmod 8 = b) (w : World) :
    Calls Try.prog 43 #[.agg #[.int .u8 x.o, .int .u8 x.d, .int .u8 x.a, .int .u8 x.b, .int .i64 x.n], .int .i64 i, .int .i64 n, .bool true] w fun e w' => e = .returned (.agg #[.int .u8 2, .int .u8 d, .int .u8 a, .int .u8 b, .int .i64 (0)]) ∧ Below w.heap.size w w' := by
  have HB := Lib.hid (fun o o' o'' => ((new_below w o).alloc (by simp) o').alloc (by simp; omega) o'')
  go_enter Try.func43, Try.ntmps43
  go_wp2_with fail
  refine bodyPost_ret (v := .agg #[.int .u8 2, .int .u8 d, .int .u8 a, .int .u8 b, .int .i64 (0)]) (by simp [results, Try.results43, go_sem, *]) rfl ⟨rfl, ?_⟩
  repeat (first | exact HB.out _ _ _ | refine Below.setCell ?_ (by simp <;> omega) _)

set_option maxHeartbeats 1000000 in
theorem fitb_any (x : In) (i n : Int) (hx : x.ok) (h0 : 0 ≤ i) (h1 : i < n) (h2 : n ≤ 100000) (w : World) :
    Calls Try.prog 43 #[.agg #[.int .u8 x.o, .int .u8 x.d, .int .u8 x.a, .int .u8 x.b, .int .i64 x.n], .int .i64 i, .int .i64 n, .bool true] w fun e w' => e = .returned (.agg #[.int .u8 (fitI (bareI x) i n).o, .int .u8 (fitI (bareI x) i n).d, .int .u8 (fitI (bareI x) i n).a, .int .u8 (fitI (bareI x) i n).b, .int .i64 (fitI (bareI x) i n).n]) ∧ Below w.heap.size w w' := by
  obtain ⟨⟨o0, o1⟩, ⟨d0, d1⟩, ⟨a0, a1⟩, ⟨b0, b1⟩, hn⟩ := hx
  have qo := Int.tmod_eq_emod_of_nonneg (b := 15) o0
  have qd := Int.tmod_eq_emod_of_nonneg (b := 8) d0
  have qy := Int.tmod_eq_emod_of_nonneg (b := 5) d0
  have qa := Int.tmod_eq_emod_of_nonneg (b := 8) a0
  have qb := Int.tmod_eq_emod_of_nonneg (b := 8) b0
  have ms : ∀ b : Int, 0 < b → b ≤ 4611686018427387904 → ∀ w, Calls Try.prog 78 #[.int .i64 x.n, .int .i64 b] w fun e w' => e = .returned (.int .i64 (x.n % b)) ∧ w = w' := fun b h h' w => mod_any x.n b hn h h' w
  have gm : IntKind.i64.wrap (x.n % 4294967296 - 2147483648) = x.n % 4294967296 - 2147483648 := by rw [IntKind.wrap_i64]; omega
  have gk : IntKind.i64.wrap (n - i) = n - i := by rw [IntKind.wrap_i64]; omega
  have hop : x.o % 15 = 0 ∨ x.o % 15 = 1 ∨ x.o % 15 = 2 ∨ x.o % 15 = 3 ∨ x.o % 15 = 4 ∨ x.o % 15 = 5 ∨ x.o % 15 = 6 ∨ x.o % 15 = 7 ∨ x.o % 15 = 8 ∨ x.o % 15 = 9 ∨ x.o % 15 = 10 ∨ x.o % 15 = 11 ∨ x.o % 15 = 12 ∨ x.o % 15 = 13 ∨ x.o % 15 = 14 := by omega
  have hb0 : x.o % 15 < 13 → bareI x = x := fun h => by unfold bareI; rw [if_neg (by omega)]
  have hb1 : ¬ x.o % 15 < 13 → bareI x = ⟨2, x.d, x.a, x.b, x.n⟩ := fun h => by unfold bareI; rw [if_pos (by omega)]
  unfold fitI
  rcases hop with h | h | h | h | h | h | h | h | h | h | h | h | h | h | h
  · rw [hb0 (by omega), h]
    exact fitb_0 x i n _ _ (qo.trans h) qd gm (Lib.hid (ms 4294967296 (by omega) (by omega))) w
  · rw [hb0 (by omega), h]
    exact fitb_1 x i n _ _ (qo.trans h) qd qa w
  · rw [hb0 (by omega), h]
    exact fitb_2 x i n _ _ _ (qo.trans h) qd qa qb w
  · rw [hb0 (by omega), h]
    exact fitb_3 x i n _ _ _ (qo.trans h) qd qa qb w
  · rw [hb0 (by omega), h]
    exact fitb_4 x i n _ _ _ (qo.trans h) qd qa qb w
  · rw [hb0 (by omega), h]
    exact fitb_5 x i n _ _ _ (qo.trans h) qd qa qb w
  · rw [hb0 (by omega), h]
    exact fitb_6 x i n _ _ _ (qo.trans h) qd qa qb w
  · rw [hb0 (by omega), h]
    exact fitb_7 x i n _ _ _ (qo.trans h) qd qa qb w
  · rw [hb0 (by omega), h]
    exact fitb_8 x i n _ _ _ (qo.trans h) qd qa qb w
  · rw [hb0 (by omega), h]
    exact fitb_9 x i n _ _ _ (qo.trans h) qd qa (Lib.hid (ms 32 (by omega) (by omega))) w
  · rw [hb0 (by omega), h]
    exact fitb_10 x i n _ _ _ (qo.trans h) qd qa (Lib.hid (ms 32 (by omega) (by omega))) w
  · rw [hb0 (by omega), h]
    exact fitb_11 x i n _ _ _ (qo.trans h) qd qa qb w
  · rw [hb0 (by omega), h]
    exact fitb_12 x i n _ _ _ (qo.trans h) qa gk (Lib.hid (ms (n - i) (by omega) (by omega))) w
  · rw [hb1 (by omega)]
    exact fitb_13 x i n _ _ _ (qo.trans h) qd qa qb w
  · rw [hb1 (by omega)]
    exact fitb_14 x i n _ _ _ (qo.trans h) qd qa qb w
set_option maxRecDepth 100000 in
set_option maxHeartbeats 4000000 in
theorem Fitb_any (l : List In) (A : Option Addr) (c : Nat) (hok : ∀ x ∈ l, x.ok) (w : World) (he : Es EI w w.heap.size A l) :
    Calls Try.prog 25 #[.slice A l.length c, .bool true] w (MadeE EI w.heap.size w (fitP (l.map bareI))) := by
  by_cases h0 : l.length = 0
  · have e : fitP (l.map bareI) = [mov] := if_pos (by simpa using h0)
    rw [e, h0]
    have HO := Lib.hid (ownI_new w [mov] #[.int .u8 1, .int .u8 0, .int .u8 0, .int .u8 0, .int .i64 0] rfl (by decide))
    have HB := Lib.hid (new_below w (.cells #[.int .u8 1, .int .u8 0, .int .u8 0, .int .u8 0, .int .i64 0] 70))
    go_enter Try.func25, Try.ntmps25
    go_wp2_with fail
    go_ret
    exact ⟨_, rfl, HO.out, HB.out⟩
  obtain ⟨i0, hi, hz0, hz1, hz2⟩ := info_parts Try.info70
  have HI := Lib.hid hi
  have HZ := Lib.hid (And.intro hz0 (And.intro hz1 hz2))
  clear hi hz0 hz1 hz2
  have e : fitP (l.map bareI) = (List.range (fitN l.length)).map (fitAt (l.map bareI)) := by rw [fitP, if_neg (by simpa using h0), List.length_map]
  rw [e]
  have hmin : min (l.length : Int) 32 = (fitN l.length : Int) := by unfold fitN; omega
  have hml : fitN l.length ≤ l.length := by unfold fitN; omega
  have hm32 : fitN l.length ≤ 32 := by unfold fitN; omega
  have HFA := Lib.hid (fun (k : Nat) (u : In) (h : l[k]? = some u) => show fitAt (l.map bareI) k = fitI (bareI u) k (fitN l.length) by unfold fitAt; rw [List.getD_eq_getElem?_getD, List.getElem?_map, h, List.length_map]; rfl)
  have HL := Lib.hid (fun (k : Nat) (h : k < l.length) => get_lt h)
  have HE := Lib.hid he
  have HK := Lib.hid (fun x (h : x ∈ l) => hok x h)
  generalize fitN l.length = m at *
  generalize l.length = n at *
  have hn0 : ((n : Int) == 0) = false := by simpa using (show ¬ (n : Int) = 0 by omega)
  have HB0 := Lib.hid (new_below w (.cells #[] 70))
  have HO0 := Lib.hid (ownE_empty (E := EI) w (Nat.le_refl w.heap.size))
  clear he hok e h0
  go_enter Try.func25, Try.ntmps25
  go_wp2_with fail
  go_loopw [6, 7] (fun b i wr => ∃ k : Nat, k ≤ m ∧ i = .int .i64 k ∧ Below w.heap.size w wr ∧ OwnE EI wr w.heap.size b ((List.range k).map (fitAt (l.map bareI)))) (fun _ i _ => m - (intOf i).toNat)
  case atStart => exact ⟨0, Nat.zero_le _, rfl, HB0.out, HO0.out⟩
  case round =>
    obtain ⟨k, hk, rfl, hb, ho⟩ := hrel
    obtain ⟨A1, c1, rfl⟩ := ho.form
    have HB := Lib.hid hb
    have HO := Lib.hid ho
    clear hb ho
    by_cases hlt : k < m
    · obtain ⟨x, hx⟩ := HL.out k (by omega)
      obtain ⟨b, off, rfl, hbB, hat⟩ := HE.out.at hx
      obtain ⟨c0, c1', c2, c3, c4⟩ := atI (show AtE EI wr b (off + k * 5) x from hat.below HB.out hbB)
      have hbw := Nat.lt_of_lt_of_le hbB HB.out.size
      have HU := Lib.hid (fun w' => fitb_any x k m (HK.out x (List.mem_of_getElem? hx)) (by omega) (by omega) (by omega) w')
      have hu := HFA.out k x hx
      obtain ⟨u, hfu⟩ : ∃ u, fitI (bareI x) k m = u := ⟨_, rfl⟩
      rw [hfu] at HU hu
      have HS := Lib.hid (show (List.range (k + 1)).map (fitAt (l.map bareI)) = (List.range k).map (fitAt (l.map bareI)) ++ [u] by rw [range_snoc, hu])
      have hcl : ((List.range k).map (fitAt (l.map bareI))).length = k := by simp
      generalize (List.range k).map (fitAt (l.map bareI)) = cs at *
      have HC := Lib.hid hcl
      have hc256 : cs.length ≤ 256 := by omega
      clear hcl hat hx hu hfu
      go_wp2_with fail
      with_reducible refine (HU.out _).mono ?_
      rintro e w2 ⟨rfl, hb2⟩
      have B2 := Lib.hid (bstep HB.out HB.out.size hb2)
      have O1 := Lib.hid (HO.out.keep hb2)
      have O2 := Lib.hid (O1.out.alloc (.cells #[.int .u8 u.o, .int .u8 u.d, .int .u8 u.a, .int .u8 u.b, .int .i64 u.n] 70))
      have hz2 : w.heap.size ≤ w2.heap.size := B2.out.size
      clear hb2 HU c0 c1' c2 c3 c4
      go_wp2_with (at_builtin; refine wpList_append_own _ rfl _ _ 65 rfl w.heap.size 70 i0 _ 5 16 Try.underlying65 HI.out HZ.out.1 HZ.out.2.1 HZ.out.2.2 (by kernel_rfl) (by decide) _ _ (EI.flat cs) rfl O2.out.row _ 1 1 (EI.cells u) rfl rfl (newI_at rfl) (EI.one _) (by unfold maxLen; omega) (by omega) (by simp; omega) ?_; intro v' w6 hown' hgrow _; obtain ⟨ho6, hb6⟩ := append_ofE (E := EI) (x := u) O1.out (by omega) hown' hgrow; obtain ⟨A2, c2', rfl⟩ := ho6.form; have O6 := Lib.hid ho6; have B6 := Lib.hid hb6; clear hown' hgrow ho6 hb6)
      go_roundw
      case rel =>
        exact ⟨k + 1, by omega, by go_num, B2.out.trans B6.out, by rw [HS.out]; have h := O6.out; rw [List.length_append] at h; exact h⟩
      case measure => simp [intOf]; omega
    · obtain rfl : k = m := by omega
      go_wp2_with fail
      go_ret
      exact ⟨_, rfl, HO.out, HB.out⟩
end Go.Proofs.Ytfmmfaeognoleaa.C
/-
  Vertices as eight numbers, and the contracts of vec's functions that take them apart and together, at this seat's translation.
-/
namespace Go.Proofs.Ytfmmfaeognoleaa.U
open Go.RowKit
attribute [local go_sem ↓] Go.wp_at_zero Go.wp_at_succ

/-- A vertex: X, Y, Z, W and the four attributes. -/
structure V where
  x : Int
  y : Int
  z : Int
  w : Int
  a : Int
  b : Int
  c : Int
  d : Int
  deriving DecidableEq

def within (n m : Int) : Prop := -m ≤ n ∧ n ≤ m
/-- Numbers up to 2^20 without their sign. -/
structure V.sm (v : V) : Prop where
  x : -1048576 ≤ v.x ∧ v.x ≤ 1048576
  y : -1048576 ≤ v.y ∧ v.y ≤ 1048576
  z : -1048576 ≤ v.z ∧ v.z ≤ 1048576
  w : -1048576 ≤ v.w ∧ v.w ≤ 1048576
  a : -1048576 ≤ v.a ∧ v.a ≤ 1048576
  b : -1048576 ≤ v.b ∧ v.b ≤ 1048576
  c : -1048576 ≤ v.c ∧ v.c ≤ 1048576
  d : -1048576 ≤ v.d ∧ v.d ≤ 1048576

def dist (p : Int) (v : V) : Int :=
  if p = 0 then v.z + v.w else if p = 1 then 4 * v.w + v.x else if p = 2 then 4 * v.w - v.x else if p = 3 then 4 * v.w + v.y else if p = 4 then 4 * v.w - v.y else 0

theorem apart_any (v : V) (w : World) :
    Calls Try.prog 68 #[.agg #[.int .i64 v.x, .int .i64 v.y, .int .i64 v.z, .int .i64 v.w, .int .i64 v.a, .int .i64 v.b, .int .i64 v.c, .int .i64 v.d]] w fun e w' => e = .returned (.agg #[.int .i64 v.x, .int .i64 v.y, .int .i64 v.z, .int .i64 v.w, .int .i64 v.a, .int .i64 v.b, .int .i64 v.c, .int .i64 v.d]) ∧ Below w.heap.size w w' := by
  have hb : ∀ o o', Below w.heap.size w ((w.alloc o).alloc o') := fun o o' => ((Below.refl _ _).alloc (Nat.le_refl _) o).alloc (by simp) o'
  have HB := Lib.hid hb
  clear hb
  go_enter Try.func68, Try.ntmps68
  go_wp2
  exact bodyPost_ret (v := .agg #[.int .i64 v.x, .int .i64 v.y, .int .i64 v.z, .int .i64 v.w, .int .i64 v.a, .int .i64 v.b, .int .i64 v.c, .int .i64 v.d]) (by simp [results, Try.results68, go_sem]) rfl ⟨rfl, HB.out _ _⟩

end Go.Proofs.Ytfmmfaeognoleaa.U
/-
  What a block that holds a vertex's numbers reads, and what stays of it when one or all of them are written; worlds that only grow.
-/
namespace Go.Proofs.Ytfmmfaeognoleaa.U
open Go.RowKit
attribute [local go_sem ↓] Go.wp_at_zero Go.wp_at_succ

theorem bstep {B : Nat} {a b c : World} (h : Below B a b) (hB : B ≤ b.heap.size) (k : Below b.heap.size b c) : Below B a c := h.trans (k.mono hB)

/-- The worlds that are as w was below its own size. -/
def Grow (w : World) : Type := { w' : World // Below w.heap.size w w' }
def Grow.w {w : World} (x : Grow w) : World := x.1
theorem Grow.below {w : World} (x : Grow w) : Below w.heap.size w x.w := x.2
theorem Grow.ne (w : World) : Nonempty (Grow w) := ⟨⟨w, Below.refl _ _⟩⟩
theorem Grow.cell {w : World} (x : Grow w) {b o : Nat} {v : Value} (h : w.cell? ⟨b, o, none⟩ = some v) : x.w.cell? ⟨b, o, none⟩ = some v := by
  rw [x.below.cell (World.block_lt_of_cell? _ _ h), h]

theorem wp_region_grow {P : Program} {id : Nat} {Q : Exit → Act → World → Prop} {a : Act} {w : World} {l : List Oper} (hm : P.follows .mixedOrders = true) (hB : Region.lexB .any l.toArray = true)
    (h : wpQuiet P l.toArray (fun w' => ∃ x : Grow w, w' = x.w) (fun a' => ∀ w', (∃ x : Grow w, w' = x.w) → Q .normal a' w') l a) : (Code.region id l.toArray true).wp P Q a w :=
  wp_region_quiet (C := fun w' => ∃ x : Grow w, w' = x.w) hm hB ⟨⟨_, (Below.refl _ _).drew⟩, rfl⟩ (by simpa using h)

theorem Grow.calls {P : Program} {f : FuncId} {args : Array Value} {w : World} {x : Grow w} {v : Value}
    (h : Calls P f args x.w fun e w' => e = .returned v ∧ Below x.w.heap.size x.w w') : Calls P f args x.w fun e w'' => e = .returned v ∧ ∃ y : Grow w, w'' = y.w :=
  h.mono fun _ _ ⟨he, hb⟩ => ⟨he, ⟨_, x.below.trans (hb.mono x.below.size)⟩, rfl⟩

/-- A block of eight numbers, of a type t. -/
def vB (t : TypeId) (v : V) : Obj := .cells #[.int .i64 v.x, .int .i64 v.y, .int .i64 v.z, .int .i64 v.w, .int .i64 v.a, .int .i64 v.b, .int .i64 v.c, .int .i64 v.d] t (0, 0)
theorem vB_cell {w : World} {g : Nat} {t : TypeId} {v : V} (h : w.heap[g]? = some (vB t v)) : (w.cell? ⟨g, 0, none⟩ = some (.int .i64 v.x) ∧ w.cell? ⟨g, 1, none⟩ = some (.int .i64 v.y) ∧ w.cell? ⟨g, 2, none⟩ = some (.int .i64 v.z) ∧ w.cell? ⟨g, 3, none⟩ = some (.int .i64 v.w) ∧ w.cell? ⟨g, 4, none⟩ = some (.int .i64 v.a) ∧ w.cell? ⟨g, 5, none⟩ = some (.int .i64 v.b) ∧ w.cell? ⟨g, 6, none⟩ = some (.int .i64 v.c) ∧ w.cell? ⟨g, 7, none⟩ = some (.int .i64 v.d)) := by
  unfold vB at h
  simp [World.cell?, h]
theorem vB_free {w : World} {g : Nat} {t : TypeId} {v : V} (h : w.heap[g]? = some (vB t v)) :
    w.frozen? ⟨g, 0, none⟩ = false ∧ w.frozen? ⟨g, 1, none⟩ = false ∧ w.frozen? ⟨g, 2, none⟩ = false ∧ w.frozen? ⟨g, 3, none⟩ = false ∧ w.frozen? ⟨g, 4, none⟩ = false ∧ w.frozen? ⟨g, 5, none⟩ = false ∧ w.frozen? ⟨g, 6, none⟩ = false ∧ w.frozen? ⟨g, 7, none⟩ = false := by
  unfold vB at h
  simp [World.frozen?, h]
theorem new_at {w : World} {o : Obj} {k : Nat} (h : k = w.heap.size) : (w.alloc o).heap[k]? = some o := by
  subst h
  exact heap_alloc_new _ _
theorem vB_lt {w : World} {g : Nat} {t : TypeId} {v : V} (h : w.heap[g]? = some (vB t v)) : g < w.heap.size := World.block_lt_of_cell? _ _ (vB_cell h).1
theorem vB_grow {w w' : World} {g : Nat} {t : TypeId} {v : V} (h : w.heap[g]? = some (vB t v)) (k : Below w.heap.size w w') : w'.heap[g]? = some (vB t v) := (k.block _ (vB_lt h)).trans h
theorem vB_alloc {w : World} {g : Nat} {t : TypeId} {v : V} (o : Obj) (h : w.heap[g]? = some (vB t v)) : (w.alloc o).heap[g]? = some (vB t v) := (Below.heap_alloc _ _ _ (vB_lt h)).trans h
theorem vB_set0 {w : World} {g : Nat} {t : TypeId} {v : V} (n : Int) (h : w.heap[g]? = some (vB t v)) : (w.setCell ⟨g, 0, none⟩ (.int .i64 n)).heap[g]? = some (vB t { v with x := n }) := by
  unfold vB at h
  rw [heap_setCell_same _ _ _ _ _ _ h]
  simp [vB]
theorem vB_set1 {w : World} {g : Nat} {t : TypeId} {v : V} (n : Int) (h : w.heap[g]? = some (vB t v)) : (w.setCell ⟨g, 1, none⟩ (.int .i64 n)).heap[g]? = some (vB t { v with y := n }) := by
  unfold vB at h
  rw [heap_setCell_same _ _ _ _ _ _ h]
  simp [vB]
theorem vB_set2 {w : World} {g : Nat} {t : TypeId} {v : V} (n : Int) (h : w.heap[g]? = some (vB t v)) : (w.setCell ⟨g, 2, none⟩ (.int .i64 n)).heap[g]? = some (vB t { v with z := n }) := by
  unfold vB at h
  rw [heap_setCell_same _ _ _ _ _ _ h]
  simp [vB]
theorem vB_set3 {w : World} {g : Nat} {t : TypeId} {v : V} (n : Int) (h : w.heap[g]? = some (vB t v)) : (w.setCell ⟨g, 3, none⟩ (.int .i64 n)).heap[g]? = some (vB t { v with w := n }) := by
  unfold vB at h
  rw [heap_setCell_same _ _ _ _ _ _ h]
  simp [vB]
theorem vB_set4 {w : World} {g : Nat} {t : TypeId} {v : V} (n : Int) (h : w.heap[g]? = some (vB t v)) : (w.setCell ⟨g, 4, none⟩ (.int .i64 n)).heap[g]? = some (vB t { v with a := n }) := by
  unfold vB at h
  rw [heap_setCell_same _ _ _ _ _ _ h]
  simp [vB]
theorem vB_set5 {w : World} {g : Nat} {t : TypeId} {v : V} (n : Int) (h : w.heap[g]? = some (vB t v)) : (w.setCell ⟨g, 5, none⟩ (.int .i64 n)).heap[g]? = some (vB t { v with b := n }) := by
  unfold vB at h
  rw [heap_setCell_same _ _ _ _ _ _ h]
  simp [vB]
theorem vB_set6 {w : World} {g : Nat} {t : TypeId} {v : V} (n : Int) (h : w.heap[g]? = some (vB t v)) : (w.setCell ⟨g, 6, none⟩ (.int .i64 n)).heap[g]? = some (vB t { v with c := n }) := by
  unfold vB at h
  rw [heap_setCell_same _ _ _ _ _ _ h]
  simp [vB]
theorem vB_set7 {w : World} {g : Nat} {t : TypeId} {v : V} (n : Int) (h : w.heap[g]? = some (vB t v)) : (w.setCell ⟨g, 7, none⟩ (.int .i64 n)).heap[g]? = some (vB t { v with d := n }) := by
  unfold vB at h
  rw [heap_setCell_same _ _ _ _ _ _ h]
  simp [vB]
theorem vB_set {w : World} {g : Nat} {t : TypeId} {v : V} (u : V) (h : w.heap[g]? = some (vB t v)) : ((((((((w.setCell ⟨g, 0, none⟩ (.int .i64 u.x)).setCell ⟨g, 1, none⟩ (.int .i64 u.y)).setCell ⟨g, 2, none⟩ (.int .i64 u.z)).setCell ⟨g, 3, none⟩ (.int .i64 u.w)).setCell ⟨g, 4, none⟩ (.int .i64 u.a)).setCell ⟨g, 5, none⟩ (.int .i64 u.b)).setCell ⟨g, 6, none⟩ (.int .i64 u.c)).setCell ⟨g, 7, none⟩ (.int .i64 u.d)).heap[g]? = some (vB t u) := by
  have h0 := vB_set0 u.x h
  have h1 := vB_set1 u.y h0
  have h2 := vB_set2 u.z h1
  have h3 := vB_set3 u.w h2
  have h4 := vB_set4 u.a h3
  have h5 := vB_set5 u.b h4
  have h6 := vB_set6 u.c h5
  have h7 := vB_set7 u.d h6
  exact h7
/-- The eight numbers written, one behind the other. -/
def set8 (w : World) (g : Nat) (u : V) : World := ((((((((w.setCell ⟨g, 0, none⟩ (.int .i64 u.x)).setCell ⟨g, 1, none⟩ (.int .i64 u.y)).setCell ⟨g, 2, none⟩ (.int .i64 u.z)).setCell ⟨g, 3, none⟩ (.int .i64 u.w)).setCell ⟨g, 4, none⟩ (.int .i64 u.a)).setCell ⟨g, 5, none⟩ (.int .i64 u.b)).setCell ⟨g, 6, none⟩ (.int .i64 u.c)).setCell ⟨g, 7, none⟩ (.int .i64 u.d))
theorem set8_same {w : World} {g : Nat} {t : TypeId} {v : V} (u : V) (h : w.heap[g]? = some (vB t v)) : (set8 w g u).heap[g]? = some (vB t u) := vB_set u h
theorem set8_below {B : Nat} {w w' : World} {g : Nat} (u : V) (h : Below B w w') (hg : B ≤ g) : Below B w (set8 w' g u) := by
  unfold set8
  exact (((((((h.setCell hg _).setCell hg _).setCell hg _).setCell hg _).setCell hg _).setCell hg _).setCell hg _).setCell hg _
theorem vB_other {w : World} {g k o : Nat} {t : TypeId} {v : V} (n : Value) (h : w.heap[g]? = some (vB t v)) (hk : k ≠ g) : (w.setCell ⟨k, o, none⟩ n).heap[g]? = some (vB t v) := by
  rw [heap_setCell_other _ _ _ _ (by simpa using fun e => hk e.symm)]; exact h
theorem set8_other {w : World} {g k : Nat} {t : TypeId} {v : V} (u : V) (h : w.heap[g]? = some (vB t v)) (hk : k ≠ g) : (set8 w k u).heap[g]? = some (vB t v) := by
  unfold set8
  exact vB_other _ (vB_other _ (vB_other _ (vB_other _ (vB_other _ (vB_other _ (vB_other _ (vB_other _ h hk) hk) hk) hk) hk) hk) hk) hk
end Go.Proofs.Ytfmmfaeognoleaa.U
/-
  The contracts of vec.held and vec.Right: a vertex may be just if holding its numbers within their bounds leaves it.
-/
namespace Go.Proofs.Ytfmmfaeognoleaa.U
open Go.RowKit
attribute [local go_sem ↓] Go.wp_at_zero Go.wp_at_succ

def clamp (lo hi n : Int) : Int := min (max n lo) hi
def least : V := ⟨-32768, -32768, -32768, 1, -4096, -4096, -4096, -4096⟩
def most : V := ⟨32768, 32768, 32768, 32768, 4096, 4096, 4096, 4096⟩
/-- The first j numbers held within their bounds. -/
def upto (j : Nat) (v : V) : V :=
  ⟨if 0 < j then min (max v.x (-32768)) 32768 else v.x, if 1 < j then min (max v.y (-32768)) 32768 else v.y, if 2 < j then min (max v.z (-32768)) 32768 else v.z, if 3 < j then min (max v.w 1) 32768 else v.w,
    if 4 < j then min (max v.a (-4096)) 4096 else v.a, if 5 < j then min (max v.b (-4096)) 4096 else v.b, if 6 < j then min (max v.c (-4096)) 4096 else v.c, if 7 < j then min (max v.d (-4096)) 4096 else v.d⟩
def heldV (v : V) : V :=
  ⟨min (max v.x (-32768)) 32768, min (max v.y (-32768)) 32768, min (max v.z (-32768)) 32768, min (max v.w 1) 32768, min (max v.a (-4096)) 4096, min (max v.b (-4096)) 4096, min (max v.c (-4096)) 4096, min (max v.d (-4096)) 4096⟩

set_option maxRecDepth 100000 in
set_option maxHeartbeats 2000000 in
theorem held_any (v : V) (w : World) :
    Calls Try.prog 69 #[.agg #[.int .i64 v.x, .int .i64 v.y, .int .i64 v.z, .int .i64 v.w, .int .i64 v.a, .int .i64 v.b, .int .i64 v.c, .int .i64 v.d]] w fun e w' => e = .returned (.agg #[.int .i64 (heldV v).x, .int .i64 (heldV v).y, .int .i64 (heldV v).z, .int .i64 (heldV v).w, .int .i64 (heldV v).a, .int .i64 (heldV v).b, .int .i64 (heldV v).c, .int .i64 (heldV v).d]) ∧ Below w.heap.size w w' := by
  go_enter Try.func69, Try.ntmps69
  go_wp2
  go_loopw [8] (fun i wr => ∃ j : Nat, j ≤ 8 ∧ i = .int .i64 j ∧ Below w.heap.size w wr ∧ wr.heap[w.heap.size]? = some (vB 126 (upto j v)) ∧ wr.heap[w.heap.size + 1]? = some (vB 126 ⟨0, 0, 0, 0, 0, 0, 0, 0⟩) ∧ wr.heap[w.heap.size + 2]? = some (vB 126 least) ∧ wr.heap[w.heap.size + 3]? = some (vB 126 most))
    (fun i _ => 8 - (intOf i).toNat)
  case atStart =>
    refine ⟨0, by omega, rfl, ?_, ?_, ?_, ?_, ?_⟩
    · exact ((((Below.refl _ _).alloc (Nat.le_refl _) _).alloc (by simp) _).alloc (by simp; omega) _).alloc (by simp; omega) _
    · rw [Below.heap_alloc _ _ _ (by simp; omega), Below.heap_alloc _ _ _ (by simp; omega), Below.heap_alloc _ _ _ (by simp)]; exact heap_alloc_new _ _
    · rw [Below.heap_alloc _ _ _ (by simp), Below.heap_alloc _ _ _ (by simp)]; exact new_at (by simp)
    · rw [Below.heap_alloc _ _ _ (by simp)]; exact new_at (by simp)
    · exact new_at (by simp)
  case round =>
    obtain ⟨j, hj, rfl, hbel, h0, h1, h2, h3⟩ := hrel
    have HBE := Lib.hid hbel
    have H0 := Lib.hid h0
    have H1 := Lib.hid h1
    have H2 := Lib.hid h2
    have H3 := Lib.hid h3
    have hz := vB_lt h0
    clear hbel h0 h1 h2 h3
    rcases (show j = 0 ∨ j = 1 ∨ j = 2 ∨ j = 3 ∨ j = 4 ∨ j = 5 ∨ j = 6 ∨ j = 7 ∨ j = 8 by omega) with rfl | rfl | rfl | rfl | rfl | rfl | rfl | rfl | rfl
    · have c0 : wr.cell? ⟨w.heap.size, 0, none⟩ = some (.int .i64 v.x) := (vB_cell H0.out).1
      have c2 : wr.cell? ⟨w.heap.size + 2, 0, none⟩ = some (.int .i64 (-32768)) := (vB_cell H2.out).1
      have c3 : wr.cell? ⟨w.heap.size + 3, 0, none⟩ = some (.int .i64 32768) := (vB_cell H3.out).1
      have f0 : wr.frozen? ⟨w.heap.size, 0, none⟩ = false := (vB_free H0.out).1
      go_wp2
      go_still_tail 13, (by kernel_rfl)
      change wpList _ _ _ _ _ wr.drew
      go_wp2
      go_roundw
      case rel => exact ⟨1, by omega, by go_num, (HBE.out.drew).setCell (by simp) _, vB_set0 (w := wr.drew) _ H0.out, vB_other (w := wr.drew) _ H1.out (by omega), vB_other (w := wr.drew) _ H2.out (by omega), vB_other (w := wr.drew) _ H3.out (by omega)⟩
      case measure => simp [intOf]
    · have c0 : wr.cell? ⟨w.heap.size, 1, none⟩ = some (.int .i64 v.y) := (vB_cell H0.out).2.1
      have c2 : wr.cell? ⟨w.heap.size + 2, 1, none⟩ = some (.int .i64 (-32768)) := (vB_cell H2.out).2.1
      have c3 : wr.cell? ⟨w.heap.size + 3, 1, none⟩ = some (.int .i64 32768) := (vB_cell H3.out).2.1
      have f0 : wr.frozen? ⟨w.heap.size, 1, none⟩ = false := (vB_free H0.out).2.1
      go_wp2
      go_still_tail 13, (by kernel_rfl)
      change wpList _ _ _ _ _ wr.drew
      go_wp2
      go_roundw
      case rel => exact ⟨2, by omega, by go_num, (HBE.out.drew).setCell (by simp) _, vB_set1 (w := wr.drew) _ H0.out, vB_other (w := wr.drew) _ H1.out (by omega), vB_other (w := wr.drew) _ H2.out (by omega), vB_other (w := wr.drew) _ H3.out (by omega)⟩
      case measure => simp [intOf]
    · have c0 : wr.cell? ⟨w.heap.size, 2, none⟩ = some (.int .i64 v.z) := (vB_cell H0.out).2.2.1
      have c2 : wr.cell? ⟨w.heap.size + 2, 2, none⟩ = some (.int .i64 (-32768)) := (vB_cell H2.out).2.2.1
      have c3 : wr.cell? ⟨w.heap.size + 3, 2, none⟩ = some (.int .i64 32768) := (vB_cell H3.out).2.2.1
      have f0 : wr.frozen? ⟨w.heap.size, 2, none⟩ = false := (vB_free H0.out).2.2.1
      go_wp2
      go_still_tail 13, (by kernel_rfl)
      change wpList _ _ _ _ _ wr.drew
      go_wp2
      go_roundw
      case rel => exact ⟨3, by omega, by go_num, (HBE.out.drew).setCell (by simp) _, vB_set2 (w := wr.drew) _ H0.out, vB_other (w := wr.drew) _ H1.out (by omega), vB_other (w := wr.drew) _ H2.out (by omega), vB_other (w := wr.drew) _ H3.out (by omega)⟩
      case measure => simp [intOf]
    · have c0 : wr.cell? ⟨w.heap.size, 3, none⟩ = some (.int .i64 v.w) := (vB_cell H0.out).2.2.2.1
      have c2 : wr.cell? ⟨w.heap.size + 2, 3, none⟩ = some (.int .i64 1) := (vB_cell H2.out).2.2.2.1
      have c3 : wr.cell? ⟨w.heap.size + 3, 3, none⟩ = some (.int .i64 32768) := (vB_cell H3.out).2.2.2.1
      have f0 : wr.frozen? ⟨w.heap.size, 3, none⟩ = false := (vB_free H0.out).2.2.2.1
      go_wp2
      go_still_tail 13, (by kernel_rfl)
      change wpList _ _ _ _ _ wr.drew
      go_wp2
      go_roundw
      case rel => exact ⟨4, by omega, by go_num, (HBE.out.drew).setCell (by simp) _, vB_set3 (w := wr.drew) _ H0.out, vB_other (w := wr.drew) _ H1.out (by omega), vB_other (w := wr.drew) _ H2.out (by omega), vB_other (w := wr.drew) _ H3.out (by omega)⟩
      case measure => simp [intOf]
    · have c0 : wr.cell? ⟨w.heap.size, 4, none⟩ = some (.int .i64 v.a) := (vB_cell H0.out).2.2.2.2.1
      have c2 : wr.cell? ⟨w.heap.size + 2, 4, none⟩ = some (.int .i64 (-4096)) := (vB_cell H2.out).2.2.2.2.1
      have c3 : wr.cell? ⟨w.heap.size + 3, 4, none⟩ = some (.int .i64 4096) := (vB_cell H3.out).2.2.2.2.1
      have f0 : wr.frozen? ⟨w.heap.size, 4, none⟩ = false := (vB_free H0.out).2.2.2.2.1
      go_wp2
      go_still_tail 13, (by kernel_rfl)
      change wpList _ _ _ _ _ wr.drew
      go_wp2
      go_roundw
      case rel => exact ⟨5, by omega, by go_num, (HBE.out.drew).setCell (by simp) _, vB_set4 (w := wr.drew) _ H0.out, vB_other (w := wr.drew) _ H1.out (by omega), vB_other (w := wr.drew) _ H2.out (by omega), vB_other (w := wr.drew) _ H3.out (by omega)⟩
      case measure => simp [intOf]
    · have c0 : wr.cell? ⟨w.heap.size, 5, none⟩ = some (.int .i64 v.b) := (vB_cell H0.out).2.2.2.2.2.1
      have c2 : wr.cell? ⟨w.heap.size + 2, 5, none⟩ = some (.int .i64 (-4096)) := (vB_cell H2.out).2.2.2.2.2.1
      have c3 : wr.cell? ⟨w.heap.size + 3, 5, none⟩ = some (.int .i64 4096) := (vB_cell H3.out).2.2.2.2.2.1
      have f0 : wr.frozen? ⟨w.heap.size, 5, none⟩ = false := (vB_free H0.out).2.2.2.2.2.1
      go_wp2
      go_still_tail 13, (by kernel_rfl)
      change wpList _ _ _ _ _ wr.drew
      go_wp2
      go_roundw
      case rel => exact ⟨6, by omega, by go_num, (HBE.out.drew).setCell (by simp) _, vB_set5 (w := wr.drew) _ H0.out, vB_other (w := wr.drew) _ H1.out (by omega), vB_other (w := wr.drew) _ H2.out (by omega), vB_other (w := wr.drew) _ H3.out (by omega)⟩
      case measure => simp [intOf]
    · have c0 : wr.cell? ⟨w.heap.size, 6, none⟩ = some (.int .i64 v.c) := (vB_cell H0.out).2.2.2.2.2.2.1
      have c2 : wr.cell? ⟨w.heap.size + 2, 6, none⟩ = some (.int .i64 (-4096)) := (vB_cell H2.out).2.2.2.2.2.2.1
      have c3 : wr.cell? ⟨w.heap.size + 3, 6, none⟩ = some (.int .i64 4096) := (vB_cell H3.out).2.2.2.2.2.2.1
      have f0 : wr.frozen? ⟨w.heap.size, 6, none⟩ = false := (vB_free H0.out).2.2.2.2.2.2.1
      go_wp2
      go_still_tail 13, (by kernel_rfl)
      change wpList _ _ _ _ _ wr.drew
      go_wp2
      go_roundw
      case rel => exact ⟨7, by omega, by go_num, (HBE.out.drew).setCell (by simp) _, vB_set6 (w := wr.drew) _ H0.out, vB_other (w := wr.drew) _ H1.out (by omega), vB_other (w := wr.drew) _ H2.out (by omega), vB_other (w := wr.drew) _ H3.out (by omega)⟩
      case measure => simp [intOf]
    · have c0 : wr.cell? ⟨w.heap.size, 7, none⟩ = some (.int .i64 v.d) := (vB_cell H0.out).2.2.2.2.2.2.2
      have c2 : wr.cell? ⟨w.heap.size + 2, 7, none⟩ = some (.int .i64 (-4096)) := (vB_cell H2.out).2.2.2.2.2.2.2
      have c3 : wr.cell? ⟨w.heap.size + 3, 7, none⟩ = some (.int .i64 4096) := (vB_cell H3.out).2.2.2.2.2.2.2
      have f0 : wr.frozen? ⟨w.heap.size, 7, none⟩ = false := (vB_free H0.out).2.2.2.2.2.2.2
      go_wp2
      go_still_tail 13, (by kernel_rfl)
      change wpList _ _ _ _ _ wr.drew
      go_wp2
      go_roundw
      case rel => exact ⟨8, by omega, by go_num, (HBE.out.drew).setCell (by simp) _, vB_set7 (w := wr.drew) _ H0.out, vB_other (w := wr.drew) _ H1.out (by omega), vB_other (w := wr.drew) _ H2.out (by omega), vB_other (w := wr.drew) _ H3.out (by omega)⟩
      case measure => simp [intOf]
    · obtain ⟨c0, c1, c2, c3, c4, c5, c6, c7⟩ : (wr.cell? ⟨w.heap.size, 0, none⟩ = some (.int .i64 (heldV v).x) ∧ wr.cell? ⟨w.heap.size, 1, none⟩ = some (.int .i64 (heldV v).y) ∧ wr.cell? ⟨w.heap.size, 2, none⟩ = some (.int .i64 (heldV v).z) ∧ wr.cell? ⟨w.heap.size, 3, none⟩ = some (.int .i64 (heldV v).w) ∧ wr.cell? ⟨w.heap.size, 4, none⟩ = some (.int .i64 (heldV v).a) ∧ wr.cell? ⟨w.heap.size, 5, none⟩ = some (.int .i64 (heldV v).b) ∧ wr.cell? ⟨w.heap.size, 6, none⟩ = some (.int .i64 (heldV v).c) ∧ wr.cell? ⟨w.heap.size, 7, none⟩ = some (.int .i64 (heldV v).d)) := vB_cell H0.out
      obtain ⟨d0, d1, d2, d3, d4, d5, d6, d7⟩ := vB_cell H1.out
      obtain ⟨f0, f1, f2, f3, f4, f5, f6, f7⟩ := vB_free H1.out
      have hz1 := vB_lt H1.out
      go_wp2
      have HR := vB_cell (vB_set (heldV v) H1.out)
      obtain ⟨r0, r1, r2, r3, r4, r5, r6, r7⟩ := HR
      refine bodyPost_ret (v := .agg #[.int .i64 (heldV v).x, .int .i64 (heldV v).y, .int .i64 (heldV v).z, .int .i64 (heldV v).w, .int .i64 (heldV v).a, .int .i64 (heldV v).b, .int .i64 (heldV v).c, .int .i64 (heldV v).d]) (by simp [results, Try.results69, go_sem, r0, r1, r2, r3, r4, r5, r6, r7]) rfl ⟨rfl, ?_⟩
      exact (((((((HBE.out.setCell (by simp) _).setCell (by simp) _).setCell (by simp) _).setCell (by simp) _).setCell (by simp) _).setCell (by simp) _).setCell (by simp) _).setCell (by simp) _
end Go.Proofs.Ytfmmfaeognoleaa.U
/-
  What comparing two arrays of numbers, or two vertices, comes to in the model.
-/
namespace Go.Proofs.Ytfmmfaeognoleaa.U
open Go.RowKit

/-- Two vertices are the same. -/
def sameV (u v : V) : Bool := decide (u = v)
set_option maxRecDepth 100000 in
theorem sameV_self (u : V) : sameV u u = true := by simp [sameV]

set_option maxRecDepth 100000 in
theorem all_range_ints : ∀ (xs ys : List Int), xs.length = ys.length → ((List.range xs.length).all fun i => xs.getD i 0 == ys.getD i 0) = (xs == ys)
  | [], [], _ => rfl
  | x :: xs, y :: ys, h => by
    have ih := all_range_ints xs ys (by simpa using h)
    rw [List.length_cons, List.range_succ_eq_map, List.all_cons, List.all_map]
    simp only [List.getD_cons_zero, Function.comp_def, List.getD_cons_succ, ih]
    simp [List.cons_beq_cons]
  | [], _ :: _, h => by simp at h
  | _ :: _, [], h => by simp at h

set_option maxRecDepth 100000 in
theorem run_equalIn_ints {P : Program} (w : World) (d : Nat) (t e : TypeId) (n : Nat) (ht : P.underlying t = some (.array n e)) (he : P.underlying e = some (.int .i64)) (hsz : ∀ w, (sizeOf e).run P w = .ok 1 w)
    (xs ys : List Int) (hx : xs.length = n) (hy : ys.length = n) :
    (Op.equalIn (d + 2) t (.agg (xs.map fun k => Value.int .i64 k).toArray) (.agg (ys.map fun k => Value.int .i64 k).toArray)).run P w = .ok (xs == ys) w := by
  rw [← all_range_ints xs ys (hx.trans hy.symm), hx, List.range_eq_range', Op.equalIn]
  simp only [Sem.run_bind, run_underlying ht, Result.andThen_ok, hsz, Std.Legacy.Range.forIn_eq_forIn_range', Std.Legacy.Range.size, Nat.sub_zero, Nat.add_sub_cancel, Nat.div_one]
  have hl : ∀ i ∈ List.range' 0 n 1, i < n := fun i hi => by simpa using (List.mem_range'_1.1 hi).2
  generalize List.range' 0 n 1 = l at hl ⊢
  induction l with
  | nil => simp
  | cons i l ih =>
    have hi : i < n := hl i (by simp)
    have px : (part e (xs.map fun k => Value.int .i64 k).toArray (i * 1)).run P w = .ok (.int .i64 (xs.getD i 0)) w := by
      simp [part, isAgg, run_underlying he, List.getD, List.getElem?_eq_getElem (show i < xs.length by omega)]
    have py : (part e (ys.map fun k => Value.int .i64 k).toArray (i * 1)).run P w = .ok (.int .i64 (ys.getD i 0)) w := by
      simp [part, isAgg, run_underlying he, List.getD, List.getElem?_eq_getElem (show i < ys.length by omega)]
    have pe : (Op.equalIn (d + 1) e (.int .i64 (xs.getD i 0)) (.int .i64 (ys.getD i 0))).run P w = .ok (xs.getD i 0 == ys.getD i 0) w := run_equalIn_int w d e .i64 .i64 _ _ he
    simp only [List.forIn_cons, Sem.run_bind, px, py, pe, Result.andThen_ok, List.all_cons]
    cases hb : (xs.getD i 0 == ys.getD i 0)
    · simp
    · simp only [Bool.not_true, Bool.false_eq_true, if_false, Sem.run_pure, Result.andThen_ok, Bool.true_and]
      exact ih fun j hj => hl j (by simp [hj])

set_option maxRecDepth 100000 in
theorem eql36 (w : World) (x0 x1 x2 x3 x4 x5 x6 x7 y0 y1 y2 y3 y4 y5 y6 y7 : Int) : (binOp .eql 126 (.agg #[.int .i64 x0, .int .i64 x1, .int .i64 x2, .int .i64 x3, .int .i64 x4, .int .i64 x5, .int .i64 x6, .int .i64 x7]) (.agg #[.int .i64 y0, .int .i64 y1, .int .i64 y2, .int .i64 y3, .int .i64 y4, .int .i64 y5, .int .i64 y6, .int .i64 y7])).run Try.prog w = .ok (.bool (sameV ((⟨x0, x1, x2, x3, x4, x5, x6, x7⟩ : V)) ⟨y0, y1, y2, y3, y4, y5, y6, y7⟩)) w := by
  have h := run_equalIn_ints (P := Try.prog) w 9998 126 3 8 Try.underlying126 Try.underlying3 Try.sizeOf3 [x0, x1, x2, x3, x4, x5, x6, x7] [y0, y1, y2, y3, y4, y5, y6, y7] rfl rfl
  rw [run_eql_struct]
  simp only [List.map_cons, List.map_nil] at h
  rw [show (10000 : Nat) = 9998 + 2 from rfl, h, Result.andThen_ok]
  congr 2
  rw [Bool.eq_iff_iff]
  simp [sameV]
set_option maxRecDepth 100000 in
theorem eqlA (w : World) (a b c d a' b' c' d' : Int) : (Op.equalIn 9999 41 (.agg #[.int .i64 a, .int .i64 b, .int .i64 c, .int .i64 d]) (.agg #[.int .i64 a', .int .i64 b', .int .i64 c', .int .i64 d'])).run Try.prog w = .ok ([a, b, c, d] == [a', b', c', d']) w :=
  run_equalIn_ints (P := Try.prog) w 9997 41 3 4 Try.underlying41 Try.underlying3 Try.sizeOf3 [a, b, c, d] [a', b', c', d'] rfl rfl
set_option maxRecDepth 100000 in
theorem guard36 : Try.prog.eqGuardType Try.prog.depth 126 = false := by kernel_rfl
end Go.Proofs.Ytfmmfaeognoleaa.U
/-
  The contract of vec.Right: a vertex may be just if holding its numbers within their bounds leaves it.
-/
namespace Go.Proofs.Ytfmmfaeognoleaa.U
open Go.RowKit
attribute [local go_sem ↓] Go.wp_at_zero Go.wp_at_succ

attribute [local go_sem high] eql36
attribute [local go_sem] guard36

def rightB (v : V) : Bool := sameV v (heldV v)

set_option maxRecDepth 100000 in
theorem right_any (v : V) (w : World) :
    Calls Try.prog 35 #[.agg #[.int .i64 v.x, .int .i64 v.y, .int .i64 v.z, .int .i64 v.w, .int .i64 v.a, .int .i64 v.b, .int .i64 v.c, .int .i64 v.d]] w fun e w' => e = .returned (.bool (rightB v)) ∧ Below w.heap.size w w' := by
  have HH := Lib.hid (held_any v)
  have HA := Lib.hid (apart_any v)
  go_enter Try.func35, Try.ntmps35
  go_wp2_with fail
  refine (HA.out _).mono ?_
  rintro e w1 ⟨rfl, hb1⟩
  have HB1 := Lib.hid hb1
  clear hb1
  go_wp2
  generalize hW : w1.alloc (Obj.cells #[.int .i64 v.x, .int .i64 v.y, .int .i64 v.z, .int .i64 v.w, .int .i64 v.a, .int .i64 v.b, .int .i64 v.c, .int .i64 v.d] 126) = W
  have G : ∀ x : Grow W, (x.w.cell? ⟨w1.heap.size, 0, none⟩ = some (.int .i64 v.x) ∧ x.w.cell? ⟨w1.heap.size, 1, none⟩ = some (.int .i64 v.y) ∧ x.w.cell? ⟨w1.heap.size, 2, none⟩ = some (.int .i64 v.z) ∧ x.w.cell? ⟨w1.heap.size, 3, none⟩ = some (.int .i64 v.w) ∧ x.w.cell? ⟨w1.heap.size, 4, none⟩ = some (.int .i64 v.a) ∧ x.w.cell? ⟨w1.heap.size, 5, none⟩ = some (.int .i64 v.b) ∧ x.w.cell? ⟨w1.heap.size, 6, none⟩ = some (.int .i64 v.c) ∧ x.w.cell? ⟨w1.heap.size, 7, none⟩ = some (.int .i64 v.d)) := by
    intro x
    have h := vB_cell (vB_grow (w := W) (g := w1.heap.size) (t := 126) (v := v) (by rw [← hW]; exact new_at rfl) x.below)
    exact h
  obtain ⟨g0, g1, g2, g3, g4, g5, g6, g7⟩ : (∀ x : Grow W, x.w.cell? ⟨w1.heap.size, 0, none⟩ = some (.int .i64 v.x)) ∧ (∀ x : Grow W, x.w.cell? ⟨w1.heap.size, 1, none⟩ = some (.int .i64 v.y)) ∧ (∀ x : Grow W, x.w.cell? ⟨w1.heap.size, 2, none⟩ = some (.int .i64 v.z)) ∧ (∀ x : Grow W, x.w.cell? ⟨w1.heap.size, 3, none⟩ = some (.int .i64 v.w)) ∧ (∀ x : Grow W, x.w.cell? ⟨w1.heap.size, 4, none⟩ = some (.int .i64 v.a)) ∧ (∀ x : Grow W, x.w.cell? ⟨w1.heap.size, 5, none⟩ = some (.int .i64 v.b)) ∧ (∀ x : Grow W, x.w.cell? ⟨w1.heap.size, 6, none⟩ = some (.int .i64 v.c)) ∧ (∀ x : Grow W, x.w.cell? ⟨w1.heap.size, 7, none⟩ = some (.int .i64 v.d)) :=
    ⟨fun x => (G x).1, fun x => (G x).2.1, fun x => (G x).2.2.1, fun x => (G x).2.2.2.1, fun x => (G x).2.2.2.2.1, fun x => (G x).2.2.2.2.2.1, fun x => (G x).2.2.2.2.2.2.1, fun x => (G x).2.2.2.2.2.2.2⟩
  have HW := Lib.hid hW
  clear hW G
  have ne := Grow.ne W
  refine wp_region_grow (by kernel_rfl) (by kernel_rfl) ?_
  repeat (go_big_quiet_step ((go_at_call 69; with_reducible exact Grow.calls (HH.out _))))
  refine wpQuiet_nil ?_
  rintro _ ⟨x, rfl⟩
  go_wp2
  go_ret
  refine ⟨rfl, ?_⟩
  have h1 := bstep ((Below.refl w.heap.size w).alloc (Nat.le_refl _) (Obj.cells #[.int .i64 v.x, .int .i64 v.y, .int .i64 v.z, .int .i64 v.w, .int .i64 v.a, .int .i64 v.b, .int .i64 v.c, .int .i64 v.d] 43)) (by simp) HB1.out
  have h2 := h1.alloc h1.size (Obj.cells #[.int .i64 v.x, .int .i64 v.y, .int .i64 v.z, .int .i64 v.w, .int .i64 v.a, .int .i64 v.b, .int .i64 v.c, .int .i64 v.d] 126)
  rw [HW.out] at h2
  exact bstep h2 h2.size x.below

structure V.ok (v : V) : Prop where
  x : -32768 ≤ v.x ∧ v.x ≤ 32768
  y : -32768 ≤ v.y ∧ v.y ≤ 32768
  z : -32768 ≤ v.z ∧ v.z ≤ 32768
  w : 1 ≤ v.w ∧ v.w ≤ 32768
  a : -4096 ≤ v.a ∧ v.a ≤ 4096
  b : -4096 ≤ v.b ∧ v.b ≤ 4096
  c : -4096 ≤ v.c ∧ v.c ≤ 4096
  d : -4096 ≤ v.d ∧ v.d ≤ 4096

set_option maxRecDepth 100000 in
theorem rightB_iff (v : V) : rightB v = true ↔ v.ok := by
  constructor
  · intro h
    simp only [rightB, sameV, decide_eq_true_eq] at h
    have hx := congrArg V.x h
    have hy := congrArg V.y h
    have hz := congrArg V.z h
    have hw := congrArg V.w h
    have ha := congrArg V.a h
    have hb := congrArg V.b h
    have hc := congrArg V.c h
    have hd := congrArg V.d h
    simp only [heldV] at hx hy hz hw ha hb hc hd
    exact ⟨by omega, by omega, by omega, by omega, by omega, by omega, by omega, by omega⟩
  · rintro ⟨hx, hy, hz, hw, ha, hb, hc, hd⟩
    have h : v = heldV v := by
      obtain ⟨x, y, z, w, a, b, c, d⟩ := v
      simp only [heldV, V.mk.injEq]
      simp only at hx hy hz hw ha hb hc hd
      refine ⟨by omega, by omega, by omega, by omega, by omega, by omega, by omega, by omega⟩
    simp only [rightB, sameV, decide_eq_true_eq]
    exact h
set_option maxRecDepth 100000 in
theorem rightB_ok {v : V} (h : v.ok) : rightB v = true := (rightB_iff v).2 h
set_option maxRecDepth 100000 in
theorem rightB_no {v : V} (h : ¬ v.ok) : rightB v = false := by
  cases e : rightB v
  · rfl
  · exact absurd ((rightB_iff v).1 e) h
set_option maxRecDepth 100000 in
theorem V.ok.sm {v : V} (h : v.ok) : v.sm := by
  obtain ⟨hx, hy, hz, hw, ha, hb, hc, hd⟩ := h
  exact ⟨by omega, by omega, by omega, by omega, by omega, by omega, by omega, by omega⟩
end Go.Proofs.Ytfmmfaeognoleaa.U
