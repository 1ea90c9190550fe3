/-
  The contract of the reference's fit where it is told to leave pictures out.
-/
import Derived.Test.YtnpcmoeleigpoaaCFit
namespace Go.Proofs.Ytnpcmoeleigpoaa.C
open Go.RowKit
attribute [local go_sem ↓] Go.wp_at_zero Go.wp_at_succ

/-- An instruction that asks for a picture is told as one that adds. -/
def bareI (x : In) : In := if 13 ≤ x.o % 15 then ⟨2, x.d, x.a, x.b, x.n⟩ else x
theorem bareI_ok {x : In} (h : x.ok) : (bareI x).ok := by
  unfold bareI
  split
  · obtain ⟨_, b, c, d, e⟩ := h
    exact ⟨⟨show (0 : Int) ≤ 2 by decide, show (2 : Int) ≤ 255 by decide⟩, b, c, d, e⟩
  · exact h
set_option maxRecDepth 100000 in
set_option maxHeartbeats 4000000 in
theorem fitb_0 (x : In) (i n d m : Int) (q0 : x.o.tmod 15 = 0) (qd : x.d.tmod 8 = d) (gm : IntKind.i64.wrap (m - 2147483648) = m - 2147483648) (HM : Hid (∀ w, Calls Try.prog 59 #[.int .i64 x.n, .int .i64 4294967296] w fun e w' => e = .returned (.int .i64 m) ∧ w = w')) (w : World) :
    Calls Try.prog 42 #[.agg #[.int .u8 x.o, .int .u8 x.d, .int .u8 x.a, .int .u8 x.b, .int .i64 x.n], .int .i64 i, .int .i64 n, .bool true] w fun e w' => e = .returned (.agg #[.int .u8 0, .int .u8 d, .int .u8 0, .int .u8 0, .int .i64 (m - 2147483648)]) ∧ Below w.heap.size w w' := by
  have HB := Lib.hid (fun o o' o'' => ((new_below w o).alloc (by simp) o').alloc (by simp; omega) o'')
  go_enter Try.func42, Try.ntmps42
  go_wp2_with (go_at_call 59; (with_reducible refine (HM.out _).mono ?_); rintro e w' ⟨rfl, rfl⟩)
  refine bodyPost_ret (v := .agg #[.int .u8 0, .int .u8 d, .int .u8 0, .int .u8 0, .int .i64 (m - 2147483648)]) (by simp [results, Try.results42, go_sem, *]) rfl ⟨rfl, ?_⟩
  repeat (first | exact HB.out _ _ _ | refine Below.setCell ?_ (by simp <;> omega) _)

set_option maxRecDepth 100000 in
set_option maxHeartbeats 4000000 in
theorem fitb_1 (x : In) (i n d a : Int) (q0 : x.o.tmod 15 = 1) (qd : x.d.tmod 8 = d) (qa : x.a.tmod 8 = a) (w : World) :
    Calls Try.prog 42 #[.agg #[.int .u8 x.o, .int .u8 x.d, .int .u8 x.a, .int .u8 x.b, .int .i64 x.n], .int .i64 i, .int .i64 n, .bool true] w fun e w' => e = .returned (.agg #[.int .u8 1, .int .u8 d, .int .u8 a, .int .u8 0, .int .i64 (0)]) ∧ Below w.heap.size w w' := by
  have HB := Lib.hid (fun o o' o'' => ((new_below w o).alloc (by simp) o').alloc (by simp; omega) o'')
  go_enter Try.func42, Try.ntmps42
  go_wp2_with fail
  refine bodyPost_ret (v := .agg #[.int .u8 1, .int .u8 d, .int .u8 a, .int .u8 0, .int .i64 (0)]) (by simp [results, Try.results42, go_sem, *]) rfl ⟨rfl, ?_⟩
  repeat (first | exact HB.out _ _ _ | refine Below.setCell ?_ (by simp <;> omega) _)

set_option maxRecDepth 100000 in
set_option maxHeartbeats 4000000 in
theorem fitb_2 (x : In) (i n d a b : Int) (q0 : x.o.tmod 15 = 2) (qd : x.d.tmod 8 = d) (qa : x.a.tmod 8 = a) (qb : x.b.tmod 8 = b) (w : World) :
    Calls Try.prog 42 #[.agg #[.int .u8 x.o, .int .u8 x.d, .int .u8 x.a, .int .u8 x.b, .int .i64 x.n], .int .i64 i, .int .i64 n, .bool true] w fun e w' => e = .returned (.agg #[.int .u8 2, .int .u8 d, .int .u8 a, .int .u8 b, .int .i64 (0)]) ∧ Below w.heap.size w w' := by
  have HB := Lib.hid (fun o o' o'' => ((new_below w o).alloc (by simp) o').alloc (by simp; omega) o'')
  go_enter Try.func42, Try.ntmps42
  go_wp2_with fail
  refine bodyPost_ret (v := .agg #[.int .u8 2, .int .u8 d, .int .u8 a, .int .u8 b, .int .i64 (0)]) (by simp [results, Try.results42, go_sem, *]) rfl ⟨rfl, ?_⟩
  repeat (first | exact HB.out _ _ _ | refine Below.setCell ?_ (by simp <;> omega) _)

set_option maxRecDepth 100000 in
set_option maxHeartbeats 4000000 in
theorem fitb_3 (x : In) (i n d a b : Int) (q0 : x.o.tmod 15 = 3) (qd : x.d.tmod 8 = d) (qa : x.a.tmod 8 = a) (qb : x.b.tmod 8 = b) (w : World) :
    Calls Try.prog 42 #[.agg #[.int .u8 x.o, .int .u8 x.d, .int .u8 x.a, .int .u8 x.b, .int .i64 x.n], .int .i64 i, .int .i64 n, .bool true] w fun e w' => e = .returned (.agg #[.int .u8 3, .int .u8 d, .int .u8 a, .int .u8 b, .int .i64 (0)]) ∧ Below w.heap.size w w' := by
  have HB := Lib.hid (fun o o' o'' => ((new_below w o).alloc (by simp) o').alloc (by simp; omega) o'')
  go_enter Try.func42, Try.ntmps42
  go_wp2_with fail
  refine bodyPost_ret (v := .agg #[.int .u8 3, .int .u8 d, .int .u8 a, .int .u8 b, .int .i64 (0)]) (by simp [results, Try.results42, go_sem, *]) rfl ⟨rfl, ?_⟩
  repeat (first | exact HB.out _ _ _ | refine Below.setCell ?_ (by simp <;> omega) _)

set_option maxRecDepth 100000 in
set_option maxHeartbeats 4000000 in
theorem fitb_4 (x : In) (i n d a b : Int) (q0 : x.o.tmod 15 = 4) (qd : x.d.tmod 8 = d) (qa : x.a.tmod 8 = a) (qb : x.b.tmod 8 = b) (w : World) :
    Calls Try.prog 42 #[.agg #[.int .u8 x.o, .int .u8 x.d, .int .u8 x.a, .int .u8 x.b, .int .i64 x.n], .int .i64 i, .int .i64 n, .bool true] w fun e w' => e = .returned (.agg #[.int .u8 4, .int .u8 d, .int .u8 a, .int .u8 b, .int .i64 (0)]) ∧ Below w.heap.size w w' := by
  have HB := Lib.hid (fun o o' o'' => ((new_below w o).alloc (by simp) o').alloc (by simp; omega) o'')
  go_enter Try.func42, Try.ntmps42
  go_wp2_with fail
  refine bodyPost_ret (v := .agg #[.int .u8 4, .int .u8 d, .int .u8 a, .int .u8 b, .int .i64 (0)]) (by simp [results, Try.results42, go_sem, *]) rfl ⟨rfl, ?_⟩
  repeat (first | exact HB.out _ _ _ | refine Below.setCell ?_ (by simp <;> omega) _)

set_option maxRecDepth 100000 in
set_option maxHeartbeats 4000000 in
theorem fitb_5 (x : In) (i n d a b : Int) (q0 : x.o.tmod 15 = 5) (qd : x.d.tmod 8 = d) (qa : x.a.tmod 8 = a) (qb : x.b.tmod 8 = b) (w : World) :
    Calls Try.prog 42 #[.agg #[.int .u8 x.o, .int .u8 x.d, .int .u8 x.a, .int .u8 x.b, .int .i64 x.n], .int .i64 i, .int .i64 n, .bool true] w fun e w' => e = .returned (.agg #[.int .u8 5, .int .u8 d, .int .u8 a, .int .u8 b, .int .i64 (0)]) ∧ Below w.heap.size w w' := by
  have HB := Lib.hid (fun o o' o'' => ((new_below w o).alloc (by simp) o').alloc (by simp; omega) o'')
  go_enter Try.func42, Try.ntmps42
  go_wp2_with fail
  refine bodyPost_ret (v := .agg #[.int .u8 5, .int .u8 d, .int .u8 a, .int .u8 b, .int .i64 (0)]) (by simp [results, Try.results42, go_sem, *]) rfl ⟨rfl, ?_⟩
  repeat (first | exact HB.out _ _ _ | refine Below.setCell ?_ (by simp <;> omega) _)

set_option maxRecDepth 100000 in
set_option maxHeartbeats 4000000 in
theorem fitb_6 (x : In) (i n d a b : Int) (q0 : x.o.tmod 15 = 6) (qd : x.d.tmod 8 = d) (qa : x.a.tmod 8 = a) (qb : x.b.tmod 8 = b) (w : World) :
    Calls Try.prog 42 #[.agg #[.int .u8 x.o, .int .u8 x.d, .int .u8 x.a, .int .u8 x.b, .int .i64 x.n], .int .i64 i, .int .i64 n, .bool true] w fun e w' => e = .returned (.agg #[.int .u8 6, .int .u8 d, .int .u8 a, .int .u8 b, .int .i64 (0)]) ∧ Below w.heap.size w w' := by
  have HB := Lib.hid (fun o o' o'' => ((new_below w o).alloc (by simp) o').alloc (by simp; omega) o'')
  go_enter Try.func42, Try.ntmps42
  go_wp2_with fail
  refine bodyPost_ret (v := .agg #[.int .u8 6, .int .u8 d, .int .u8 a, .int .u8 b, .int .i64 (0)]) (by simp [results, Try.results42, go_sem, *]) rfl ⟨rfl, ?_⟩
  repeat (first | exact HB.out _ _ _ | refine Below.setCell ?_ (by simp <;> omega) _)

set_option maxRecDepth 100000 in
set_option maxHeartbeats 4000000 in
theorem fitb_7 (x : In) (i n d a b : Int) (q0 : x.o.tmod 15 = 7) (qd : x.d.tmod 8 = d) (qa : x.a.tmod 8 = a) (qb : x.b.tmod 8 = b) (w : World) :
    Calls Try.prog 42 #[.agg #[.int .u8 x.o, .int .u8 x.d, .int .u8 x.a, .int .u8 x.b, .int .i64 x.n], .int .i64 i, .int .i64 n, .bool true] w fun e w' => e = .returned (.agg #[.int .u8 7, .int .u8 d, .int .u8 a, .int .u8 b, .int .i64 (0)]) ∧ Below w.heap.size w w' := by
  have HB := Lib.hid (fun o o' o'' => ((new_below w o).alloc (by simp) o').alloc (by simp; omega) o'')
  go_enter Try.func42, Try.ntmps42
  go_wp2_with fail
  refine bodyPost_ret (v := .agg #[.int .u8 7, .int .u8 d, .int .u8 a, .int .u8 b, .int .i64 (0)]) (by simp [results, Try.results42, go_sem, *]) rfl ⟨rfl, ?_⟩
  repeat (first | exact HB.out _ _ _ | refine Below.setCell ?_ (by simp <;> omega) _)

set_option maxRecDepth 100000 in
set_option maxHeartbeats 4000000 in
theorem fitb_8 (x : In) (i n d a b : Int) (q0 : x.o.tmod 15 = 8) (qd : x.d.tmod 8 = d) (qa : x.a.tmod 8 = a) (qb : x.b.tmod 8 = b) (w : World) :
    Calls Try.prog 42 #[.agg #[.int .u8 x.o, .int .u8 x.d, .int .u8 x.a, .int .u8 x.b, .int .i64 x.n], .int .i64 i, .int .i64 n, .bool true] w fun e w' => e = .returned (.agg #[.int .u8 8, .int .u8 d, .int .u8 a, .int .u8 b, .int .i64 (0)]) ∧ Below w.heap.size w w' := by
  have HB := Lib.hid (fun o o' o'' => ((new_below w o).alloc (by simp) o').alloc (by simp; omega) o'')
  go_enter Try.func42, Try.ntmps42
  go_wp2_with fail
  refine bodyPost_ret (v := .agg #[.int .u8 8, .int .u8 d, .int .u8 a, .int .u8 b, .int .i64 (0)]) (by simp [results, Try.results42, go_sem, *]) rfl ⟨rfl, ?_⟩
  repeat (first | exact HB.out _ _ _ | refine Below.setCell ?_ (by simp <;> omega) _)

set_option maxRecDepth 100000 in
set_option maxHeartbeats 4000000 in
theorem fitb_9 (x : In) (i n d a m : Int) (q0 : x.o.tmod 15 = 9) (qd : x.d.tmod 8 = d) (qa : x.a.tmod 8 = a) (HM : Hid (∀ w, Calls Try.prog 59 #[.int .i64 x.n, .int .i64 32] w fun e w' => e = .returned (.int .i64 m) ∧ w = w')) (w : World) :
    Calls Try.prog 42 #[.agg #[.int .u8 x.o, .int .u8 x.d, .int .u8 x.a, .int .u8 x.b, .int .i64 x.n], .int .i64 i, .int .i64 n, .bool true] w fun e w' => e = .returned (.agg #[.int .u8 9, .int .u8 d, .int .u8 a, .int .u8 0, .int .i64 (m)]) ∧ Below w.heap.size w w' := by
  have HB := Lib.hid (fun o o' o'' => ((new_below w o).alloc (by simp) o').alloc (by simp; omega) o'')
  go_enter Try.func42, Try.ntmps42
  go_wp2_with (go_at_call 59; (with_reducible refine (HM.out _).mono ?_); rintro e w' ⟨rfl, rfl⟩)
  refine bodyPost_ret (v := .agg #[.int .u8 9, .int .u8 d, .int .u8 a, .int .u8 0, .int .i64 (m)]) (by simp [results, Try.results42, go_sem, *]) rfl ⟨rfl, ?_⟩
  repeat (first | exact HB.out _ _ _ | refine Below.setCell ?_ (by simp <;> omega) _)

set_option maxRecDepth 100000 in
set_option maxHeartbeats 4000000 in
theorem fitb_10 (x : In) (i n d a m : Int) (q0 : x.o.tmod 15 = 10) (qd : x.d.tmod 8 = d) (qa : x.a.tmod 8 = a) (HM : Hid (∀ w, Calls Try.prog 59 #[.int .i64 x.n, .int .i64 32] w fun e w' => e = .returned (.int .i64 m) ∧ w = w')) (w : World) :
    Calls Try.prog 42 #[.agg #[.int .u8 x.o, .int .u8 x.d, .int .u8 x.a, .int .u8 x.b, .int .i64 x.n], .int .i64 i, .int .i64 n, .bool true] w fun e w' => e = .returned (.agg #[.int .u8 10, .int .u8 d, .int .u8 a, .int .u8 0, .int .i64 (m)]) ∧ Below w.heap.size w w' := by
  have HB := Lib.hid (fun o o' o'' => ((new_below w o).alloc (by simp) o').alloc (by simp; omega) o'')
  go_enter Try.func42, Try.ntmps42
  go_wp2_with (go_at_call 59; (with_reducible refine (HM.out _).mono ?_); rintro e w' ⟨rfl, rfl⟩)
  refine bodyPost_ret (v := .agg #[.int .u8 10, .int .u8 d, .int .u8 a, .int .u8 0, .int .i64 (m)]) (by simp [results, Try.results42, go_sem, *]) rfl ⟨rfl, ?_⟩
  repeat (first | exact HB.out _ _ _ | refine Below.setCell ?_ (by simp <;> omega) _)

set_option maxRecDepth 100000 in
set_option maxHeartbeats 4000000 in
theorem fitb_11 (x : In) (i n d a b : Int) (q0 : x.o.tmod 15 = 11) (qd : x.d.tmod 8 = d) (qa : x.a.tmod 8 = a) (qb : x.b.tmod 8 = b) (w : World) :
    Calls Try.prog 42 #[.agg #[.int .u8 x.o, .int .u8 x.d, .int .u8 x.a, .int .u8 x.b, .int .i64 x.n], .int .i64 i, .int .i64 n, .bool true] w fun e w' => e = .returned (.agg #[.int .u8 11, .int .u8 d, .int .u8 a, .int .u8 b, .int .i64 (0)]) ∧ Below w.heap.size w w' := by
  have HB := Lib.hid (fun o o' o'' => ((new_below w o).alloc (by simp) o').alloc (by simp; omega) o'')
  go_enter Try.func42, Try.ntmps42
  go_wp2_with fail
  refine bodyPost_ret (v := .agg #[.int .u8 11, .int .u8 d, .int .u8 a, .int .u8 b, .int .i64 (0)]) (by simp [results, Try.results42, go_sem, *]) rfl ⟨rfl, ?_⟩
  repeat (first | exact HB.out _ _ _ | refine Below.setCell ?_ (by simp <;> omega) _)

set_option maxRecDepth 100000 in
set_option maxHeartbeats 4000000 in
theorem fitb_12 (x : In) (i n a m k : Int) (q0 : x.o.tmod 15 = 12) (qa : x.a.tmod 8 = a) (gk : IntKind.i64.wrap (n - i) = k) (HM : Hid (∀ w, Calls Try.prog 59 #[.int .i64 x.n, .int .i64 k] w fun e w' => e = .returned (.int .i64 m) ∧ w = w')) (w : World) :
    Calls Try.prog 42 #[.agg #[.int .u8 x.o, .int .u8 x.d, .int .u8 x.a, .int .u8 x.b, .int .i64 x.n], .int .i64 i, .int .i64 n, .bool true] w fun e w' => e = .returned (.agg #[.int .u8 12, .int .u8 0, .int .u8 a, .int .u8 0, .int .i64 (m)]) ∧ Below w.heap.size w w' := by
  have HB := Lib.hid (fun o o' o'' => ((new_below w o).alloc (by simp) o').alloc (by simp; omega) o'')
  go_enter Try.func42, Try.ntmps42
  go_wp2_with (go_at_call 59; (with_reducible refine (HM.out _).mono ?_); rintro e w' ⟨rfl, rfl⟩)
  refine bodyPost_ret (v := .agg #[.int .u8 12, .int .u8 0, .int .u8 a, .int .u8 0, .int .i64 (m)]) (by simp [results, Try.results42, go_sem, *]) rfl ⟨rfl, ?_⟩
  repeat (first | exact HB.out _ _ _ | refine Below.setCell ?_ (by simp <;> omega) _)

set_option maxRecDepth 100000 in
set_option maxHeartbeats 4000000 in
theorem fitb_13 (x : In) (i n d a b : Int) (q0 : x.o.tmod 15 = 13) (qd : x.d.tmod 8 = d) (qa : x.a.tmod 8 = a) (qb : x.b.tmod 8 = b) (w : World) :
    Calls Try.prog 42 #[.agg #[.int .u8 x.o, .int .u8 x.d, .int .u8 x.a, .int .u8 x.b, .int .i64 x.n], .int .i64 i, .int .i64 n, .bool true] w fun e w' => e = .returned (.agg #[.int .u8 2, .int .u8 d, .int .u8 a, .int .u8 b, .int .i64 (0)]) ∧ Below w.heap.size w w' := by
  have HB := Lib.hid (fun o o' o'' => ((new_below w o).alloc (by simp) o').alloc (by simp; omega) o'')
  go_enter Try.func42, Try.ntmps42
  go_wp2_with fail
  refine bodyPost_ret (v := .agg #[.int .u8 2, .int .u8 d, .int .u8 a, .int .u8 b, .int .i64 (0)]) (by simp [results, Try.results42, go_sem, *]) rfl ⟨rfl, ?_⟩
  repeat (first | exact HB.out _ _ _ | refine Below.setCell ?_ (by simp <;> omega) _)

set_option maxRecDepth 100000 in
set_option maxHeartbeats 4000000 in
theorem fitb_14 (x : In) (i n d a b : Int) (q0 : x.o.tmod 15 = 14) (qd : x.d.tmod 8 = d) (qa : x.a.tmod 8 = a) (qb : x.b.tmod 8 = b) (w : World) :
    Calls Try.prog 42 #[.agg #[.int .u8 x.o, .int .u8 x.d, .int .u8 x.a, .int .u8 x.b, .int .i64 x.n], .int .i64 i, .int .i64 n, .bool true] w fun e w' => e = .returned (.agg #[.int .u8 2, .int .u8 d, .int .u8 a, .int .u8 b, .int .i64 (0)]) ∧ Below w.heap.size w w' := by
  have HB := Lib.hid (fun o o' o'' => ((new_below w o).alloc (by simp) o').alloc (by simp; omega) o'')
  go_enter Try.func42, Try.ntmps42
  go_wp2_with fail
  refine bodyPost_ret (v := .agg #[.int .u8 2, .int .u8 d, .int .u8 a, .int .u8 b, .int .i64 (0)]) (by simp [results, Try.results42, go_sem, *]) rfl ⟨rfl, ?_⟩
  repeat (first | exact HB.out _ _ _ | refine Below.setCell ?_ (by simp <;> omega) _)

set_option maxHeartbeats 1000000 in
theorem fitb_any (x : In) (i n : Int) (hx : x.ok) (h0 : 0 ≤ i) (h1 : i < n) (h2 : n ≤ 1000) (w : World) :
    Calls Try.prog 42 #[.agg #[.int .u8 x.o, .int .u8 x.d, .int .u8 x.a, .int .u8 x.b, .int .i64 x.n], .int .i64 i, .int .i64 n, .bool true] w fun e w' => e = .returned (.agg #[.int .u8 (fitI (bareI x) i n).o, .int .u8 (fitI (bareI x) i n).d, .int .u8 (fitI (bareI x) i n).a, .int .u8 (fitI (bareI x) i n).b, .int .i64 (fitI (bareI x) i n).n]) ∧ Below w.heap.size w w' := by
  obtain ⟨⟨o0, o1⟩, ⟨d0, d1⟩, ⟨a0, a1⟩, ⟨b0, b1⟩, hn⟩ := hx
  have qo := Int.tmod_eq_emod_of_nonneg (b := 15) o0
  have qd := Int.tmod_eq_emod_of_nonneg (b := 8) d0
  have qy := Int.tmod_eq_emod_of_nonneg (b := 5) d0
  have qa := Int.tmod_eq_emod_of_nonneg (b := 8) a0
  have qb := Int.tmod_eq_emod_of_nonneg (b := 8) b0
  have ms : ∀ b : Int, 0 < b → b ≤ 4611686018427387904 → ∀ w, Calls Try.prog 59 #[.int .i64 x.n, .int .i64 b] w fun e w' => e = .returned (.int .i64 (x.n % b)) ∧ w = w' := fun b h h' w => mod_any x.n b hn h h' w
  have gm : IntKind.i64.wrap (x.n % 4294967296 - 2147483648) = x.n % 4294967296 - 2147483648 := by rw [IntKind.wrap_i64]; omega
  have gk : IntKind.i64.wrap (n - i) = n - i := by rw [IntKind.wrap_i64]; omega
  have hop : x.o % 15 = 0 ∨ x.o % 15 = 1 ∨ x.o % 15 = 2 ∨ x.o % 15 = 3 ∨ x.o % 15 = 4 ∨ x.o % 15 = 5 ∨ x.o % 15 = 6 ∨ x.o % 15 = 7 ∨ x.o % 15 = 8 ∨ x.o % 15 = 9 ∨ x.o % 15 = 10 ∨ x.o % 15 = 11 ∨ x.o % 15 = 12 ∨ x.o % 15 = 13 ∨ x.o % 15 = 14 := by omega
  have hb0 : x.o % 15 < 13 → bareI x = x := fun h => by unfold bareI; rw [if_neg (by omega)]
  have hb1 : ¬ x.o % 15 < 13 → bareI x = ⟨2, x.d, x.a, x.b, x.n⟩ := fun h => by unfold bareI; rw [if_pos (by omega)]
  unfold fitI
  rcases hop with h | h | h | h | h | h | h | h | h | h | h | h | h | h | h
  · rw [hb0 (by omega), h]
    exact fitb_0 x i n _ _ (qo.trans h) qd gm (Lib.hid (ms 4294967296 (by omega) (by omega))) w
  · rw [hb0 (by omega), h]
    exact fitb_1 x i n _ _ (qo.trans h) qd qa w
  · rw [hb0 (by omega), h]
    exact fitb_2 x i n _ _ _ (qo.trans h) qd qa qb w
  · rw [hb0 (by omega), h]
    exact fitb_3 x i n _ _ _ (qo.trans h) qd qa qb w
  · rw [hb0 (by omega), h]
    exact fitb_4 x i n _ _ _ (qo.trans h) qd qa qb w
  · rw [hb0 (by omega), h]
    exact fitb_5 x i n _ _ _ (qo.trans h) qd qa qb w
  · rw [hb0 (by omega), h]
    exact fitb_6 x i n _ _ _ (qo.trans h) qd qa qb w
  · rw [hb0 (by omega), h]
    exact fitb_7 x i n _ _ _ (qo.trans h) qd qa qb w
  · rw [hb0 (by omega), h]
    exact fitb_8 x i n _ _ _ (qo.trans h) qd qa qb w
  · rw [hb0 (by omega), h]
    exact fitb_9 x i n _ _ _ (qo.trans h) qd qa (Lib.hid (ms 32 (by omega) (by omega))) w
  · rw [hb0 (by omega), h]
    exact fitb_10 x i n _ _ _ (qo.trans h) qd qa (Lib.hid (ms 32 (by omega) (by omega))) w
  · rw [hb0 (by omega), h]
    exact fitb_11 x i n _ _ _ (qo.trans h) qd qa qb w
  · rw [hb0 (by omega), h]
    exact fitb_12 x i n _ _ _ (qo.trans h) qa gk (Lib.hid (ms (n - i) (by omega) (by omega))) w
  · rw [hb1 (by omega)]
    exact fitb_13 x i n _ _ _ (qo.trans h) qd qa qb w
  · rw [hb1 (by omega)]
    exact fitb_14 x i n _ _ _ (qo.trans h) qd qa qb w
set_option maxRecDepth 100000 in
set_option maxHeartbeats 4000000 in
theorem Fitb_any (l : List In) (A : Option Addr) (c : Nat) (hok : ∀ x ∈ l, x.ok) (w : World) (he : Es EI w w.heap.size A l) :
    Calls Try.prog 22 #[.slice A l.length c, .bool true] w (MadeE EI w.heap.size w (fitP (l.map bareI))) := by
  by_cases h0 : l.length = 0
  · have e : fitP (l.map bareI) = [mov] := if_pos (by simpa using h0)
    rw [e, h0]
    have HO := Lib.hid (ownI_new w [mov] #[.int .u8 1, .int .u8 0, .int .u8 0, .int .u8 0, .int .i64 0] rfl (by decide))
    have HB := Lib.hid (new_below w (.cells #[.int .u8 1, .int .u8 0, .int .u8 0, .int .u8 0, .int .i64 0] 57))
    go_enter Try.func22, Try.ntmps22
    go_wp2_with fail
    go_ret
    exact ⟨_, rfl, HO.out, HB.out⟩
  obtain ⟨i0, hi, hz0, hz1, hz2⟩ := info_parts Try.info57
  have HI := Lib.hid hi
  have HZ := Lib.hid (And.intro hz0 (And.intro hz1 hz2))
  clear hi hz0 hz1 hz2
  have e : fitP (l.map bareI) = (List.range (fitN l.length)).map (fitAt (l.map bareI)) := by rw [fitP, if_neg (by simpa using h0), List.length_map]
  rw [e]
  have hmin : min (l.length : Int) 32 = (fitN l.length : Int) := by unfold fitN; omega
  have hml : fitN l.length ≤ l.length := by unfold fitN; omega
  have hm32 : fitN l.length ≤ 32 := by unfold fitN; omega
  have HFA := Lib.hid (fun (k : Nat) (u : In) (h : l[k]? = some u) => show fitAt (l.map bareI) k = fitI (bareI u) k (fitN l.length) by unfold fitAt; rw [List.getD_eq_getElem?_getD, List.getElem?_map, h, List.length_map]; rfl)
  have HL := Lib.hid (fun (k : Nat) (h : k < l.length) => get_lt h)
  have HE := Lib.hid he
  have HK := Lib.hid (fun x (h : x ∈ l) => hok x h)
  generalize fitN l.length = m at *
  generalize l.length = n at *
  have hn0 : ((n : Int) == 0) = false := by simpa using (show ¬ (n : Int) = 0 by omega)
  have HB0 := Lib.hid (new_below w (.cells #[] 57))
  have HO0 := Lib.hid (ownE_empty (E := EI) w (Nat.le_refl w.heap.size))
  clear he hok e h0
  go_enter Try.func22, Try.ntmps22
  go_wp2_with fail
  go_loopw [6, 7] (fun b i wr => ∃ k : Nat, k ≤ m ∧ i = .int .i64 k ∧ Below w.heap.size w wr ∧ OwnE EI wr w.heap.size b ((List.range k).map (fitAt (l.map bareI)))) (fun _ i _ => m - (intOf i).toNat)
  case atStart => exact ⟨0, Nat.zero_le _, rfl, HB0.out, HO0.out⟩
  case round =>
    obtain ⟨k, hk, rfl, hb, ho⟩ := hrel
    obtain ⟨A1, c1, rfl⟩ := ho.form
    have HB := Lib.hid hb
    have HO := Lib.hid ho
    clear hb ho
    by_cases hlt : k < m
    · obtain ⟨x, hx⟩ := HL.out k (by omega)
      obtain ⟨b, off, rfl, hbB, hat⟩ := HE.out.at hx
      obtain ⟨c0, c1', c2, c3, c4⟩ := atI (show AtE EI wr b (off + k * 5) x from hat.below HB.out hbB)
      have hbw := Nat.lt_of_lt_of_le hbB HB.out.size
      have HU := Lib.hid (fun w' => fitb_any x k m (HK.out x (List.mem_of_getElem? hx)) (by omega) (by omega) (by omega) w')
      have hu := HFA.out k x hx
      obtain ⟨u, hfu⟩ : ∃ u, fitI (bareI x) k m = u := ⟨_, rfl⟩
      rw [hfu] at HU hu
      have HS := Lib.hid (show (List.range (k + 1)).map (fitAt (l.map bareI)) = (List.range k).map (fitAt (l.map bareI)) ++ [u] by rw [range_snoc, hu])
      have hcl : ((List.range k).map (fitAt (l.map bareI))).length = k := by simp
      generalize (List.range k).map (fitAt (l.map bareI)) = cs at *
      have HC := Lib.hid hcl
      have hc256 : cs.length ≤ 256 := by omega
      clear hcl hat hx hu hfu
      go_wp2_with fail
      with_reducible refine (HU.out _).mono ?_
      rintro e w2 ⟨rfl, hb2⟩
      have B2 := Lib.hid (bstep HB.out HB.out.size hb2)
      have O1 := Lib.hid (HO.out.keep hb2)
      have O2 := Lib.hid (O1.out.alloc (.cells #[.int .u8 u.o, .int .u8 u.d, .int .u8 u.a, .int .u8 u.b, .int .i64 u.n] 57))
      have hz2 : w.heap.size ≤ w2.heap.size := B2.out.size
      clear hb2 HU c0 c1' c2 c3 c4
      go_wp2_with (at_builtin; refine wpList_append_own _ rfl _ _ 54 rfl w.heap.size 57 i0 _ 5 16 Try.underlying54 HI.out HZ.out.1 HZ.out.2.1 HZ.out.2.2 (by kernel_rfl) (by decide) _ _ (EI.flat cs) rfl O2.out.row _ 1 1 (EI.cells u) rfl rfl (newI_at rfl) (EI.one _) (by unfold maxLen; omega) (by omega) (by simp; omega) ?_; intro v' w6 hown' hgrow _; obtain ⟨ho6, hb6⟩ := append_ofE (E := EI) (x := u) O1.out (by omega) hown' hgrow; obtain ⟨A2, c2', rfl⟩ := ho6.form; have O6 := Lib.hid ho6; have B6 := Lib.hid hb6; clear hown' hgrow ho6 hb6)
      go_roundw
      case rel =>
        exact ⟨k + 1, by omega, by go_num, B2.out.trans B6.out, by rw [HS.out]; have h := O6.out; rw [List.length_append] at h; exact h⟩
      case measure => simp [intOf]; omega
    · obtain rfl : k = m := by omega
      go_wp2_with fail
      go_ret
      exact ⟨_, rfl, HO.out, HB.out⟩
end Go.Proofs.Ytnpcmoeleigpoaa.C
