/-
  The contract of the reference's fit where it is told to leave pictures out.
-/
import Derived.Test.YtfmmfaeognoleaaGreatM2
import Derived.Test.YtfmmfaeognoleaaGreatRows
import Derived.WalkKit
import Derived.WalkSpells
import Derived.Below
import Derived.Deep.RegionHeld3
import Derived.Deep.DrawnRows
import Derived.Deep.QuietTactic
import Derived.BigQuiet
import Derived.Lib.Hide
import Derived.Lib.MinMax
import Derived.StillTailTactics
import Derived.Laws.StructEq
import Derived.Test.YtfmmfaeognoleaaGreatM1
namespace Go.Proofs.YtfmmfaeognoleaaGreat.C
open Go.RowKit
attribute [local go_sem ↓] Go.wp_at_zero Go.wp_at_succ

/-- An instruction that asks for a picture is told as one that adds. -/
def bareI (x : In) : In := if 13 ≤ x.o % 15 then ⟨2, x.d, x.a, x.b, x.n⟩ else x
theorem bareI_ok {x : In} (h : x.ok) : (bareI x).ok := by
  unfold bareI
  split
  · obtain ⟨_, b, c, d, e⟩ := h
    exact ⟨⟨show (0 : Int) ≤ 2 by decide, show (2 : Int) ≤ 255 by decide⟩, b, c, d, e⟩
  · exact h
set_option maxRecDepth 100000 in
set_option maxHeartbeats 4000000 in
theorem fitb_0 (x : In) (i n d m : Int) (q0 : x.o.tmod 15 = 0) (qd : x.d.tmod 8 = d) (gm : IntKind.i64.wrap (m - 2147483648) = m - 2147483648) (HM : Hid (∀ w, Calls Tryz.prog 110 #[.int .i64 x.n, .int .i64 4294967296] w fun e w' => e = .returned (.int .i64 m) ∧ w = w')) (w : World) :
    Calls Tryz.prog 75 #[.agg #[.int .u8 x.o, .int .u8 x.d, .int .u8 x.a, .int .u8 x.b, .int .i64 x.n], .int .i64 i, .int .i64 n, .bool true] w fun e w' => e = .returned (.agg #[.int .u8 0, .int .u8 d, .int .u8 0, .int .u8 0, .int .i64 (m - 2147483648)]) ∧ Below w.heap.size w w' := by
  have HB := Lib.hid (fun o o' o'' => ((new_below w o).alloc (by simp) o').alloc (by simp; omega) o'')
  go_enter Tryz.func75, Tryz.ntmps75
  go_wp2_with (go_at_call 110; (with_reducible refine (HM.out _).mono ?_); rintro e w' ⟨rfl, rfl⟩)
  refine bodyPost_ret (v := .agg #[.int .u8 0, .int .u8 d, .int .u8 0, .int .u8 0, .int .i64 (m - 2147483648)]) (by simp [results, Tryz.results75, go_sem, *]) rfl ⟨rfl, ?_⟩
  repeat (first | exact HB.out _ _ _ | refine Below.setCell ?_ (by simp <;> omega) _)

set_option maxRecDepth 100000 in
set_option maxHeartbeats 4000000 in
theorem fitb_1 (x : In) (i n d a : Int) (q0 : x.o.tmod 15 = 1) (qd : x.d.tmod 8 = d) (qa : x.a.tmod 8 = a) (w : World) :
    Calls Tryz.prog 75 #[.agg #[.int .u8 x.o, .int .u8 x.d, .int .u8 x.a, .int .u8 x.b, .int .i64 x.n], .int .i64 i, .int .i64 n, .bool true] w fun e w' => e = .returned (.agg #[.int .u8 1, .int .u8 d, .int .u8 a, .int .u8 0, .int .i64 (0)]) ∧ Below w.heap.size w w' := by
  have HB := Lib.hid (fun o o' o'' => ((new_below w o).alloc (by simp) o').alloc (by simp; omega) o'')
  go_enter Tryz.func75, Tryz.ntmps75
  go_wp2_with fail
  refine bodyPost_ret (v := .agg #[.int .u8 1, .int .u8 d, .int .u8 a, .int .u8 0, .int .i64 (0)]) (by simp [results, Tryz.results75, go_sem, *]) rfl ⟨rfl, ?_⟩
  repeat (first | exact HB.out _ _ _ | refine Below.setCell ?_ (by simp <;> omega) _)

set_option maxRecDepth 100000 in
set_option maxHeartbeats 4000000 in
theorem fitb_2 (x : In) (i n d a b : Int) (q0 : x.o.tmod 15 = 2) (qd : x.d.tmod 8 = d) (qa : x.a.tmod 8 = a) (qb : x.b.tmod 8 = b) (w : World) :
    Calls Tryz.prog 75 #[.agg #[.int .u8 x.o, .int .u8 x.d, .int .u8 x.a, .int .u8 x.b, .int .i64 x.n], .int .i64 i, .int .i64 n, .bool true] w fun e w' => e = .returned (.agg #[.int .u8 2, .int .u8 d, .int .u8 a, .int .u8 b, .int .i64 (0)]) ∧ Below w.heap.size w w' := by
  have HB := Lib.hid (fun o o' o'' => ((new_below w o).alloc (by simp) o').alloc (by simp; omega) o'')
  go_enter Tryz.func75, Tryz.ntmps75
  go_wp2_with fail
  refine bodyPost_ret (v := .agg #[.int .u8 2, .int .u8 d, .int .u8 a, .int .u8 b, .int .i64 (0)]) (by simp [results, Tryz.results75, go_sem, *]) rfl ⟨rfl, ?_⟩
  repeat (first | exact HB.out _ _ _ | refine Below.setCell ?_ (by simp <;> omega) _)

set_option maxRecDepth 100000 in
set_option maxHeartbeats 4000000 in
theorem fitb_3 (x : In) (i n d a b : Int) (q0 : x.o.tmod 15 = 3) (qd : x.d.tmod 8 = d) (qa : x.a.tmod 8 = a) (qb : x.b.tmod 8 = b) (w : World) :
    Calls Tryz.prog 75 #[.agg #[.int .u8 x.o, .int .u8 x.d, .int .u8 x.a, .int .u8 x.b, .int .i64 x.n], .int .i64 i, .int .i64 n, .bool true] w fun e w' => e = .returned (.agg #[.int .u8 3, .int .u8 d, .int .u8 a, .int .u8 b, .int .i64 (0)]) ∧ Below w.heap.size w w' := by
  have HB := Lib.hid (fun o o' o'' => ((new_below w o).alloc (by simp) o').alloc (by simp; omega) o'')
  go_enter Tryz.func75, Tryz.ntmps75
  go_wp2_with fail
  refine bodyPost_ret (v := .agg #[.int .u8 3, .int .u8 d, .int .u8 a, .int .u8 b, .int .i64 (0)]) (by simp [results, Tryz.results75, go_sem, *]) rfl ⟨rfl, ?_⟩
  repeat (first | exact HB.out _ _ _ | refine Below.setCell ?_ (by simp <;> omega) _)

set_option maxRecDepth 100000 in
set_option maxHeartbeats 4000000 in
theorem fitb_4 (x : In) (i n d a b : Int) (q0 : x.o.tmod 15 = 4) (qd : x.d.tmod 8 = d) (qa : x.a.tmod 8 = a) (qb : x.b.tmod 8 = b) (w : World) :
    Calls Tryz.prog 75 #[.agg #[.int .u8 x.o, .int .u8 x.d, .int .u8 x.a, .int .u8 x.b, .int .i64 x.n], .int .i64 i, .int .i64 n, .bool true] w fun e w' => e = .returned (.agg #[.int .u8 4, .int .u8 d, .int .u8 a, .int .u8 b, .int .i64 (0)]) ∧ Below w.heap.size w w' := by
  have HB := Lib.hid (fun o o' o'' => ((new_below w o).alloc (by simp) o').alloc (by simp; omega) o'')
  go_enter Tryz.func75, Tryz.ntmps75
  go_wp2_with fail
  refine bodyPost_ret (v := .agg #[.int .u8 4, .int .u8 d, .int .u8 a, .int .u8 b, .int .i64 (0)]) (by simp [results, Tryz.results75, go_sem, *]) rfl ⟨rfl, ?_⟩
  repeat (first | exact HB.out _ _ _ | refine Below.setCell ?_ (by simp <;> omega) _)

set_option maxRecDepth 100000 in
set_option maxHeartbeats 4000000 in
theorem fitb_5 (x : In) (i n d a b : Int) (q0 : x.o.tmod 15 = 5) (qd : x.d.tmod 8 = d) (qa : x.a.tmod 8 = a) (qb : x.b.tmod 8 = b) (w : World) :
    Calls Tryz.prog 75 #[.agg #[.int .u8 x.o, .int .u8 x.d, .int .u8 x.a, .int .u8 x.b, .int .i64 x.n], .int .i64 i, .int .i64 n, .bool true] w fun e w' => e = .returned (.agg #[.int .u8 5, .int .u8 d, .int .u8 a, .int .u8 b, .int .i64 (0)]) ∧ Below w.heap.size w w' := by
  have HB := Lib.hid (fun o o' o'' => ((new_below w o).alloc (by simp) o').alloc (by simp; omega) o'')
  go_enter Tryz.func75, Tryz.ntmps75
  go_wp2_with fail
  refine bodyPost_ret (v := .agg #[.int .u8 5, .int .u8 d, .int .u8 a, .int .u8 b, .int .i64 (0)]) (by simp [results, Tryz.results75, go_sem, *]) rfl ⟨rfl, ?_⟩
  repeat (first | exact HB.out _ _ _ | refine Below.setCell ?_ (by simp <;> omega) _)

set_option maxRecDepth 100000 in
set_option maxHeartbeats 4000000 in
theorem fitb_6 (x : In) (i n d a b : Int) (q0 : x.o.tmod 15 = 6) (qd : x.d.tmod 8 = d) (qa : x.a.tmod 8 = a) (qb : x.b.tmod 8 = b) (w : World) :
    Calls Tryz.prog 75 #[.agg #[.int .u8 x.o, .int .u8 x.d, .int .u8 x.a, .int .u8 x.b, .int .i64 x.n], .int .i64 i, .int .i64 n, .bool true] w fun e w' => e = .returned (.agg #[.int .u8 6, .int .u8 d, .int .u8 a, .int .u8 b, .int .i64 (0)]) ∧ Below w.heap.size w w' := by
  have HB := Lib.hid (fun o o' o'' => ((new_below w o).alloc (by simp) o').alloc (by simp; omega) o'')
  go_enter Tryz.func75, Tryz.ntmps75
  go_wp2_with fail
  refine bodyPost_ret (v := .agg #[.int .u8 6, .int .u8 d, .int .u8 a, .int .u8 b, .int .i64 (0)]) (by simp [results, Tryz.results75, go_sem, *]) rfl ⟨rfl, ?_⟩
  repeat (first | exact HB.out _ _ _ | refine Below.setCell ?_ (by simp <;> omega) _)

set_option maxRecDepth 100000 in
set_option maxHeartbeats 4000000 in
theorem fitb_7 (x : In) (i n d a b : Int) (q0 : x.o.tmod 15 = 7) (qd : x.d.tmod 8 = d) (qa : x.a.tmod 8 = a) (qb : x.b.tmod 8 = b) (w : World) :
    Calls Tryz.prog 75 #[.agg #[.int .u8 x.o, .int .u8 x.d, .int .u8 x.a, .int .u8 x.b, .int .i64 x.n], .int .i64 i, .int .i64 n, .bool true] w fun e w' => e = .returned (.agg #[.int .u8 7, .int .u8 d, .int .u8 a, .int .u8 b, .int .i64 (0)]) ∧ Below w.heap.size w w' := by
  have HB := Lib.hid (fun o o' o'' => ((new_below w o).alloc (by simp) o').alloc (by simp; omega) o'')
  go_enter Tryz.func75, Tryz.ntmps75
  go_wp2_with fail
  refine bodyPost_ret (v := .agg #[.int .u8 7, .int .u8 d, .int .u8 a, .int .u8 b, .int .i64 (0)]) (by simp [results, Tryz.results75, go_sem, *]) rfl ⟨rfl, ?_⟩
  repeat (first | exact HB.out _ _ _ | refine Below.setCell ?_ (by simp <;> omega) _)

set_option maxRecDepth 100000 in
set_option maxHeartbeats 4000000 in
theorem fitb_8 (x : In) (i n d a b : Int) (q0 : x.o.tmod 15 = 8) (qd : x.d.tmod 8 = d) (qa : x.a.tmod 8 = a) (qb : x.b.tmod 8 = b) (w : World) :
    Calls Tryz.prog 75 #[.agg #[.int .u8 x.o, .int .u8 x.d, .int .u8 x.a, .int .u8 x.b, .int .i64 x.n], .int .i64 i, .int .i64 n, .bool true] w fun e w' => e = .returned (.agg #[.int .u8 8, .int .u8 d, .int .u8 a, .int .u8 b, .int .i64 (0)]) ∧ Below w.heap.size w w' := by
  have HB := Lib.hid (fun o o' o'' => ((new_below w o).alloc (by simp) o').alloc (by simp; omega) o'')
  go_enter Tryz.func75, Tryz.ntmps75
  go_wp2_with fail
  refine bodyPost_ret (v := .agg #[.int .u8 8, .int .u8 d, .int .u8 a, .int .u8 b, .int .i64 (0)]) (by simp [results, Tryz.results75, go_sem, *]) rfl ⟨rfl, ?_⟩
  repeat (first | exact HB.out _ _ _ | refine Below.setCell ?_ (by simp <;> omega) _)

set_option maxRecDepth 100000 in
set_option maxHeartbeats 4000000 in
theorem fitb_9 (x : In) (i n d a m : Int) (q0 : x.o.tmod 15 = 9) (qd : x.d.tmod 8 = d) (qa : x.a.tmod 8 = a) (HM : Hid (∀ w, Calls Tryz.prog 110 #[.int .i64 x.n, .int .i64 32] w fun e w' => e = .returned (.int .i64 m) ∧ w = w')) (w : World) :
    Calls Tryz.prog 75 #[.agg #[.int .u8 x.o, .int .u8 x.d, .int .u8 x.a, .int .u8 x.b, .int .i64 x.n], .int .i64 i, .int .i64 n, .bool true] w fun e w' => e = .returned (.agg #[.int .u8 9, .int .u8 d, .int .u8 a, .int .u8 0, .int .i64 (m)]) ∧ Below w.heap.size w w' := by
  have HB := Lib.hid (fun o o' o'' => ((new_below w o).alloc (by simp) o').alloc (by simp; omega) o'')
  go_enter Tryz.func75, Tryz.ntmps75
  go_wp2_with (go_at_call 110; (with_reducible refine (HM.out _).mono ?_); rintro e w' ⟨rfl, rfl⟩)
  refine bodyPost_ret (v := .agg #[.int .u8 9, .int .u8 d, .int .u8 a, .int .u8 0, .int .i64 (m)]) (by simp [results, Tryz.results75, go_sem, *]) rfl ⟨rfl, ?_⟩
  repeat (first | exact HB.out _ _ _ | refine Below.setCell ?_ (by simp <;> omega) _)

set_option maxRecDepth 100000 in
set_option maxHeartbeats 4000000 in
theorem fitb_10 (x : In) (i n d a m : Int) (q0 : x.o.tmod 15 = 10) (qd : x.d.tmod 8 = d) (qa : x.a.tmod 8 = a) (HM : Hid (∀ w, Calls Tryz.prog 110 #[.int .i64 x.n, .int .i64 32] w fun e w' => e = .returned (.int .i64 m) ∧ w = w')) (w : World) :
    Calls Tryz.prog 75 #[.agg #[.int .u8 x.o, .int .u8 x.d, .int .u8 x.a, .int .u8 x.b, .int .i64 x.n], .int .i64 i, .int .i64 n, .bool true] w fun e w' => e = .returned (.agg #[.int .u8 10, .int .u8 d, .int .u8 a, .int .u8 0, .int .i64 (m)]) ∧ Below w.heap.size w w' := by
  have HB := Lib.hid (fun o o' o'' => ((new_below w o).alloc (by simp) o').alloc (by simp; omega) o'')
  go_enter Tryz.func75, Tryz.ntmps75
  go_wp2_with (go_at_call 110; (with_reducible refine (HM.out _).mono ?_); rintro e w' ⟨rfl, rfl⟩)
  refine bodyPost_ret (v := .agg #[.int .u8 10, .int .u8 d, .int .u8 a, .int .u8 0, .int .i64 (m)]) (by simp [results, Tryz.results75, go_sem, *]) rfl ⟨rfl, ?_⟩
  repeat (first | exact HB.out _ _ _ | refine Below.setCell ?_ (by simp <;> omega) _)

set_option maxRecDepth 100000 in
set_option maxHeartbeats 4000000 in
theorem fitb_11 (x : In) (i n d a b : Int) (q0 : x.o.tmod 15 = 11) (qd : x.d.tmod 8 = d) (qa : x.a.tmod 8 = a) (qb : x.b.tmod 8 = b) (w : World) :
    Calls Tryz.prog 75 #[.agg #[.int .u8 x.o, .int .u8 x.d, .int .u8 x.a, .int .u8 x.b, .int .i64 x.n], .int .i64 i, .int .i64 n, .bool true] w fun e w' => e = .returned (.agg #[.int .u8 11, .int .u8 d, .int .u8 a, .int .u8 b, .int .i64 (0)]) ∧ Below w.heap.size w w' := by
  have HB := Lib.hid (fun o o' o'' => ((new_below w o).alloc (by simp) o').alloc (by simp; omega) o'')
  go_enter Tryz.func75, Tryz.ntmps75
  go_wp2_with fail
  refine bodyPost_ret (v := .agg #[.int .u8 11, .int .u8 d, .int .u8 a, .int .u8 b, .int .i64 (0)]) (by simp [results, Tryz.results75, go_sem, *]) rfl ⟨rfl, ?_⟩
  repeat (first | exact HB.out _ _ _ | refine Below.setCell ?_ (by simp <;> omega) _)

set_option maxRecDepth 100000 in
set_option maxHeartbeats 4000000 in
theorem fitb_12 (x : In) (i n a m k : Int) (q0 : x.o.tmod 15 = 12) (qa : x.a.tmod 8 = a) (gk : IntKind.i64.wrap (n - i) = k) (HM : Hid (∀ w, Calls Tryz.prog 110 #[.int .i64 x.n, .int .i64 k] w fun e w' => e = .returned (.int .i64 m) ∧ w = w')) (w : World) :
    Calls Tryz.prog 75 #[.agg #[.int .u8 x.o, .int .u8 x.d, .int .u8 x.a, .int .u8 x.b, .int .i64 x.n], .int .i64 i, .int .i64 n, .bool true] w fun e w' => e = .returned (.agg #[.int .u8 12, .int .u8 0, .int .u8 a, .int .u8 0, .int .i64 (m)]) ∧ Below w.heap.size w w' := by
  have HB := Lib.hid (fun o o' o'' => ((new_below w o).alloc (by simp) o').alloc (by simp; omega) o'')
  go_enter Tryz.func75, Tryz.ntmps75
  go_wp2_with (go_at_call 110; (with_reducible refine (HM.out _).mono ?_); rintro e w' ⟨rfl, rfl⟩)
  refine bodyPost_ret (v := .agg #[.int .u8 12, .int .u8 0, .int .u8 a, .int .u8 0, .int .i64 (m)]) (by simp [results, Tryz.results75, go_sem, *]) rfl ⟨rfl, ?_⟩
  repeat (first | exact HB.out _ _ _ | refine Below.setCell ?_ (by simp <;> omega) _)

set_option maxRecDepth 100000 in
set_option maxHeartbeats 4000000 in
theorem fitb_13 (x : In) (i n d a b : Int) (q0 : x.o.tmod 15 = 13) (qd : x.d.tmod 8 = d) (qa : x.a.tmod 8 = a) (qb : x.b.tmod 8 = b) (w : World) :
    Calls Tryz.prog 75 #[.agg #[.int .u8 x.o, .int .u8 x.d, .int .u8 x.a, .int .u8 x.b, .int .i64 x.n], .int .i64 i, .int .i64 n, .bool true] w fun e w' => e = .returned (.agg #[.int .u8 2, .int .u8 d, .int .u8 a, .int .u8 b, .int .i64 (0)]) ∧ Below w.heap.size w w' := by
  have HB := Lib.hid (fun o o' o'' => ((new_below w o).alloc (by simp) o').alloc (by simp; omega) o'')
  go_enter Tryz.func75, Tryz.ntmps75
  go_wp2_with fail
  refine bodyPost_ret (v := .agg #[.int .u8 2, .int .u8 d, .int .u8 a, .int .u8 b, .int .i64 (0)]) (by simp [results, Tryz.results75, go_sem, *]) rfl ⟨rfl, ?_⟩
  repeat (first | exact HB.out _ _ _ | refine Below.setCell ?_ (by simp <;> omega) _)

set_option maxRecDepth 100000 in
set_option maxHeartbeats 4000000 in
theorem fitb_14 (x : In) (i n d a b : Int) (q0 : x.o.tmod 15 = 14) (qd : x.d.tmod 8 = d) (qa : x.a.tmod 8 = a) (qb : x.b.tmod 8 = b) (w : World) :
    Calls Tryz.prog 75 #[.agg #[.int .u8 x.o, .int .u8 x.d, .int .u8 x.a, .int .u8 x.b, .int .i64 x.n], .int .i64 i, .int .i64 n, .bool true] w fun e w' => e = .returned (.agg #[.int .u8 2, .int .u8 d, .int .u8 a, .int .u8 b, .int .i64 (0)]) ∧ Below w.heap.size w w' := by
  have HB := Lib.hid (fun o o' o'' => ((new_below w o).alloc (by simp) o').alloc (by simp; omega) o'')
  go_enter Tryz.func75, Tryz.ntmps75
  go_wp2_with fail
  refine bodyPost_ret (v := .agg #[.int .u8 2, .int .u8 d, .int .u8 a, .int .u8 b, .int .i64 (0)]) (by simp [results, Tryz.results75, go_sem, *]) rfl ⟨rfl, ?_⟩
  repeat (first | exact HB.out _ _ _ | refine Below.setCell ?_ (by simp <;> omega) _)

set_option maxHeartbeats 1000000 in
theorem fitb_any (x : In) (i n : Int) (hx : x.ok) (h0 : 0 ≤ i) (h1 : i < n) (h2 : n ≤ 100000) (w : World) :
    Calls Tryz.prog 75 #[.agg #[.int .u8 x.o, .int .u8 x.d, .int .u8 x.a, .int .u8 x.b, .int .i64 x.n], .int .i64 i, .int .i64 n, .bool true] w fun e w' => e = .returned (.agg #[.int .u8 (fitI (bareI x) i n).o, .int .u8 (fitI (bareI x) i n).d, .int .u8 (fitI (bareI x) i n).a, .int .u8 (fitI (bareI x) i n).b, .int .i64 (fitI (bareI x) i n).n]) ∧ Below w.heap.size w w' := by
  obtain ⟨⟨o0, o1⟩, ⟨d0, d1⟩, ⟨a0, a1⟩, ⟨b0, b1⟩, hn⟩ := hx
  have qo := Int.tmod_eq_emod_of_nonneg (b := 15) o0
  have qd := Int.tmod_eq_emod_of_nonneg (b := 8) d0
  have qy := Int.tmod_eq_emod_of_nonneg (b := 5) d0
  have qa := Int.tmod_eq_emod_of_nonneg (b := 8) a0
  have qb := Int.tmod_eq_emod_of_nonneg (b := 8) b0
  have ms : ∀ b : Int, 0 < b → b ≤ 4611686018427387904 → ∀ w, Calls Tryz.prog 110 #[.int .i64 x.n, .int .i64 b] w fun e w' => e = .returned (.int .i64 (x.n % b)) ∧ w = w' := fun b h h' w => mod_any x.n b hn h h' w
  have gm : IntKind.i64.wrap (x.n % 4294967296 - 2147483648) = x.n % 4294967296 - 2147483648 := by rw [IntKind.wrap_i64]; omega
  have gk : IntKind.i64.wrap (n - i) = n - i := by rw [IntKind.wrap_i64]; omega
  have hop : x.o % 15 = 0 ∨ x.o % 15 = 1 ∨ x.o % 15 = 2 ∨ x.o % 15 = 3 ∨ x.o % 15 = 4 ∨ x.o % 15 = 5 ∨ x.o % 15 = 6 ∨ x.o % 15 = 7 ∨ x.o % 15 = 8 ∨ x.o % 15 = 9 ∨ x.o % 15 = 10 ∨ x.o % 15 = 11 ∨ x.o % 15 = 12 ∨ x.o % 15 = 13 ∨ x.o % 15 = 14 := by omega
  have hb0 : x.o % 15 < 13 → bareI x = x := fun h => by unfold bareI; rw [if_neg (by omega)]
  have hb1 : ¬ x.o % 15 < 13 → bareI x = ⟨2, x.d, x.a, x.b, x.n⟩ := fun h => by unfold bareI; rw [if_pos (by omega)]
  unfold fitI
  rcases hop with h | h | h | h | h | h | h | h | h | h | h | h | h | h | h
  · rw [hb0 (by omega), h]
    exact fitb_0 x i n _ _ (qo.trans h) qd gm (Lib.hid (ms 4294967296 (by omega) (by omega))) w
  · rw [hb0 (by omega), h]
    exact fitb_1 x i n _ _ (qo.trans h) qd qa w
  · rw [hb0 (by omega), h]
    exact fitb_2 x i n _ _ _ (qo.trans h) qd qa qb w
  · rw [hb0 (by omega), h]
    exact fitb_3 x i n _ _ _ (qo.trans h) qd qa qb w
  · rw [hb0 (by omega), h]
    exact fitb_4 x i n _ _ _ (qo.trans h) qd qa qb w
  · rw [hb0 (by omega), h]
    exact fitb_5 x i n _ _ _ (qo.trans h) qd qa qb w
  · rw [hb0 (by omega), h]
    exact fitb_6 x i n _ _ _ (qo.trans h) qd qa qb w
  · rw [hb0 (by omega), h]
    exact fitb_7 x i n _ _ _ (qo.trans h) qd qa qb w
  · rw [hb0 (by omega), h]
    exact fitb_8 x i n _ _ _ (qo.trans h) qd qa qb w
  · rw [hb0 (by omega), h]
    exact fitb_9 x i n _ _ _ (qo.trans h) qd qa (Lib.hid (ms 32 (by omega) (by omega))) w
  · rw [hb0 (by omega), h]
    exact fitb_10 x i n _ _ _ (qo.trans h) qd qa (Lib.hid (ms 32 (by omega) (by omega))) w
  · rw [hb0 (by omega), h]
    exact fitb_11 x i n _ _ _ (qo.trans h) qd qa qb w
  · rw [hb0 (by omega), h]
    exact fitb_12 x i n _ _ _ (qo.trans h) qa gk (Lib.hid (ms (n - i) (by omega) (by omega))) w
  · rw [hb1 (by omega)]
    exact fitb_13 x i n _ _ _ (qo.trans h) qd qa qb w
  · rw [hb1 (by omega)]
    exact fitb_14 x i n _ _ _ (qo.trans h) qd qa qb w
set_option maxRecDepth 100000 in
set_option maxHeartbeats 4000000 in
theorem Fitb_any (l : List In) (A : Option Addr) (c : Nat) (hok : ∀ x ∈ l, x.ok) (w : World) (he : Es EI w w.heap.size A l) :
    Calls Tryz.prog 35 #[.slice A l.length c, .bool true] w (MadeE EI w.heap.size w (fitP (l.map bareI))) := by
  by_cases h0 : l.length = 0
  · have e : fitP (l.map bareI) = [mov] := if_pos (by simpa using h0)
    rw [e, h0]
    have HO := Lib.hid (ownI_new w [mov] #[.int .u8 1, .int .u8 0, .int .u8 0, .int .u8 0, .int .i64 0] rfl (by decide))
    have HB := Lib.hid (new_below w (.cells #[.int .u8 1, .int .u8 0, .int .u8 0, .int .u8 0, .int .i64 0] 76))
    go_enter Tryz.func35, Tryz.ntmps35
    go_wp2_with fail
    go_ret
    exact ⟨_, rfl, HO.out, HB.out⟩
  obtain ⟨i0, hi, hz0, hz1, hz2⟩ := info_parts Tryz.info76
  have HI := Lib.hid hi
  have HZ := Lib.hid (And.intro hz0 (And.intro hz1 hz2))
  clear hi hz0 hz1 hz2
  have e : fitP (l.map bareI) = (List.range (fitN l.length)).map (fitAt (l.map bareI)) := by rw [fitP, if_neg (by simpa using h0), List.length_map]
  rw [e]
  have hmin : min (l.length : Int) 32 = (fitN l.length : Int) := by unfold fitN; omega
  have hml : fitN l.length ≤ l.length := by unfold fitN; omega
  have hm32 : fitN l.length ≤ 32 := by unfold fitN; omega
  have HFA := Lib.hid (fun (k : Nat) (u : In) (h : l[k]? = some u) => show fitAt (l.map bareI) k = fitI (bareI u) k (fitN l.length) by unfold fitAt; rw [List.getD_eq_getElem?_getD, List.getElem?_map, h, List.length_map]; rfl)
  have HL := Lib.hid (fun (k : Nat) (h : k < l.length) => get_lt h)
  have HE := Lib.hid he
  have HK := Lib.hid (fun x (h : x ∈ l) => hok x h)
  generalize fitN l.length = m at *
  generalize l.length = n at *
  have hn0 : ((n : Int) == 0) = false := by simpa using (show ¬ (n : Int) = 0 by omega)
  have HB0 := Lib.hid (new_below w (.cells #[] 76))
  have HO0 := Lib.hid (ownE_empty (E := EI) w (Nat.le_refl w.heap.size))
  clear he hok e h0
  go_enter Tryz.func35, Tryz.ntmps35
  go_wp2_with fail
  go_loopw [6, 7] (fun b i wr => ∃ k : Nat, k ≤ m ∧ i = .int .i64 k ∧ Below w.heap.size w wr ∧ OwnE EI wr w.heap.size b ((List.range k).map (fitAt (l.map bareI)))) (fun _ i _ => m - (intOf i).toNat)
  case atStart => exact ⟨0, Nat.zero_le _, rfl, HB0.out, HO0.out⟩
  case round =>
    obtain ⟨k, hk, rfl, hb, ho⟩ := hrel
    obtain ⟨A1, c1, rfl⟩ := ho.form
    have HB := Lib.hid hb
    have HO := Lib.hid ho
    clear hb ho
    by_cases hlt : k < m
    · obtain ⟨x, hx⟩ := HL.out k (by omega)
      obtain ⟨b, off, rfl, hbB, hat⟩ := HE.out.at hx
      obtain ⟨c0, c1', c2, c3, c4⟩ := atI (show AtE EI wr b (off + k * 5) x from hat.below HB.out hbB)
      have hbw := Nat.lt_of_lt_of_le hbB HB.out.size
      have HU := Lib.hid (fun w' => fitb_any x k m (HK.out x (List.mem_of_getElem? hx)) (by omega) (by omega) (by omega) w')
      have hu := HFA.out k x hx
      obtain ⟨u, hfu⟩ : ∃ u, fitI (bareI x) k m = u := ⟨_, rfl⟩
      rw [hfu] at HU hu
      have HS := Lib.hid (show (List.range (k + 1)).map (fitAt (l.map bareI)) = (List.range k).map (fitAt (l.map bareI)) ++ [u] by rw [range_snoc, hu])
      have hcl : ((List.range k).map (fitAt (l.map bareI))).length = k := by simp
      generalize (List.range k).map (fitAt (l.map bareI)) = cs at *
      have HC := Lib.hid hcl
      have hc256 : cs.length ≤ 256 := by omega
      clear hcl hat hx hu hfu
      go_wp2_with fail
      with_reducible refine (HU.out _).mono ?_
      rintro e w2 ⟨rfl, hb2⟩
      have B2 := Lib.hid (bstep HB.out HB.out.size hb2)
      have O1 := Lib.hid (HO.out.keep hb2)
      have O2 := Lib.hid (O1.out.alloc (.cells #[.int .u8 u.o, .int .u8 u.d, .int .u8 u.a, .int .u8 u.b, .int .i64 u.n] 76))
      have hz2 : w.heap.size ≤ w2.heap.size := B2.out.size
      clear hb2 HU c0 c1' c2 c3 c4
      go_wp2_with (at_builtin; refine wpList_append_own _ rfl _ _ 48 rfl w.heap.size 76 i0 _ 5 16 Tryz.underlying48 HI.out HZ.out.1 HZ.out.2.1 HZ.out.2.2 (by kernel_rfl) (by decide) _ _ (EI.flat cs) rfl O2.out.row _ 1 1 (EI.cells u) rfl rfl (newI_at rfl) (EI.one _) (by unfold maxLen; omega) (by omega) (by simp; omega) ?_; intro v' w6 hown' hgrow _; obtain ⟨ho6, hb6⟩ := append_ofE (E := EI) (x := u) O1.out (by omega) hown' hgrow; obtain ⟨A2, c2', rfl⟩ := ho6.form; have O6 := Lib.hid ho6; have B6 := Lib.hid hb6; clear hown' hgrow ho6 hb6)
      go_roundw
      case rel =>
        exact ⟨k + 1, by omega, by go_num, B2.out.trans B6.out, by rw [HS.out]; have h := O6.out; rw [List.length_append] at h; exact h⟩
      case measure => simp [intOf]; omega
    · obtain rfl : k = m := by omega
      go_wp2_with fail
      go_ret
      exact ⟨_, rfl, HO.out, HB.out⟩
end Go.Proofs.YtfmmfaeognoleaaGreat.C
/-
  Vertices as eight numbers, and the contracts of vec's functions that take them apart and together, at this seat's translation.
-/
namespace Go.Proofs.YtfmmfaeognoleaaGreat.U
open Go.RowKit
attribute [local go_sem ↓] Go.wp_at_zero Go.wp_at_succ

/-- A vertex: X, Y, Z, W and the four attributes. -/
structure V where
  x : Int
  y : Int
  z : Int
  w : Int
  a : Int
  b : Int
  c : Int
  d : Int
  deriving DecidableEq

def within (n m : Int) : Prop := -m ≤ n ∧ n ≤ m
/-- Numbers up to 2^20 without their sign. -/
structure V.sm (v : V) : Prop where
  x : -1048576 ≤ v.x ∧ v.x ≤ 1048576
  y : -1048576 ≤ v.y ∧ v.y ≤ 1048576
  z : -1048576 ≤ v.z ∧ v.z ≤ 1048576
  w : -1048576 ≤ v.w ∧ v.w ≤ 1048576
  a : -1048576 ≤ v.a ∧ v.a ≤ 1048576
  b : -1048576 ≤ v.b ∧ v.b ≤ 1048576
  c : -1048576 ≤ v.c ∧ v.c ≤ 1048576
  d : -1048576 ≤ v.d ∧ v.d ≤ 1048576

def dist (p : Int) (v : V) : Int :=
  if p = 0 then v.z + v.w else if p = 1 then 4 * v.w + v.x else if p = 2 then 4 * v.w - v.x else if p = 3 then 4 * v.w + v.y else if p = 4 then 4 * v.w - v.y else 0

theorem apart_any (v : V) (w : World) :
    Calls Tryz.prog 82 #[.agg #[.int .i64 v.x, .int .i64 v.y, .int .i64 v.z, .int .i64 v.w, .int .i64 v.a, .int .i64 v.b, .int .i64 v.c, .int .i64 v.d]] w fun e w' => e = .returned (.agg #[.int .i64 v.x, .int .i64 v.y, .int .i64 v.z, .int .i64 v.w, .int .i64 v.a, .int .i64 v.b, .int .i64 v.c, .int .i64 v.d]) ∧ Below w.heap.size w w' := by
  have hb : ∀ o o', Below w.heap.size w ((w.alloc o).alloc o') := fun o o' => ((Below.refl _ _).alloc (Nat.le_refl _) o).alloc (by simp) o'
  have HB := Lib.hid hb
  clear hb
  go_enter Tryz.func82, Tryz.ntmps82
  go_wp2
  exact bodyPost_ret (v := .agg #[.int .i64 v.x, .int .i64 v.y, .int .i64 v.z, .int .i64 v.w, .int .i64 v.a, .int .i64 v.b, .int .i64 v.c, .int .i64 v.d]) (by simp [results, Tryz.results82, go_sem]) rfl ⟨rfl, HB.out _ _⟩

end Go.Proofs.YtfmmfaeognoleaaGreat.U
/-
  What a block that holds a vertex's numbers reads, and what stays of it when one or all of them are written; worlds that only grow.
-/
namespace Go.Proofs.YtfmmfaeognoleaaGreat.U
open Go.RowKit
attribute [local go_sem ↓] Go.wp_at_zero Go.wp_at_succ

theorem bstep {B : Nat} {a b c : World} (h : Below B a b) (hB : B ≤ b.heap.size) (k : Below b.heap.size b c) : Below B a c := h.trans (k.mono hB)

/-- The worlds that are as w was below its own size. -/
def Grow (w : World) : Type := { w' : World // Below w.heap.size w w' }
def Grow.w {w : World} (x : Grow w) : World := x.1
theorem Grow.below {w : World} (x : Grow w) : Below w.heap.size w x.w := x.2
theorem Grow.ne (w : World) : Nonempty (Grow w) := ⟨⟨w, Below.refl _ _⟩⟩
theorem Grow.cell {w : World} (x : Grow w) {b o : Nat} {v : Value} (h : w.cell? ⟨b, o, none⟩ = some v) : x.w.cell? ⟨b, o, none⟩ = some v := by
  rw [x.below.cell (World.block_lt_of_cell? _ _ h), h]

theorem wp_region_grow {P : Program} {id : Nat} {Q : Exit → Act → World → Prop} {a : Act} {w : World} {l : List Oper} (hm : P.follows .mixedOrders = true) (hB : Region.lexB .any l.toArray = true)
    (h : wpQuiet P l.toArray (fun w' => ∃ x : Grow w, w' = x.w) (fun a' => ∀ w', (∃ x : Grow w, w' = x.w) → Q .normal a' w') l a) : (Code.region id l.toArray true).wp P Q a w :=
  wp_region_quiet (C := fun w' => ∃ x : Grow w, w' = x.w) hm hB ⟨⟨_, (Below.refl _ _).drew⟩, rfl⟩ (by simpa using h)

theorem Grow.calls {P : Program} {f : FuncId} {args : Array Value} {w : World} {x : Grow w} {v : Value}
    (h : Calls P f args x.w fun e w' => e = .returned v ∧ Below x.w.heap.size x.w w') : Calls P f args x.w fun e w'' => e = .returned v ∧ ∃ y : Grow w, w'' = y.w :=
  h.mono fun _ _ ⟨he, hb⟩ => ⟨he, ⟨_, x.below.trans (hb.mono x.below.size)⟩, rfl⟩

/-- A block of eight numbers, of a type t. -/
def vB (t : TypeId) (v : V) : Obj := .cells #[.int .i64 v.x, .int .i64 v.y, .int .i64 v.z, .int .i64 v.w, .int .i64 v.a, .int .i64 v.b, .int .i64 v.c, .int .i64 v.d] t (0, 0)
theorem vB_cell {w : World} {g : Nat} {t : TypeId} {v : V} (h : w.heap[g]? = some (vB t v)) : (w.cell? ⟨g, 0, none⟩ = some (.int .i64 v.x) ∧ w.cell? ⟨g, 1, none⟩ = some (.int .i64 v.y) ∧ w.cell? ⟨g, 2, none⟩ = some (.int .i64 v.z) ∧ w.cell? ⟨g, 3, none⟩ = some (.int .i64 v.w) ∧ w.cell? ⟨g, 4, none⟩ = some (.int .i64 v.a) ∧ w.cell? ⟨g, 5, none⟩ = some (.int .i64 v.b) ∧ w.cell? ⟨g, 6, none⟩ = some (.int .i64 v.c) ∧ w.cell? ⟨g, 7, none⟩ = some (.int .i64 v.d)) := by
  unfold vB at h
  simp [World.cell?, h]
theorem vB_free {w : World} {g : Nat} {t : TypeId} {v : V} (h : w.heap[g]? = some (vB t v)) :
    w.frozen? ⟨g, 0, none⟩ = false ∧ w.frozen? ⟨g, 1, none⟩ = false ∧ w.frozen? ⟨g, 2, none⟩ = false ∧ w.frozen? ⟨g, 3, none⟩ = false ∧ w.frozen? ⟨g, 4, none⟩ = false ∧ w.frozen? ⟨g, 5, none⟩ = false ∧ w.frozen? ⟨g, 6, none⟩ = false ∧ w.frozen? ⟨g, 7, none⟩ = false := by
  unfold vB at h
  simp [World.frozen?, h]
theorem new_at {w : World} {o : Obj} {k : Nat} (h : k = w.heap.size) : (w.alloc o).heap[k]? = some o := by
  subst h
  exact heap_alloc_new _ _
theorem vB_lt {w : World} {g : Nat} {t : TypeId} {v : V} (h : w.heap[g]? = some (vB t v)) : g < w.heap.size := World.block_lt_of_cell? _ _ (vB_cell h).1
theorem vB_grow {w w' : World} {g : Nat} {t : TypeId} {v : V} (h : w.heap[g]? = some (vB t v)) (k : Below w.heap.size w w') : w'.heap[g]? = some (vB t v) := (k.block _ (vB_lt h)).trans h
theorem vB_alloc {w : World} {g : Nat} {t : TypeId} {v : V} (o : Obj) (h : w.heap[g]? = some (vB t v)) : (w.alloc o).heap[g]? = some (vB t v) := (Below.heap_alloc _ _ _ (vB_lt h)).trans h
theorem vB_set0 {w : World} {g : Nat} {t : TypeId} {v : V} (n : Int) (h : w.heap[g]? = some (vB t v)) : (w.setCell ⟨g, 0, none⟩ (.int .i64 n)).heap[g]? = some (vB t { v with x := n }) := by
  unfold vB at h
  rw [heap_setCell_same _ _ _ _ _ _ h]
  simp [vB]
theorem vB_set1 {w : World} {g : Nat} {t : TypeId} {v : V} (n : Int) (h : w.heap[g]? = some (vB t v)) : (w.setCell ⟨g, 1, none⟩ (.int .i64 n)).heap[g]? = some (vB t { v with y := n }) := by
  unfold vB at h
  rw [heap_setCell_same _ _ _ _ _ _ h]
  simp [vB]
theorem vB_set2 {w : World} {g : Nat} {t : TypeId} {v : V} (n : Int) (h : w.heap[g]? = some (vB t v)) : (w.setCell ⟨g, 2, none⟩ (.int .i64 n)).heap[g]? = some (vB t { v with z := n }) := by
  unfold vB at h
  rw [heap_setCell_same _ _ _ _ _ _ h]
  simp [vB]
theorem vB_set3 {w : World} {g : Nat} {t : TypeId} {v : V} (n : Int) (h : w.heap[g]? = some (vB t v)) : (w.setCell ⟨g, 3, none⟩ (.int .i64 n)).heap[g]? = some (vB t { v with w := n }) := by
  unfold vB at h
  rw [heap_setCell_same _ _ _ _ _ _ h]
  simp [vB]
theorem vB_set4 {w : World} {g : Nat} {t : TypeId} {v : V} (n : Int) (h : w.heap[g]? = some (vB t v)) : (w.setCell ⟨g, 4, none⟩ (.int .i64 n)).heap[g]? = some (vB t { v with a := n }) := by
  unfold vB at h
  rw [heap_setCell_same _ _ _ _ _ _ h]
  simp [vB]
theorem vB_set5 {w : World} {g : Nat} {t : TypeId} {v : V} (n : Int) (h : w.heap[g]? = some (vB t v)) : (w.setCell ⟨g, 5, none⟩ (.int .i64 n)).heap[g]? = some (vB t { v with b := n }) := by
  unfold vB at h
  rw [heap_setCell_same _ _ _ _ _ _ h]
  simp [vB]
theorem vB_set6 {w : World} {g : Nat} {t : TypeId} {v : V} (n : Int) (h : w.heap[g]? = some (vB t v)) : (w.setCell ⟨g, 6, none⟩ (.int .i64 n)).heap[g]? = some (vB t { v with c := n }) := by
  unfold vB at h
  rw [heap_setCell_same _ _ _ _ _ _ h]
  simp [vB]
theorem vB_set7 {w : World} {g : Nat} {t : TypeId} {v : V} (n : Int) (h : w.heap[g]? = some (vB t v)) : (w.setCell ⟨g, 7, none⟩ (.int .i64 n)).heap[g]? = some (vB t { v with d := n }) := by
  unfold vB at h
  rw [heap_setCell_same _ _ _ _ _ _ h]
  simp [vB]
theorem vB_set {w : World} {g : Nat} {t : TypeId} {v : V} (u : V) (h : w.heap[g]? = some (vB t v)) : ((((((((w.setCell ⟨g, 0, none⟩ (.int .i64 u.x)).setCell ⟨g, 1, none⟩ (.int .i64 u.y)).setCell ⟨g, 2, none⟩ (.int .i64 u.z)).setCell ⟨g, 3, none⟩ (.int .i64 u.w)).setCell ⟨g, 4, none⟩ (.int .i64 u.a)).setCell ⟨g, 5, none⟩ (.int .i64 u.b)).setCell ⟨g, 6, none⟩ (.int .i64 u.c)).setCell ⟨g, 7, none⟩ (.int .i64 u.d)).heap[g]? = some (vB t u) := by
  have h0 := vB_set0 u.x h
  have h1 := vB_set1 u.y h0
  have h2 := vB_set2 u.z h1
  have h3 := vB_set3 u.w h2
  have h4 := vB_set4 u.a h3
  have h5 := vB_set5 u.b h4
  have h6 := vB_set6 u.c h5
  have h7 := vB_set7 u.d h6
  exact h7
/-- The eight numbers written, one behind the other. -/
def set8 (w : World) (g : Nat) (u : V) : World := ((((((((w.setCell ⟨g, 0, none⟩ (.int .i64 u.x)).setCell ⟨g, 1, none⟩ (.int .i64 u.y)).setCell ⟨g, 2, none⟩ (.int .i64 u.z)).setCell ⟨g, 3, none⟩ (.int .i64 u.w)).setCell ⟨g, 4, none⟩ (.int .i64 u.a)).setCell ⟨g, 5, none⟩ (.int .i64 u.b)).setCell ⟨g, 6, none⟩ (.int .i64 u.c)).setCell ⟨g, 7, none⟩ (.int .i64 u.d))
theorem set8_same {w : World} {g : Nat} {t : TypeId} {v : V} (u : V) (h : w.heap[g]? = some (vB t v)) : (set8 w g u).heap[g]? = some (vB t u) := vB_set u h
theorem set8_below {B : Nat} {w w' : World} {g : Nat} (u : V) (h : Below B w w') (hg : B ≤ g) : Below B w (set8 w' g u) := by
  unfold set8
  exact (((((((h.setCell hg _).setCell hg _).setCell hg _).setCell hg _).setCell hg _).setCell hg _).setCell hg _).setCell hg _
theorem vB_other {w : World} {g k o : Nat} {t : TypeId} {v : V} (n : Value) (h : w.heap[g]? = some (vB t v)) (hk : k ≠ g) : (w.setCell ⟨k, o, none⟩ n).heap[g]? = some (vB t v) := by
  rw [heap_setCell_other _ _ _ _ (by simpa using fun e => hk e.symm)]; exact h
theorem set8_other {w : World} {g k : Nat} {t : TypeId} {v : V} (u : V) (h : w.heap[g]? = some (vB t v)) (hk : k ≠ g) : (set8 w k u).heap[g]? = some (vB t v) := by
  unfold set8
  exact vB_other _ (vB_other _ (vB_other _ (vB_other _ (vB_other _ (vB_other _ (vB_other _ (vB_other _ h hk) hk) hk) hk) hk) hk) hk) hk
end Go.Proofs.YtfmmfaeognoleaaGreat.U
/-
  The contracts of vec.held and vec.Right: a vertex may be just if holding its numbers within their bounds leaves it.
-/
namespace Go.Proofs.YtfmmfaeognoleaaGreat.U
open Go.RowKit
attribute [local go_sem ↓] Go.wp_at_zero Go.wp_at_succ

def clamp (lo hi n : Int) : Int := min (max n lo) hi
def least : V := ⟨-32768, -32768, -32768, 1, -4096, -4096, -4096, -4096⟩
def most : V := ⟨32768, 32768, 32768, 32768, 4096, 4096, 4096, 4096⟩
/-- The first j numbers held within their bounds. -/
def upto (j : Nat) (v : V) : V :=
  ⟨if 0 < j then min (max v.x (-32768)) 32768 else v.x, if 1 < j then min (max v.y (-32768)) 32768 else v.y, if 2 < j then min (max v.z (-32768)) 32768 else v.z, if 3 < j then min (max v.w 1) 32768 else v.w,
    if 4 < j then min (max v.a (-4096)) 4096 else v.a, if 5 < j then min (max v.b (-4096)) 4096 else v.b, if 6 < j then min (max v.c (-4096)) 4096 else v.c, if 7 < j then min (max v.d (-4096)) 4096 else v.d⟩
def heldV (v : V) : V :=
  ⟨min (max v.x (-32768)) 32768, min (max v.y (-32768)) 32768, min (max v.z (-32768)) 32768, min (max v.w 1) 32768, min (max v.a (-4096)) 4096, min (max v.b (-4096)) 4096, min (max v.c (-4096)) 4096, min (max v.d (-4096)) 4096⟩

set_option maxRecDepth 100000 in
set_option maxHeartbeats 2000000 in
theorem held_any (v : V) (w : World) :
    Calls Tryz.prog 83 #[.agg #[.int .i64 v.x, .int .i64 v.y, .int .i64 v.z, .int .i64 v.w, .int .i64 v.a, .int .i64 v.b, .int .i64 v.c, .int .i64 v.d]] w fun e w' => e = .returned (.agg #[.int .i64 (heldV v).x, .int .i64 (heldV v).y, .int .i64 (heldV v).z, .int .i64 (heldV v).w, .int .i64 (heldV v).a, .int .i64 (heldV v).b, .int .i64 (heldV v).c, .int .i64 (heldV v).d]) ∧ Below w.heap.size w w' := by
  go_enter Tryz.func83, Tryz.ntmps83
  go_wp2
  go_loopw [8] (fun i wr => ∃ j : Nat, j ≤ 8 ∧ i = .int .i64 j ∧ Below w.heap.size w wr ∧ wr.heap[w.heap.size]? = some (vB 128 (upto j v)) ∧ wr.heap[w.heap.size + 1]? = some (vB 128 ⟨0, 0, 0, 0, 0, 0, 0, 0⟩) ∧ wr.heap[w.heap.size + 2]? = some (vB 128 least) ∧ wr.heap[w.heap.size + 3]? = some (vB 128 most))
    (fun i _ => 8 - (intOf i).toNat)
  case atStart =>
    refine ⟨0, by omega, rfl, ?_, ?_, ?_, ?_, ?_⟩
    · exact ((((Below.refl _ _).alloc (Nat.le_refl _) _).alloc (by simp) _).alloc (by simp; omega) _).alloc (by simp; omega) _
    · rw [Below.heap_alloc _ _ _ (by simp; omega), Below.heap_alloc _ _ _ (by simp; omega), Below.heap_alloc _ _ _ (by simp)]; exact heap_alloc_new _ _
    · rw [Below.heap_alloc _ _ _ (by simp), Below.heap_alloc _ _ _ (by simp)]; exact new_at (by simp)
    · rw [Below.heap_alloc _ _ _ (by simp)]; exact new_at (by simp)
    · exact new_at (by simp)
  case round =>
    obtain ⟨j, hj, rfl, hbel, h0, h1, h2, h3⟩ := hrel
    have HBE := Lib.hid hbel
    have H0 := Lib.hid h0
    have H1 := Lib.hid h1
    have H2 := Lib.hid h2
    have H3 := Lib.hid h3
    have hz := vB_lt h0
    clear hbel h0 h1 h2 h3
    rcases (show j = 0 ∨ j = 1 ∨ j = 2 ∨ j = 3 ∨ j = 4 ∨ j = 5 ∨ j = 6 ∨ j = 7 ∨ j = 8 by omega) with rfl | rfl | rfl | rfl | rfl | rfl | rfl | rfl | rfl
    · have c0 : wr.cell? ⟨w.heap.size, 0, none⟩ = some (.int .i64 v.x) := (vB_cell H0.out).1
      have c2 : wr.cell? ⟨w.heap.size + 2, 0, none⟩ = some (.int .i64 (-32768)) := (vB_cell H2.out).1
      have c3 : wr.cell? ⟨w.heap.size + 3, 0, none⟩ = some (.int .i64 32768) := (vB_cell H3.out).1
      have f0 : wr.frozen? ⟨w.heap.size, 0, none⟩ = false := (vB_free H0.out).1
      go_wp2
      go_still_tail 13, (by kernel_rfl)
      change wpList _ _ _ _ _ wr.drew
      go_wp2
      go_roundw
      case rel => exact ⟨1, by omega, by go_num, (HBE.out.drew).setCell (by simp) _, vB_set0 (w := wr.drew) _ H0.out, vB_other (w := wr.drew) _ H1.out (by omega), vB_other (w := wr.drew) _ H2.out (by omega), vB_other (w := wr.drew) _ H3.out (by omega)⟩
      case measure => simp [intOf]
    · have c0 : wr.cell? ⟨w.heap.size, 1, none⟩ = some (.int .i64 v.y) := (vB_cell H0.out).2.1
      have c2 : wr.cell? ⟨w.heap.size + 2, 1, none⟩ = some (.int .i64 (-32768)) := (vB_cell H2.out).2.1
      have c3 : wr.cell? ⟨w.heap.size + 3, 1, none⟩ = some (.int .i64 32768) := (vB_cell H3.out).2.1
      have f0 : wr.frozen? ⟨w.heap.size, 1, none⟩ = false := (vB_free H0.out).2.1
      go_wp2
      go_still_tail 13, (by kernel_rfl)
      change wpList _ _ _ _ _ wr.drew
      go_wp2
      go_roundw
      case rel => exact ⟨2, by omega, by go_num, (HBE.out.drew).setCell (by simp) _, vB_set1 (w := wr.drew) _ H0.out, vB_other (w := wr.drew) _ H1.out (by omega), vB_other (w := wr.drew) _ H2.out (by omega), vB_other (w := wr.drew) _ H3.out (by omega)⟩
      case measure => simp [intOf]
    · have c0 : wr.cell? ⟨w.heap.size, 2, none⟩ = some (.int .i64 v.z) := (vB_cell H0.out).2.2.1
      have c2 : wr.cell? ⟨w.heap.size + 2, 2, none⟩ = some (.int .i64 (-32768)) := (vB_cell H2.out).2.2.1
      have c3 : wr.cell? ⟨w.heap.size + 3, 2, none⟩ = some (.int .i64 32768) := (vB_cell H3.out).2.2.1
      have f0 : wr.frozen? ⟨w.heap.size, 2, none⟩ = false := (vB_free H0.out).2.2.1
      go_wp2
      go_still_tail 13, (by kernel_rfl)
      change wpList _ _ _ _ _ wr.drew
      go_wp2
      go_roundw
      case rel => exact ⟨3, by omega, by go_num, (HBE.out.drew).setCell (by simp) _, vB_set2 (w := wr.drew) _ H0.out, vB_other (w := wr.drew) _ H1.out (by omega), vB_other (w := wr.drew) _ H2.out (by omega), vB_other (w := wr.drew) _ H3.out (by omega)⟩
      case measure => simp [intOf]
    · have c0 : wr.cell? ⟨w.heap.size, 3, none⟩ = some (.int .i64 v.w) := (vB_cell H0.out).2.2.2.1
      have c2 : wr.cell? ⟨w.heap.size + 2, 3, none⟩ = some (.int .i64 1) := (vB_cell H2.out).2.2.2.1
      have c3 : wr.cell? ⟨w.heap.size + 3, 3, none⟩ = some (.int .i64 32768) := (vB_cell H3.out).2.2.2.1
      have f0 : wr.frozen? ⟨w.heap.size, 3, none⟩ = false := (vB_free H0.out).2.2.2.1
      go_wp2
      go_still_tail 13, (by kernel_rfl)
      change wpList _ _ _ _ _ wr.drew
      go_wp2
      go_roundw
      case rel => exact ⟨4, by omega, by go_num, (HBE.out.drew).setCell (by simp) _, vB_set3 (w := wr.drew) _ H0.out, vB_other (w := wr.drew) _ H1.out (by omega), vB_other (w := wr.drew) _ H2.out (by omega), vB_other (w := wr.drew) _ H3.out (by omega)⟩
      case measure => simp [intOf]
    · have c0 : wr.cell? ⟨w.heap.size, 4, none⟩ = some (.int .i64 v.a) := (vB_cell H0.out).2.2.2.2.1
      have c2 : wr.cell? ⟨w.heap.size + 2, 4, none⟩ = some (.int .i64 (-4096)) := (vB_cell H2.out).2.2.2.2.1
      have c3 : wr.cell? ⟨w.heap.size + 3, 4, none⟩ = some (.int .i64 4096) := (vB_cell H3.out).2.2.2.2.1
      have f0 : wr.frozen? ⟨w.heap.size, 4, none⟩ = false := (vB_free H0.out).2.2.2.2.1
      go_wp2
      go_still_tail 13, (by kernel_rfl)
      change wpList _ _ _ _ _ wr.drew
      go_wp2
      go_roundw
      case rel => exact ⟨5, by omega, by go_num, (HBE.out.drew).setCell (by simp) _, vB_set4 (w := wr.drew) _ H0.out, vB_other (w := wr.drew) _ H1.out (by omega), vB_other (w := wr.drew) _ H2.out (by omega), vB_other (w := wr.drew) _ H3.out (by omega)⟩
      case measure => simp [intOf]
    · have c0 : wr.cell? ⟨w.heap.size, 5, none⟩ = some (.int .i64 v.b) := (vB_cell H0.out).2.2.2.2.2.1
      have c2 : wr.cell? ⟨w.heap.size + 2, 5, none⟩ = some (.int .i64 (-4096)) := (vB_cell H2.out).2.2.2.2.2.1
      have c3 : wr.cell? ⟨w.heap.size + 3, 5, none⟩ = some (.int .i64 4096) := (vB_cell H3.out).2.2.2.2.2.1
      have f0 : wr.frozen? ⟨w.heap.size, 5, none⟩ = false := (vB_free H0.out).2.2.2.2.2.1
      go_wp2
      go_still_tail 13, (by kernel_rfl)
      change wpList _ _ _ _ _ wr.drew
      go_wp2
      go_roundw
      case rel => exact ⟨6, by omega, by go_num, (HBE.out.drew).setCell (by simp) _, vB_set5 (w := wr.drew) _ H0.out, vB_other (w := wr.drew) _ H1.out (by omega), vB_other (w := wr.drew) _ H2.out (by omega), vB_other (w := wr.drew) _ H3.out (by omega)⟩
      case measure => simp [intOf]
    · have c0 : wr.cell? ⟨w.heap.size, 6, none⟩ = some (.int .i64 v.c) := (vB_cell H0.out).2.2.2.2.2.2.1
      have c2 : wr.cell? ⟨w.heap.size + 2, 6, none⟩ = some (.int .i64 (-4096)) := (vB_cell H2.out).2.2.2.2.2.2.1
      have c3 : wr.cell? ⟨w.heap.size + 3, 6, none⟩ = some (.int .i64 4096) := (vB_cell H3.out).2.2.2.2.2.2.1
      have f0 : wr.frozen? ⟨w.heap.size, 6, none⟩ = false := (vB_free H0.out).2.2.2.2.2.2.1
      go_wp2
      go_still_tail 13, (by kernel_rfl)
      change wpList _ _ _ _ _ wr.drew
      go_wp2
      go_roundw
      case rel => exact ⟨7, by omega, by go_num, (HBE.out.drew).setCell (by simp) _, vB_set6 (w := wr.drew) _ H0.out, vB_other (w := wr.drew) _ H1.out (by omega), vB_other (w := wr.drew) _ H2.out (by omega), vB_other (w := wr.drew) _ H3.out (by omega)⟩
      case measure => simp [intOf]
    · have c0 : wr.cell? ⟨w.heap.size, 7, none⟩ = some (.int .i64 v.d) := (vB_cell H0.out).2.2.2.2.2.2.2
      have c2 : wr.cell? ⟨w.heap.size + 2, 7, none⟩ = some (.int .i64 (-4096)) := (vB_cell H2.out).2.2.2.2.2.2.2
      have c3 : wr.cell? ⟨w.heap.size + 3, 7, none⟩ = some (.int .i64 4096) := (vB_cell H3.out).2.2.2.2.2.2.2
      have f0 : wr.frozen? ⟨w.heap.size, 7, none⟩ = false := (vB_free H0.out).2.2.2.2.2.2.2
      go_wp2
      go_still_tail 13, (by kernel_rfl)
      change wpList _ _ _ _ _ wr.drew
      go_wp2
      go_roundw
      case rel => exact ⟨8, by omega, by go_num, (HBE.out.drew).setCell (by simp) _, vB_set7 (w := wr.drew) _ H0.out, vB_other (w := wr.drew) _ H1.out (by omega), vB_other (w := wr.drew) _ H2.out (by omega), vB_other (w := wr.drew) _ H3.out (by omega)⟩
      case measure => simp [intOf]
    · obtain ⟨c0, c1, c2, c3, c4, c5, c6, c7⟩ : (wr.cell? ⟨w.heap.size, 0, none⟩ = some (.int .i64 (heldV v).x) ∧ wr.cell? ⟨w.heap.size, 1, none⟩ = some (.int .i64 (heldV v).y) ∧ wr.cell? ⟨w.heap.size, 2, none⟩ = some (.int .i64 (heldV v).z) ∧ wr.cell? ⟨w.heap.size, 3, none⟩ = some (.int .i64 (heldV v).w) ∧ wr.cell? ⟨w.heap.size, 4, none⟩ = some (.int .i64 (heldV v).a) ∧ wr.cell? ⟨w.heap.size, 5, none⟩ = some (.int .i64 (heldV v).b) ∧ wr.cell? ⟨w.heap.size, 6, none⟩ = some (.int .i64 (heldV v).c) ∧ wr.cell? ⟨w.heap.size, 7, none⟩ = some (.int .i64 (heldV v).d)) := vB_cell H0.out
      obtain ⟨d0, d1, d2, d3, d4, d5, d6, d7⟩ := vB_cell H1.out
      obtain ⟨f0, f1, f2, f3, f4, f5, f6, f7⟩ := vB_free H1.out
      have hz1 := vB_lt H1.out
      go_wp2
      have HR := vB_cell (vB_set (heldV v) H1.out)
      obtain ⟨r0, r1, r2, r3, r4, r5, r6, r7⟩ := HR
      refine bodyPost_ret (v := .agg #[.int .i64 (heldV v).x, .int .i64 (heldV v).y, .int .i64 (heldV v).z, .int .i64 (heldV v).w, .int .i64 (heldV v).a, .int .i64 (heldV v).b, .int .i64 (heldV v).c, .int .i64 (heldV v).d]) (by simp [results, Tryz.results83, go_sem, r0, r1, r2, r3, r4, r5, r6, r7]) rfl ⟨rfl, ?_⟩
      exact (((((((HBE.out.setCell (by simp) _).setCell (by simp) _).setCell (by simp) _).setCell (by simp) _).setCell (by simp) _).setCell (by simp) _).setCell (by simp) _).setCell (by simp) _
end Go.Proofs.YtfmmfaeognoleaaGreat.U
/-
  What comparing two arrays of numbers, or two vertices, comes to in the model.
-/
namespace Go.Proofs.YtfmmfaeognoleaaGreat.U
open Go.RowKit

/-- Two vertices are the same. -/
def sameV (u v : V) : Bool := decide (u = v)
set_option maxRecDepth 100000 in
theorem sameV_self (u : V) : sameV u u = true := by simp [sameV]

set_option maxRecDepth 100000 in
theorem all_range_ints : ∀ (xs ys : List Int), xs.length = ys.length → ((List.range xs.length).all fun i => xs.getD i 0 == ys.getD i 0) = (xs == ys)
  | [], [], _ => rfl
  | x :: xs, y :: ys, h => by
    have ih := all_range_ints xs ys (by simpa using h)
    rw [List.length_cons, List.range_succ_eq_map, List.all_cons, List.all_map]
    simp only [List.getD_cons_zero, Function.comp_def, List.getD_cons_succ, ih]
    simp [List.cons_beq_cons]
  | [], _ :: _, h => by simp at h
  | _ :: _, [], h => by simp at h

set_option maxRecDepth 100000 in
theorem run_equalIn_ints {P : Program} (w : World) (d : Nat) (t e : TypeId) (n : Nat) (ht : P.underlying t = some (.array n e)) (he : P.underlying e = some (.int .i64)) (hsz : ∀ w, (sizeOf e).run P w = .ok 1 w)
    (xs ys : List Int) (hx : xs.length = n) (hy : ys.length = n) :
    (Op.equalIn (d + 2) t (.agg (xs.map fun k => Value.int .i64 k).toArray) (.agg (ys.map fun k => Value.int .i64 k).toArray)).run P w = .ok (xs == ys) w := by
  rw [← all_range_ints xs ys (hx.trans hy.symm), hx, List.range_eq_range', Op.equalIn]
  simp only [Sem.run_bind, run_underlying ht, Result.andThen_ok, hsz, Std.Legacy.Range.forIn_eq_forIn_range', Std.Legacy.Range.size, Nat.sub_zero, Nat.add_sub_cancel, Nat.div_one]
  have hl : ∀ i ∈ List.range' 0 n 1, i < n := fun i hi => by simpa using (List.mem_range'_1.1 hi).2
  generalize List.range' 0 n 1 = l at hl ⊢
  induction l with
  | nil => simp
  | cons i l ih =>
    have hi : i < n := hl i (by simp)
    have px : (part e (xs.map fun k => Value.int .i64 k).toArray (i * 1)).run P w = .ok (.int .i64 (xs.getD i 0)) w := by
      simp [part, isAgg, run_underlying he, List.getD, List.getElem?_eq_getElem (show i < xs.length by omega)]
    have py : (part e (ys.map fun k => Value.int .i64 k).toArray (i * 1)).run P w = .ok (.int .i64 (ys.getD i 0)) w := by
      simp [part, isAgg, run_underlying he, List.getD, List.getElem?_eq_getElem (show i < ys.length by omega)]
    have pe : (Op.equalIn (d + 1) e (.int .i64 (xs.getD i 0)) (.int .i64 (ys.getD i 0))).run P w = .ok (xs.getD i 0 == ys.getD i 0) w := run_equalIn_int w d e .i64 .i64 _ _ he
    simp only [List.forIn_cons, Sem.run_bind, px, py, pe, Result.andThen_ok, List.all_cons]
    cases hb : (xs.getD i 0 == ys.getD i 0)
    · simp
    · simp only [Bool.not_true, Bool.false_eq_true, if_false, Sem.run_pure, Result.andThen_ok, Bool.true_and]
      exact ih fun j hj => hl j (by simp [hj])

set_option maxRecDepth 100000 in
theorem eql36 (w : World) (x0 x1 x2 x3 x4 x5 x6 x7 y0 y1 y2 y3 y4 y5 y6 y7 : Int) : (binOp .eql 128 (.agg #[.int .i64 x0, .int .i64 x1, .int .i64 x2, .int .i64 x3, .int .i64 x4, .int .i64 x5, .int .i64 x6, .int .i64 x7]) (.agg #[.int .i64 y0, .int .i64 y1, .int .i64 y2, .int .i64 y3, .int .i64 y4, .int .i64 y5, .int .i64 y6, .int .i64 y7])).run Tryz.prog w = .ok (.bool (sameV ((⟨x0, x1, x2, x3, x4, x5, x6, x7⟩ : V)) ⟨y0, y1, y2, y3, y4, y5, y6, y7⟩)) w := by
  have h := run_equalIn_ints (P := Tryz.prog) w 9998 128 3 8 Tryz.underlying128 Tryz.underlying3 Tryz.sizeOf3 [x0, x1, x2, x3, x4, x5, x6, x7] [y0, y1, y2, y3, y4, y5, y6, y7] rfl rfl
  rw [run_eql_struct]
  simp only [List.map_cons, List.map_nil] at h
  rw [show (10000 : Nat) = 9998 + 2 from rfl, h, Result.andThen_ok]
  congr 2
  rw [Bool.eq_iff_iff]
  simp [sameV]
set_option maxRecDepth 100000 in
theorem eqlA (w : World) (a b c d a' b' c' d' : Int) : (Op.equalIn 9999 72 (.agg #[.int .i64 a, .int .i64 b, .int .i64 c, .int .i64 d]) (.agg #[.int .i64 a', .int .i64 b', .int .i64 c', .int .i64 d'])).run Tryz.prog w = .ok ([a, b, c, d] == [a', b', c', d']) w :=
  run_equalIn_ints (P := Tryz.prog) w 9997 72 3 4 Tryz.underlying72 Tryz.underlying3 Tryz.sizeOf3 [a, b, c, d] [a', b', c', d'] rfl rfl
set_option maxRecDepth 100000 in
theorem guard36 : Tryz.prog.eqGuardType Tryz.prog.depth 128 = false := by kernel_rfl
end Go.Proofs.YtfmmfaeognoleaaGreat.U
/-
  The contract of vec.Right: a vertex may be just if holding its numbers within their bounds leaves it.
-/
namespace Go.Proofs.YtfmmfaeognoleaaGreat.U
open Go.RowKit
attribute [local go_sem ↓] Go.wp_at_zero Go.wp_at_succ

attribute [local go_sem high] eql36
attribute [local go_sem] guard36

def rightB (v : V) : Bool := sameV v (heldV v)

set_option maxRecDepth 100000 in
theorem right_any (v : V) (w : World) :
    Calls Tryz.prog 46 #[.agg #[.int .i64 v.x, .int .i64 v.y, .int .i64 v.z, .int .i64 v.w, .int .i64 v.a, .int .i64 v.b, .int .i64 v.c, .int .i64 v.d]] w fun e w' => e = .returned (.bool (rightB v)) ∧ Below w.heap.size w w' := by
  have HH := Lib.hid (held_any v)
  have HA := Lib.hid (apart_any v)
  go_enter Tryz.func46, Tryz.ntmps46
  go_wp2_with fail
  refine (HA.out _).mono ?_
  rintro e w1 ⟨rfl, hb1⟩
  have HB1 := Lib.hid hb1
  clear hb1
  go_wp2
  generalize hW : w1.alloc (Obj.cells #[.int .i64 v.x, .int .i64 v.y, .int .i64 v.z, .int .i64 v.w, .int .i64 v.a, .int .i64 v.b, .int .i64 v.c, .int .i64 v.d] 128) = W
  have G : ∀ x : Grow W, (x.w.cell? ⟨w1.heap.size, 0, none⟩ = some (.int .i64 v.x) ∧ x.w.cell? ⟨w1.heap.size, 1, none⟩ = some (.int .i64 v.y) ∧ x.w.cell? ⟨w1.heap.size, 2, none⟩ = some (.int .i64 v.z) ∧ x.w.cell? ⟨w1.heap.size, 3, none⟩ = some (.int .i64 v.w) ∧ x.w.cell? ⟨w1.heap.size, 4, none⟩ = some (.int .i64 v.a) ∧ x.w.cell? ⟨w1.heap.size, 5, none⟩ = some (.int .i64 v.b) ∧ x.w.cell? ⟨w1.heap.size, 6, none⟩ = some (.int .i64 v.c) ∧ x.w.cell? ⟨w1.heap.size, 7, none⟩ = some (.int .i64 v.d)) := by
    intro x
    have h := vB_cell (vB_grow (w := W) (g := w1.heap.size) (t := 128) (v := v) (by rw [← hW]; exact new_at rfl) x.below)
    exact h
  obtain ⟨g0, g1, g2, g3, g4, g5, g6, g7⟩ : (∀ x : Grow W, x.w.cell? ⟨w1.heap.size, 0, none⟩ = some (.int .i64 v.x)) ∧ (∀ x : Grow W, x.w.cell? ⟨w1.heap.size, 1, none⟩ = some (.int .i64 v.y)) ∧ (∀ x : Grow W, x.w.cell? ⟨w1.heap.size, 2, none⟩ = some (.int .i64 v.z)) ∧ (∀ x : Grow W, x.w.cell? ⟨w1.heap.size, 3, none⟩ = some (.int .i64 v.w)) ∧ (∀ x : Grow W, x.w.cell? ⟨w1.heap.size, 4, none⟩ = some (.int .i64 v.a)) ∧ (∀ x : Grow W, x.w.cell? ⟨w1.heap.size, 5, none⟩ = some (.int .i64 v.b)) ∧ (∀ x : Grow W, x.w.cell? ⟨w1.heap.size, 6, none⟩ = some (.int .i64 v.c)) ∧ (∀ x : Grow W, x.w.cell? ⟨w1.heap.size, 7, none⟩ = some (.int .i64 v.d)) :=
    ⟨fun x => (G x).1, fun x => (G x).2.1, fun x => (G x).2.2.1, fun x => (G x).2.2.2.1, fun x => (G x).2.2.2.2.1, fun x => (G x).2.2.2.2.2.1, fun x => (G x).2.2.2.2.2.2.1, fun x => (G x).2.2.2.2.2.2.2⟩
  have HW := Lib.hid hW
  clear hW G
  have ne := Grow.ne W
  refine wp_region_grow (by kernel_rfl) (by kernel_rfl) ?_
  repeat (go_big_quiet_step ((go_at_call 83; with_reducible exact Grow.calls (HH.out _))))
  refine wpQuiet_nil ?_
  rintro _ ⟨x, rfl⟩
  go_wp2
  go_ret
  refine ⟨rfl, ?_⟩
  have h1 := bstep ((Below.refl w.heap.size w).alloc (Nat.le_refl _) (Obj.cells #[.int .i64 v.x, .int .i64 v.y, .int .i64 v.z, .int .i64 v.w, .int .i64 v.a, .int .i64 v.b, .int .i64 v.c, .int .i64 v.d] 74)) (by simp) HB1.out
  have h2 := h1.alloc h1.size (Obj.cells #[.int .i64 v.x, .int .i64 v.y, .int .i64 v.z, .int .i64 v.w, .int .i64 v.a, .int .i64 v.b, .int .i64 v.c, .int .i64 v.d] 128)
  rw [HW.out] at h2
  exact bstep h2 h2.size x.below

structure V.ok (v : V) : Prop where
  x : -32768 ≤ v.x ∧ v.x ≤ 32768
  y : -32768 ≤ v.y ∧ v.y ≤ 32768
  z : -32768 ≤ v.z ∧ v.z ≤ 32768
  w : 1 ≤ v.w ∧ v.w ≤ 32768
  a : -4096 ≤ v.a ∧ v.a ≤ 4096
  b : -4096 ≤ v.b ∧ v.b ≤ 4096
  c : -4096 ≤ v.c ∧ v.c ≤ 4096
  d : -4096 ≤ v.d ∧ v.d ≤ 4096

set_option maxRecDepth 100000 in
theorem rightB_iff (v : V) : rightB v = true ↔ v.ok := by
  constructor
  · intro h
    simp only [rightB, sameV, decide_eq_true_eq] at h
    have hx := congrArg V.x h
    have hy := congrArg V.y h
    have hz := congrArg V.z h
    have hw := congrArg V.w h
    have ha := congrArg V.a h
    have hb := congrArg V.b h
    have hc := congrArg V.c h
    have hd := congrArg V.d h
    simp only [heldV] at hx hy hz hw ha hb hc hd
    exact ⟨by omega, by omega, by omega, by omega, by omega, by omega, by omega, by omega⟩
  · rintro ⟨hx, hy, hz, hw, ha, hb, hc, hd⟩
    have h : v = heldV v := by
      obtain ⟨x, y, z, w, a, b, c, d⟩ := v
      simp only [heldV, V.mk.injEq]
      simp only at hx hy hz hw ha hb hc hd
      refine ⟨by omega, by omega, by omega, by omega, by omega, by omega, by omega, by omega⟩
    simp only [rightB, sameV, decide_eq_true_eq]
    exact h
set_option maxRecDepth 100000 in
theorem rightB_ok {v : V} (h : v.ok) : rightB v = true := (rightB_iff v).2 h
set_option maxRecDepth 100000 in
theorem rightB_no {v : V} (h : ¬ v.ok) : rightB v = false := by
  cases e : rightB v
  · rfl
  · exact absurd ((rightB_iff v).1 e) h
set_option maxRecDepth 100000 in
theorem V.ok.sm {v : V} (h : v.ok) : v.sm := by
  obtain ⟨hx, hy, hz, hw, ha, hb, hc, hd⟩ := h
  exact ⟨by omega, by omega, by omega, by omega, by omega, by omega, by omega, by omega⟩
end Go.Proofs.YtfmmfaeognoleaaGreat.U
/-
  The contracts of glazierref04.Fit (a vertex that may be, of any one) and of the example at the head of all statements.
-/
namespace Go.Proofs.YtfmmfaeognoleaaGreat.U
open Go.RowKit
attribute [local go_sem ↓] Go.wp_at_zero Go.wp_at_succ
attribute [local go_sem high] eql36
attribute [local go_sem] guard36

/-- Numbers that an int holds. -/
structure V.i64 (v : V) : Prop where
  x : -9223372036854775808 ≤ v.x ∧ v.x ≤ 9223372036854775807
  y : -9223372036854775808 ≤ v.y ∧ v.y ≤ 9223372036854775807
  z : -9223372036854775808 ≤ v.z ∧ v.z ≤ 9223372036854775807
  w : -9223372036854775808 ≤ v.w ∧ v.w ≤ 9223372036854775807
  a : -9223372036854775808 ≤ v.a ∧ v.a ≤ 9223372036854775807
  b : -9223372036854775808 ≤ v.b ∧ v.b ≤ 9223372036854775807
  c : -9223372036854775808 ≤ v.c ∧ v.c ≤ 9223372036854775807
  d : -9223372036854775808 ≤ v.d ∧ v.d ≤ 9223372036854775807

set_option maxRecDepth 100000 in
theorem tmod_bd (n m : Int) (hm : 0 < m) : -m < n.tmod m ∧ n.tmod m < m :=
  ⟨Int.lt_tmod_of_pos n hm, Int.tmod_lt_of_pos n hm⟩

def fitW (n : Int) : Int := 1 + (if n.tmod 32768 < 0 then -(n.tmod 32768) else n.tmod 32768)
def fitV (v : V) : V := ⟨v.x.tmod 32769, v.y.tmod 32769, v.z.tmod 32769, fitW v.w, v.a.tmod 4097, v.b.tmod 4097, v.c.tmod 4097, v.d.tmod 4097⟩
set_option maxRecDepth 100000 in
theorem fitV_ok (v : V) : (fitV v).ok := by
  have hx := tmod_bd v.x 32769 (by decide)
  have hy := tmod_bd v.y 32769 (by decide)
  have hz := tmod_bd v.z 32769 (by decide)
  have hw := tmod_bd v.w 32768 (by decide)
  have ha := tmod_bd v.a 4097 (by decide)
  have hb := tmod_bd v.b 4097 (by decide)
  have hc := tmod_bd v.c 4097 (by decide)
  have hd := tmod_bd v.d 4097 (by decide)
  refine ⟨?_, ?_, ?_, ?_, ?_, ?_, ?_, ?_⟩ <;> simp only [fitV, fitW] <;> (try split) <;> omega

set_option maxRecDepth 100000 in
set_option maxHeartbeats 2000000 in
theorem fit_any (v : V) (w : World) :
    Calls Tryz.prog 33 #[.agg #[.int .i64 v.x, .int .i64 v.y, .int .i64 v.z, .int .i64 v.w, .int .i64 v.a, .int .i64 v.b, .int .i64 v.c, .int .i64 v.d]] w fun e w' => e = .returned (.agg #[.int .i64 (fitV v).x, .int .i64 (fitV v).y, .int .i64 (fitV v).z, .int .i64 (fitV v).w, .int .i64 (fitV v).a, .int .i64 (fitV v).b, .int .i64 (fitV v).c, .int .i64 (fitV v).d]) ∧ Below w.heap.size w w' := by
  have hw := tmod_bd v.w 32768 (by decide)
  have hb : ∀ o o' o'', Below w.heap.size w (((w.alloc o).alloc o').alloc o'') := fun o o' o'' => (((Below.refl _ _).alloc (Nat.le_refl _) o).alloc (by simp) o').alloc (by simp; omega) o''
  have HB := Lib.hid hb
  clear hb
  by_cases hneg : v.w.tmod 32768 < 0
  · have hfw : fitW v.w = 1 + -(v.w.tmod 32768) := by unfold fitW; rw [if_pos hneg]
    go_enter Tryz.func33, Tryz.ntmps33
    go_wp2
    refine wp_loop_rounds 5 ?_
    rw [rounds_succ]
    go_wp2
    rw [rounds_succ]
    go_wp2
    rw [rounds_succ]
    go_wp2
    rw [rounds_succ]
    go_wp2
    rw [rounds_succ]
    go_wp2
    refine bodyPost_ret (v := .agg #[.int .i64 (fitV v).x, .int .i64 (fitV v).y, .int .i64 (fitV v).z, .int .i64 (fitV v).w, .int .i64 (fitV v).a, .int .i64 (fitV v).b, .int .i64 (fitV v).c, .int .i64 (fitV v).d]) (by simp [results, Tryz.results33, go_sem, fitV, hfw]) rfl ⟨rfl, ?_⟩
    exact HB.out _ _ _
  · have hfw : fitW v.w = 1 + v.w.tmod 32768 := by unfold fitW; rw [if_neg hneg]
    go_enter Tryz.func33, Tryz.ntmps33
    go_wp2
    refine wp_loop_rounds 5 ?_
    rw [rounds_succ]
    go_wp2
    rw [rounds_succ]
    go_wp2
    rw [rounds_succ]
    go_wp2
    rw [rounds_succ]
    go_wp2
    rw [rounds_succ]
    go_wp2
    refine bodyPost_ret (v := .agg #[.int .i64 (fitV v).x, .int .i64 (fitV v).y, .int .i64 (fitV v).z, .int .i64 (fitV v).w, .int .i64 (fitV v).a, .int .i64 (fitV v).b, .int .i64 (fitV v).c, .int .i64 (fitV v).d]) (by simp [results, Tryz.results33, go_sem, fitV, hfw]) rfl ⟨rfl, ?_⟩
    exact HB.out _ _ _
end Go.Proofs.YtfmmfaeognoleaaGreat.U
/-
  The contracts of glazierref04's Dist, Small and Right.
-/
namespace Go.Proofs.YtfmmfaeognoleaaGreat.U
open Go.RowKit
attribute [local go_sem ↓] Go.wp_at_zero Go.wp_at_succ

set_option maxRecDepth 100000 in
theorem within_any (n : Int) (b : Bool) (hb : decide (-32768 ≤ n ∧ n ≤ 32768) = b) (w : World) :
    Calls Tryz.prog 76 #[.int .i64 n, .int .i64 32768] w fun e w' => e = .returned (.bool b) ∧ w = w' := by
  by_cases h0 : -32768 ≤ n
  · by_cases h1 : n ≤ 32768
    · obtain rfl : b = true := by rw [← hb]; simp; omega
      clear hb
      go_enter Tryz.func76, Tryz.ntmps76
      go_wp2
      go_ret
      exact ⟨by simp [*], rfl⟩
    · obtain rfl : b = false := by rw [← hb]; simp; omega
      clear hb
      go_enter Tryz.func76, Tryz.ntmps76
      go_wp2
      go_ret
      exact ⟨by simp [*], rfl⟩
  · obtain rfl : b = false := by rw [← hb]; simp; omega
    clear hb
    go_enter Tryz.func76, Tryz.ntmps76
    go_wp2
    go_ret
    exact ⟨by simp [*], rfl⟩

set_option maxRecDepth 100000 in
set_option maxHeartbeats 4000000 in
theorem rright_attr (v : V) (h : ¬ ((-4096 ≤ v.a ∧ v.a ≤ 4096) ∧ (-4096 ≤ v.b ∧ v.b ≤ 4096) ∧ (-4096 ≤ v.c ∧ v.c ≤ 4096) ∧ (-4096 ≤ v.d ∧ v.d ≤ 4096))) (w : World) :
    Calls Tryz.prog 38 #[.agg #[.int .i64 v.x, .int .i64 v.y, .int .i64 v.z, .int .i64 v.w, .int .i64 v.a, .int .i64 v.b, .int .i64 v.c, .int .i64 v.d]] w fun e w' => e = .returned (.bool false) ∧ Below w.heap.size w w' := by
  have hb : ∀ o, Below w.heap.size w (w.alloc o) := fun o => (Below.refl _ _).alloc (Nat.le_refl _) o
  have HB := Lib.hid hb
  clear hb
  by_cases la : v.a < -4096
  · clear h
    go_enter Tryz.func38, Tryz.ntmps38
    go_wp2
    refine wp_loop_rounds 5 ?_
    rw [rounds_succ]
    go_wp2
    go_ret
    exact ⟨rfl, HB.out _⟩
  by_cases ua : 4096 < v.a
  · clear h
    go_enter Tryz.func38, Tryz.ntmps38
    go_wp2
    refine wp_loop_rounds 5 ?_
    rw [rounds_succ]
    go_wp2
    go_ret
    exact ⟨rfl, HB.out _⟩
  by_cases lb : v.b < -4096
  · clear h
    go_enter Tryz.func38, Tryz.ntmps38
    go_wp2
    refine wp_loop_rounds 5 ?_
    rw [rounds_succ]
    go_wp2
    rw [rounds_succ]
    go_wp2
    go_ret
    exact ⟨rfl, HB.out _⟩
  by_cases ub : 4096 < v.b
  · clear h
    go_enter Tryz.func38, Tryz.ntmps38
    go_wp2
    refine wp_loop_rounds 5 ?_
    rw [rounds_succ]
    go_wp2
    rw [rounds_succ]
    go_wp2
    go_ret
    exact ⟨rfl, HB.out _⟩
  by_cases lc : v.c < -4096
  · clear h
    go_enter Tryz.func38, Tryz.ntmps38
    go_wp2
    refine wp_loop_rounds 5 ?_
    rw [rounds_succ]
    go_wp2
    rw [rounds_succ]
    go_wp2
    rw [rounds_succ]
    go_wp2
    go_ret
    exact ⟨rfl, HB.out _⟩
  by_cases uc : 4096 < v.c
  · clear h
    go_enter Tryz.func38, Tryz.ntmps38
    go_wp2
    refine wp_loop_rounds 5 ?_
    rw [rounds_succ]
    go_wp2
    rw [rounds_succ]
    go_wp2
    rw [rounds_succ]
    go_wp2
    go_ret
    exact ⟨rfl, HB.out _⟩
  by_cases ld : v.d < -4096
  · clear h
    go_enter Tryz.func38, Tryz.ntmps38
    go_wp2
    refine wp_loop_rounds 5 ?_
    rw [rounds_succ]
    go_wp2
    rw [rounds_succ]
    go_wp2
    rw [rounds_succ]
    go_wp2
    rw [rounds_succ]
    go_wp2
    go_ret
    exact ⟨rfl, HB.out _⟩
  by_cases ud : 4096 < v.d
  · clear h
    go_enter Tryz.func38, Tryz.ntmps38
    go_wp2
    refine wp_loop_rounds 5 ?_
    rw [rounds_succ]
    go_wp2
    rw [rounds_succ]
    go_wp2
    rw [rounds_succ]
    go_wp2
    rw [rounds_succ]
    go_wp2
    go_ret
    exact ⟨rfl, HB.out _⟩
  exact absurd ⟨⟨by omega, by omega⟩, ⟨by omega, by omega⟩, ⟨by omega, by omega⟩, ⟨by omega, by omega⟩⟩ h

set_option maxRecDepth 100000 in
set_option maxHeartbeats 4000000 in
theorem rright_rest (v : V) (g x y z : Bool) (ha : -4096 ≤ v.a ∧ v.a ≤ 4096) (hb : -4096 ≤ v.b ∧ v.b ≤ 4096) (hc : -4096 ≤ v.c ∧ v.c ≤ 4096) (hd : -4096 ≤ v.d ∧ v.d ≤ 4096)
    (hx : decide (-32768 ≤ v.x ∧ v.x ≤ 32768) = x) (hy : decide (-32768 ≤ v.y ∧ v.y ≤ 32768) = y) (hz : decide (-32768 ≤ v.z ∧ v.z ≤ 32768) = z) (hg : (x && y && z && decide (1 ≤ v.w) && decide (v.w ≤ 32768)) = g) (w : World) :
    Calls Tryz.prog 38 #[.agg #[.int .i64 v.x, .int .i64 v.y, .int .i64 v.z, .int .i64 v.w, .int .i64 v.a, .int .i64 v.b, .int .i64 v.c, .int .i64 v.d]] w fun e w' => e = .returned (.bool g) ∧ Below w.heap.size w w' := by
  have hB : ∀ o, Below w.heap.size w (w.alloc o) := fun o => (Below.refl _ _).alloc (Nat.le_refl _) o
  have HB := Lib.hid hB
  have WX := Lib.hid (within_any v.x x hx)
  have WY := Lib.hid (within_any v.y y hy)
  have WZ := Lib.hid (within_any v.z z hz)
  have HG := Lib.hid hg
  clear hB hx hy hz hg
  go_enter Tryz.func38, Tryz.ntmps38
  go_wp2
  refine wp_loop_rounds 5 ?_
  rw [rounds_succ]
  go_wp2
  rw [rounds_succ]
  go_wp2
  rw [rounds_succ]
  go_wp2
  rw [rounds_succ]
  go_wp2
  rw [rounds_succ]
  go_wp2_with fail
  with_reducible refine (WX.out _).mono ?_
  rintro e w1 ⟨rfl, rfl⟩
  go_wp2_with fail
  with_reducible refine (WY.out _).mono ?_
  rintro e w1 ⟨rfl, rfl⟩
  go_wp2_with fail
  with_reducible refine (WZ.out _).mono ?_
  rintro e w1 ⟨rfl, rfl⟩
  cases x <;> cases y <;> cases z
  all_goals
    go_wp2
  all_goals
    go_ret
    exact ⟨by rw [← HG.out]; simp [*] <;> omega, HB.out _⟩
set_option maxRecDepth 100000 in
theorem rright_any (v : V) (w : World) : Calls Tryz.prog 38 #[.agg #[.int .i64 v.x, .int .i64 v.y, .int .i64 v.z, .int .i64 v.w, .int .i64 v.a, .int .i64 v.b, .int .i64 v.c, .int .i64 v.d]] w fun e w' => e = .returned (.bool (rightB v)) ∧ Below w.heap.size w w' := by
  by_cases h : (-4096 ≤ v.a ∧ v.a ≤ 4096) ∧ (-4096 ≤ v.b ∧ v.b ≤ 4096) ∧ (-4096 ≤ v.c ∧ v.c ≤ 4096) ∧ (-4096 ≤ v.d ∧ v.d ≤ 4096)
  · refine rright_rest v (rightB v) _ _ _ h.1 h.2.1 h.2.2.1 h.2.2.2 rfl rfl rfl ?_ w
    rw [Bool.eq_iff_iff, rightB_iff]
    simp only [Bool.and_eq_true, decide_eq_true_eq]
    constructor
    · rintro ⟨⟨⟨⟨hx, hy⟩, hz⟩, h1⟩, h2⟩
      exact ⟨hx, hy, hz, ⟨h1, h2⟩, h.1, h.2.1, h.2.2.1, h.2.2.2⟩
    · intro k
      exact ⟨⟨⟨⟨k.x, k.y⟩, k.z⟩, k.w.1⟩, k.w.2⟩
  · rw [rightB_no (fun k => h ⟨k.a, k.b, k.c, k.d⟩)]
    exact rright_attr v h w
end Go.Proofs.YtfmmfaeognoleaaGreat.U
/-
  Scenes: rows whose elements lead to other rows, what a scene's value is, what its slices read, and the block that holds one.
-/
namespace Go.Proofs.YtfmmfaeognoleaaGreat
open Go.RowKit
attribute [local go_sem ↓] Go.wp_at_zero Go.wp_at_succ

/-- What lies somewhere: its slice begins at A and has room for c. -/
structure Lo (α : Type) where
  x : α
  A : Option Addr
  c : Nat
structure Tr where
  i : Int
  a : Int
  b : Int
  c : Int
structure Dr where
  id : Int
  prog : Int
  tex : Int
  op : Bool
  tris : List Tr
def EV : Elem U.V where
  t := 74
  size := 8
  cells v := [.int .i64 v.x, .int .i64 v.y, .int .i64 v.z, .int .i64 v.w, .int .i64 v.a, .int .i64 v.b, .int .i64 v.c, .int .i64 v.d]
  pos := by decide
  len _ := rfl
  one v u hu := by
    simp only [List.mem_cons, List.not_mem_nil, or_false] at hu
    rcases hu with rfl | rfl | rfl | rfl | rfl | rfl | rfl | rfl <;> rfl
def ET : Elem (Lo Tx) where
  t := 47
  size := 3
  cells l := [.int .i64 l.x.w, .int .i64 l.x.h, .slice l.A l.x.px.length l.c]
  pos := by decide
  len _ := rfl
  one v u hu := by
    simp only [List.mem_cons, List.not_mem_nil, or_false] at hu
    rcases hu with rfl | rfl | rfl <;> rfl
def EP : Elem (Lo (List C.In)) where
  t := 48
  size := 1
  cells l := [.slice l.A l.x.length l.c]
  pos := by decide
  len _ := rfl
  one v u hu := by
    simp only [List.mem_cons, List.not_mem_nil, or_false] at hu
    rcases hu with rfl <;> rfl
def ER : Elem Tr where
  t := 86
  size := 4
  cells t := [.int .i64 t.i, .int .i64 t.a, .int .i64 t.b, .int .i64 t.c]
  pos := by decide
  len _ := rfl
  one v u hu := by
    simp only [List.mem_cons, List.not_mem_nil, or_false] at hu
    rcases hu with rfl | rfl | rfl | rfl <;> rfl
def ED : Elem (Lo Dr) where
  t := 51
  size := 5
  cells l := [.int .i64 l.x.id, .int .i64 l.x.prog, .int .i64 l.x.tex, .bool l.x.op, .slice l.A l.x.tris.length l.c]
  pos := by decide
  len _ := rfl
  one v u hu := by
    simp only [List.mem_cons, List.not_mem_nil, or_false] at hu
    rcases hu with rfl | rfl | rfl | rfl | rfl <;> rfl
def EN : Elem Int where
  t := 3
  size := 1
  cells n := [.int .i64 n]
  pos := by decide
  len _ := rfl
  one v u hu := by
    simp only [List.mem_cons, List.not_mem_nil, or_false] at hu
    rcases hu with rfl <;> rfl
theorem atV {w : World} {b o : Nat} {v : U.V} (h : AtE EV w b o v) : w.cell? ⟨b, o, none⟩ = some (.int .i64 v.x) ∧ w.cell? ⟨b, o + 1, none⟩ = some (.int .i64 v.y) ∧ w.cell? ⟨b, o + 2, none⟩ = some (.int .i64 v.z) ∧ w.cell? ⟨b, o + 3, none⟩ = some (.int .i64 v.w) ∧ w.cell? ⟨b, o + 4, none⟩ = some (.int .i64 v.a) ∧ w.cell? ⟨b, o + 5, none⟩ = some (.int .i64 v.b) ∧ w.cell? ⟨b, o + 6, none⟩ = some (.int .i64 v.c) ∧ w.cell? ⟨b, o + 7, none⟩ = some (.int .i64 v.d) :=
  ⟨h 0 _ rfl, h 1 _ rfl, h 2 _ rfl, h 3 _ rfl, h 4 _ rfl, h 5 _ rfl, h 6 _ rfl, h 7 _ rfl⟩
theorem atT {w : World} {b o : Nat} {l : Lo Tx} (h : AtE ET w b o l) : w.cell? ⟨b, o, none⟩ = some (.int .i64 l.x.w) ∧ w.cell? ⟨b, o + 1, none⟩ = some (.int .i64 l.x.h) ∧ w.cell? ⟨b, o + 2, none⟩ = some (.slice l.A l.x.px.length l.c) :=
  ⟨h 0 _ rfl, h 1 _ rfl, h 2 _ rfl⟩
theorem atP {w : World} {b o : Nat} {l : Lo (List C.In)} (h : AtE EP w b o l) : w.cell? ⟨b, o, none⟩ = some (.slice l.A l.x.length l.c) := h 0 _ rfl
theorem atR {w : World} {b o : Nat} {t : Tr} (h : AtE ER w b o t) : w.cell? ⟨b, o, none⟩ = some (.int .i64 t.i) ∧ w.cell? ⟨b, o + 1, none⟩ = some (.int .i64 t.a) ∧ w.cell? ⟨b, o + 2, none⟩ = some (.int .i64 t.b) ∧ w.cell? ⟨b, o + 3, none⟩ = some (.int .i64 t.c) :=
  ⟨h 0 _ rfl, h 1 _ rfl, h 2 _ rfl, h 3 _ rfl⟩
theorem atD {w : World} {b o : Nat} {l : Lo Dr} (h : AtE ED w b o l) : w.cell? ⟨b, o, none⟩ = some (.int .i64 l.x.id) ∧ w.cell? ⟨b, o + 1, none⟩ = some (.int .i64 l.x.prog) ∧ w.cell? ⟨b, o + 2, none⟩ = some (.int .i64 l.x.tex) ∧ w.cell? ⟨b, o + 3, none⟩ = some (.bool l.x.op) ∧ w.cell? ⟨b, o + 4, none⟩ = some (.slice l.A l.x.tris.length l.c) :=
  ⟨h 0 _ rfl, h 1 _ rfl, h 2 _ rfl, h 3 _ rfl, h 4 _ rfl⟩
theorem atN {w : World} {b o : Nat} {n : Int} (h : AtE EN w b o n) : w.cell? ⟨b, o, none⟩ = some (.int .i64 n) := h 0 _ rfl

/-- A scene, with where its rows lie. -/
structure Sc where
  w : Int
  h : Int
  k : Col
  vs : List U.V
  vA : Option Addr
  vc : Nat
  ts : List (Lo Tx)
  tA : Option Addr
  tc : Nat
  ps : List (Lo (List C.In))
  pA : Option Addr
  pc : Nat
  ds : List (Lo Dr)
  dA : Option Addr
  dc : Nat
/-- Its slices read so, below block B. -/
structure Sc.at (s : Sc) (w : World) (B : Nat) : Prop where
  v : Es EV w B s.vA s.vs
  t : Es ET w B s.tA s.ts
  tx : ∀ l ∈ s.ts, Es EC w B l.A l.x.px
  p : Es EP w B s.pA s.ps
  px : ∀ l ∈ s.ps, Es C.EI w B l.A l.x
  d : Es ED w B s.dA s.ds
  dx : ∀ l ∈ s.ds, Es ER w B l.A l.x.tris
structure Tr.ok (t : Tr) : Prop where
  i : I64 t.i
  a : I64 t.a
  b : I64 t.b
  c : I64 t.c
structure Dr.ok (d : Dr) : Prop where
  id : I64 d.id
  prog : I64 d.prog
  tex : I64 d.tex
  tris : ∀ t ∈ d.tris, t.ok
structure Sc.ok (s : Sc) : Prop where
  w : I64 s.w
  h : I64 s.h
  k : s.k.ok
  vs : ∀ v ∈ s.vs, v.i64
  ts : ∀ l ∈ s.ts, I64 l.x.w ∧ I64 l.x.h ∧ l.x.ok ∧ l.x.px.length ≤ l.c
  ps : ∀ l ∈ s.ps, (∀ x ∈ l.x, x.ok) ∧ l.x.length ≤ l.c
  ds : ∀ l ∈ s.ds, l.x.ok ∧ l.x.tris.length ≤ l.c
  vc : s.vs.length ≤ s.vc
  tc : s.ts.length ≤ s.tc
  pc : s.ps.length ≤ s.pc
  dc : s.ds.length ≤ s.dc
/-- Not too much of anything. -/
structure Sc.few (s : Sc) : Prop where
  vs : s.vs.length ≤ 100000
  ts : s.ts.length ≤ 100000
  tx : ∀ l ∈ s.ts, l.x.px.length ≤ 100000
  ps : s.ps.length ≤ 100000
  px : ∀ l ∈ s.ps, l.x.length ≤ 100000
  ds : s.ds.length ≤ 100000
  dx : ∀ l ∈ s.ds, l.x.tris.length ≤ 100000
section
variable {s : Sc} {w w' : World} {B B' g : Nat}
theorem Sc.at.below (h : s.at w B) (hb : Below B w w') : s.at w' B :=
  ⟨h.v.below hb, h.t.below hb, fun l hl => (h.tx l hl).below hb, h.p.below hb, fun l hl => (h.px l hl).below hb, h.d.below hb, fun l hl => (h.dx l hl).below hb⟩
theorem Sc.at.more (h : s.at w B) (hB : B ≤ B') : s.at w B' :=
  ⟨h.v.more hB, h.t.more hB, fun l hl => (h.tx l hl).more hB, h.p.more hB, fun l hl => (h.px l hl).more hB, h.d.more hB, fun l hl => (h.dx l hl).more hB⟩
theorem Sc.at.sharp (h : s.at w B) : s.at w w.heap.size :=
  ⟨h.v.sharp, h.t.sharp, fun l hl => (h.tx l hl).sharp, h.p.sharp, fun l hl => (h.px l hl).sharp, h.d.sharp, fun l hl => (h.dx l hl).sharp⟩
/-- The block that holds a scene. -/
def scB (s : Sc) : Obj := .cells #[.int .i64 s.w, .int .i64 s.h, .int .u8 s.k.r, .int .u8 s.k.g, .int .u8 s.k.b, .int .u8 s.k.a, .slice s.vA s.vs.length s.vc, .slice s.tA s.ts.length s.tc, .slice s.pA s.ps.length s.pc, .slice s.dA s.ds.length s.dc] 29 (0, 0)
theorem scB_cell (h : w.heap[g]? = some (scB s)) : w.cell? ⟨g, 0, none⟩ = some (.int .i64 s.w) ∧ w.cell? ⟨g, 1, none⟩ = some (.int .i64 s.h) ∧ w.cell? ⟨g, 2, none⟩ = some (.int .u8 s.k.r) ∧ w.cell? ⟨g, 3, none⟩ = some (.int .u8 s.k.g) ∧ w.cell? ⟨g, 4, none⟩ = some (.int .u8 s.k.b) ∧ w.cell? ⟨g, 5, none⟩ = some (.int .u8 s.k.a) ∧ w.cell? ⟨g, 6, none⟩ = some (.slice s.vA s.vs.length s.vc) ∧ w.cell? ⟨g, 7, none⟩ = some (.slice s.tA s.ts.length s.tc) ∧ w.cell? ⟨g, 8, none⟩ = some (.slice s.pA s.ps.length s.pc) ∧ w.cell? ⟨g, 9, none⟩ = some (.slice s.dA s.ds.length s.dc) := by
  unfold scB at h
  exact ⟨Joins.cell_of_block h 0, Joins.cell_of_block h 1, Joins.cell_of_block h 2, Joins.cell_of_block h 3, Joins.cell_of_block h 4, Joins.cell_of_block h 5, Joins.cell_of_block h 6, Joins.cell_of_block h 7, Joins.cell_of_block h 8, Joins.cell_of_block h 9⟩
theorem scB_free (h : w.heap[g]? = some (scB s)) : ∀ o, w.frozen? ⟨g, o, none⟩ = false := by
  unfold scB at h
  intro o
  simp [World.frozen?, h]
theorem scB_lt (h : w.heap[g]? = some (scB s)) : g < w.heap.size := (Array.getElem?_eq_some_iff.1 h).1
theorem scB_keep (h : w.heap[g]? = some (scB s)) (k : Below B w w') (hg : g < B) : w'.heap[g]? = some (scB s) := (k.block _ hg).trans h
theorem scB_alloc (o : Obj) (h : w.heap[g]? = some (scB s)) : (w.alloc o).heap[g]? = some (scB s) := (Below.heap_alloc _ _ _ (scB_lt h)).trans h
end
/-- The block that holds a draw. -/
def drB (l : Lo Dr) : Obj := .cells #[.int .i64 l.x.id, .int .i64 l.x.prog, .int .i64 l.x.tex, .bool l.x.op, .slice l.A l.x.tris.length l.c] 51 (0, 0)
theorem drB_cell {w : World} {g : Nat} {l : Lo Dr} (h : w.heap[g]? = some (drB l)) : w.cell? ⟨g, 0, none⟩ = some (.int .i64 l.x.id) ∧ w.cell? ⟨g, 1, none⟩ = some (.int .i64 l.x.prog) ∧ w.cell? ⟨g, 2, none⟩ = some (.int .i64 l.x.tex) ∧ w.cell? ⟨g, 3, none⟩ = some (.bool l.x.op) ∧ w.cell? ⟨g, 4, none⟩ = some (.slice l.A l.x.tris.length l.c) := by
  unfold drB at h
  exact ⟨Joins.cell_of_block h 0, Joins.cell_of_block h 1, Joins.cell_of_block h 2, Joins.cell_of_block h 3, Joins.cell_of_block h 4⟩
theorem drB_free {w : World} {g : Nat} {l : Lo Dr} (h : w.heap[g]? = some (drB l)) : ∀ o, w.frozen? ⟨g, o, none⟩ = false := by
  unfold drB at h
  intro o
  simp [World.frozen?, h]
theorem drB_lt {w : World} {g : Nat} {l : Lo Dr} (h : w.heap[g]? = some (drB l)) : g < w.heap.size := (Array.getElem?_eq_some_iff.1 h).1
theorem new_below (w : World) (o : Obj) : Below w.heap.size w (w.alloc o) := (Below.refl _ _).alloc (Nat.le_refl _) _
theorem get_lt {α : Type} {l : List α} {k : Nat} (h : k < l.length) : ∃ u, l[k]? = some u := ⟨_, List.getElem?_eq_getElem h⟩
end Go.Proofs.YtfmmfaeognoleaaGreat
/-
  What is asked of scenes, number by number (pure), and the contracts of the small functions: within, isId, isPlace, fewTris, mayRun, drawId, triId, colour.Right.
-/
namespace Go.Proofs.YtfmmfaeognoleaaGreat
open Go.RowKit
attribute [local go_sem ↓] Go.wp_at_zero Go.wp_at_succ

def inB (n a b : Int) : Bool := decide (a ≤ n ∧ n ≤ b)
theorem within_any (n a b : Int) (w : World) :
    Calls Tryz.prog 42 #[.int .i64 n, .int .i64 a, .int .i64 b] w fun e w' => e = .returned (.bool (inB n a b)) ∧ w = w' := by
  unfold inB
  by_cases h1 : a ≤ n
  · by_cases h2 : n ≤ b
    · have e : decide (a ≤ n ∧ n ≤ b) = true := by simp [h1, h2]
      rw [e]
      go_enter Tryz.func42, Tryz.ntmps42
      go_wp2
      go_ret
      exact ⟨rfl, rfl⟩
    · have e : decide (a ≤ n ∧ n ≤ b) = false := by simp [h2]
      rw [e]
      go_enter Tryz.func42, Tryz.ntmps42
      go_wp2
      go_ret
      exact ⟨rfl, rfl⟩
  · have e : decide (a ≤ n ∧ n ≤ b) = false := by simp [h1]
    rw [e]
    go_enter Tryz.func42, Tryz.ntmps42
    go_wp2
    go_ret
    exact ⟨rfl, rfl⟩
theorem isId_any (n : Int) (w : World) :
    Calls Tryz.prog 116 #[.int .i64 n] w fun e w' => e = .returned (.bool (inB n 0 9999)) ∧ w = w' := by
  have HW := Lib.hid (within_any n 0 9999)
  generalize inB n 0 9999 = r at *
  go_enter Tryz.func116, Tryz.ntmps116
  go_wp2_with fail
  with_reducible refine (HW.out _).mono ?_
  rintro e w' ⟨rfl, rfl⟩
  go_wp2
  go_ret
  exact ⟨rfl, rfl⟩
theorem isPlace63 (n : Int) (A : Option Addr) (m c : Nat) (hm : m ≤ 100000) (w : World) :
    Calls Tryz.prog 115 #[.int .i64 n, .slice A m c] w fun e w' => e = .returned (.bool (inB n 0 (m - 1))) ∧ w = w' := by
  have HW := Lib.hid (within_any n 0 (m - 1))
  have hw : IntKind.i64.wrap ((m : Int) - 1) = m - 1 := by rw [IntKind.wrap_i64]; omega
  generalize inB n 0 (m - 1) = r at *
  clear hm
  go_enter Tryz.func115, Tryz.ntmps115
  go_wp2_with fail
  with_reducible refine (HW.out _).mono ?_
  rintro e w' ⟨rfl, rfl⟩
  go_wp2
  go_ret
  exact ⟨rfl, rfl⟩
theorem isPlace66 (n : Int) (A : Option Addr) (m c : Nat) (hm : m ≤ 100000) (w : World) :
    Calls Tryz.prog 118 #[.int .i64 n, .slice A m c] w fun e w' => e = .returned (.bool (inB n 0 (m - 1))) ∧ w = w' := by
  have HW := Lib.hid (within_any n 0 (m - 1))
  have hw : IntKind.i64.wrap ((m : Int) - 1) = m - 1 := by rw [IntKind.wrap_i64]; omega
  generalize inB n 0 (m - 1) = r at *
  clear hm
  go_enter Tryz.func118, Tryz.ntmps118
  go_wp2_with fail
  with_reducible refine (HW.out _).mono ?_
  rintro e w' ⟨rfl, rfl⟩
  go_wp2
  go_ret
  exact ⟨rfl, rfl⟩
theorem isPlace74 (n : Int) (A : Option Addr) (m c : Nat) (hm : m ≤ 100000) (w : World) :
    Calls Tryz.prog 135 #[.int .i64 n, .slice A m c] w fun e w' => e = .returned (.bool (inB n 0 (m - 1))) ∧ w = w' := by
  have HW := Lib.hid (within_any n 0 (m - 1))
  have hw : IntKind.i64.wrap ((m : Int) - 1) = m - 1 := by rw [IntKind.wrap_i64]; omega
  generalize inB n 0 (m - 1) = r at *
  clear hm
  go_enter Tryz.func135, Tryz.ntmps135
  go_wp2_with fail
  with_reducible refine (HW.out _).mono ?_
  rintro e w' ⟨rfl, rfl⟩
  go_wp2
  go_ret
  exact ⟨rfl, rfl⟩
theorem drawId_any (l : Lo Dr) (w : World) :
    Calls Tryz.prog 88 #[.agg #[.int .i64 l.x.id, .int .i64 l.x.prog, .int .i64 l.x.tex, .bool l.x.op, .slice l.A l.x.tris.length l.c]] w fun e w' => e = .returned (.int .i64 l.x.id) ∧ Below w.heap.size w w' := by
  have HK := Lib.hid (new_below w)
  go_enter Tryz.func88, Tryz.ntmps88
  go_wp2
  go_ret
  exact ⟨rfl, HK.out _⟩
theorem triId_any (t : Tr) (w : World) :
    Calls Tryz.prog 90 #[.agg #[.int .i64 t.i, .int .i64 t.a, .int .i64 t.b, .int .i64 t.c]] w fun e w' => e = .returned (.int .i64 t.i) ∧ Below w.heap.size w w' := by
  have HK := Lib.hid (new_below w)
  go_enter Tryz.func90, Tryz.ntmps90
  go_wp2
  go_ret
  exact ⟨rfl, HK.out _⟩
theorem fewTris_any (l : Lo Dr) (w : World) :
    Calls Tryz.prog 81 #[.agg #[.int .i64 l.x.id, .int .i64 l.x.prog, .int .i64 l.x.tex, .bool l.x.op, .slice l.A l.x.tris.length l.c]] w fun e w' => e = .returned (.bool (decide (l.x.tris.length ≤ 32))) ∧ Below w.heap.size w w' := by
  have HK := Lib.hid (new_below w)
  generalize l.x.tris.length = n
  by_cases h : n ≤ 32
  · have h1 : (n : Int) ≤ 32 := by omega
    have e : decide (n ≤ 32) = true := by simp [h]
    rw [e]
    clear e h
    go_enter Tryz.func81, Tryz.ntmps81
    go_wp2
    go_ret
    exact ⟨rfl, HK.out _⟩
  · have h1 : ¬ (n : Int) ≤ 32 := by omega
    have e : decide (n ≤ 32) = false := by simp; omega
    rw [e]
    clear e h
    go_enter Tryz.func81, Tryz.ntmps81
    go_wp2
    go_ret
    exact ⟨rfl, HK.out _⟩
theorem mayRun_any (l : List C.In) (A : Option Addr) (c : Nat) (hok : ∀ x ∈ l, x.ok) (w : World) (he : Es C.EI w w.heap.size A l) :
    Calls Tryz.prog 50 #[.slice A l.length c] w fun e w' => e = .returned (.bool (decide (C.chk l = 0))) ∧ Below w.heap.size w w' := by
  have HC := Lib.hid (C.check_any l A c hok w he)
  have hr : C.chk l = 0 ∨ C.chk l = 23 := by unfold C.chk; split; exact .inr rfl; split; exact .inl rfl; exact .inr rfl
  clear he hok
  rcases hr with h | h
  · rw [h] at HC ⊢
    clear h
    go_enter Tryz.func50, Tryz.ntmps50
    go_wp2_with fail
    with_reducible refine HC.out.mono ?_
    rintro e w' ⟨rfl, hb⟩
    have HB := Lib.hid hb
    clear hb
    go_wp2
    go_ret
    exact ⟨rfl, HB.out⟩
  · rw [h] at HC ⊢
    clear h
    go_enter Tryz.func50, Tryz.ntmps50
    go_wp2_with fail
    with_reducible refine HC.out.mono ?_
    rintro e w' ⟨rfl, hb⟩
    have HB := Lib.hid hb
    clear hb
    go_wp2
    go_ret
    exact ⟨rfl, HB.out⟩
theorem cright_any (c : Col) (w : World) :
    Calls Tryz.prog 43 #[.agg #[.int .u8 c.r, .int .u8 c.g, .int .u8 c.b, .int .u8 c.a]] w fun e w' => e = .returned (.bool (rightB c)) ∧ Below w.heap.size w w' := by
  have HK := Lib.hid (new_below w)
  unfold rightB
  by_cases h1 : c.r ≤ c.a
  · by_cases h2 : c.g ≤ c.a
    · by_cases h3 : c.b ≤ c.a
      · have e : (decide (c.r ≤ c.a) && decide (c.g ≤ c.a) && decide (c.b ≤ c.a)) = true := by simp [h1, h2, h3]
        rw [e]
        clear e
        go_enter Tryz.func43, Tryz.ntmps43
        go_wp2
        go_ret
        exact ⟨rfl, HK.out _⟩
      · have e : (decide (c.r ≤ c.a) && decide (c.g ≤ c.a) && decide (c.b ≤ c.a)) = false := by simp [h1, h2, h3]
        rw [e]
        clear e
        go_enter Tryz.func43, Tryz.ntmps43
        go_wp2
        go_ret
        exact ⟨rfl, HK.out _⟩
    · have e : (decide (c.r ≤ c.a) && decide (c.g ≤ c.a) && decide (c.b ≤ c.a)) = false := by simp [h1, h2]
      rw [e]
      clear e
      go_enter Tryz.func43, Tryz.ntmps43
      go_wp2
      go_ret
      exact ⟨rfl, HK.out _⟩
  · have e : (decide (c.r ≤ c.a) && decide (c.g ≤ c.a) && decide (c.b ≤ c.a)) = false := by simp [h1]
    rw [e]
    clear e
    go_enter Tryz.func43, Tryz.ntmps43
    go_wp2
    go_ret
    exact ⟨rfl, HK.out _⟩
end Go.Proofs.YtfmmfaeognoleaaGreat
