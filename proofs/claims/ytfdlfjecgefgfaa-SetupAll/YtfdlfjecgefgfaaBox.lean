/-
  The contracts of setup.span, setup.Box, setup.Pixels, and of the example at the head of all statements.
-/
import Derived.Test.YtfdlfjecgefgfaaTie
import Derived.Test.YtfdlfjecgefgfaaCPix
namespace Go.Proofs.Ytfdlfjecgefgfaa
open Go.RowKit
attribute [local go_sem ↓] Go.wp_at_zero Go.wp_at_succ

theorem run_min3 (w : World) (ts : Array TypeId) (t : TypeId) (x y z : Int) :
    (Builtin.min_ ts t #[.int .i64 x, .int .i64 y, .int .i64 z]).run Try.prog w = .ok (.int .i64 (min x (min y z))) w := by
  have e : ∀ x y : Int, (if y < x then y else x) = min x y := by
    intro x y
    rw [Int.min_def]
    split <;> split <;> omega
  simp [Builtin.min_, Builtin.min2, e]
theorem run_max3 (w : World) (ts : Array TypeId) (t : TypeId) (x y z : Int) :
    (Builtin.max_ ts t #[.int .i64 x, .int .i64 y, .int .i64 z]).run Try.prog w = .ok (.int .i64 (max x (max y z))) w := by
  have e : ∀ x y : Int, (if y > x then y else x) = max x y := by
    intro x y
    rw [Int.max_def]
    split <;> split <;> omega
  simp [Builtin.max_, Builtin.max2, e]
attribute [local go_sem high] run_min3 run_max3

/-- From which pixel on three parts are along a side, and up to which. -/
def lo (a b c : Int) : Int := max (min a (min b c) / 16) 0
def hi (s a b c : Int) : Int := min (max a (max b c) / 16 + 1) s
def Bd (n : Int) : Prop := -1048576 ≤ n ∧ n ≤ 1048576

set_option maxHeartbeats 1000000 in
theorem span_any (s a b c : Int) (ha : Bd a) (hb : Bd b) (hc : Bd c) (w : World) :
    Calls Try.prog 29 #[.int .i64 s, .int .i64 a, .int .i64 b, .int .i64 c] w fun e w' => e = .returned (.tuple #[.int .i64 (lo a b c), .int .i64 (hi s a b c)]) ∧ w = w' := by
  unfold Bd at ha hb hc
  have h0 : Bd (min a (min b c)) := by unfold Bd; omega
  have h1 : Bd (max a (max b c)) := by unfold Bd; omega
  unfold lo hi
  unfold Bd at h0 h1
  obtain ⟨p, hp⟩ : ∃ p, min a (min b c) / 16 = p := ⟨_, rfl⟩
  obtain ⟨q, hq⟩ : ∃ q, max a (max b c) / 16 = q := ⟨_, rfl⟩
  have q0 : -100000 ≤ q ∧ q ≤ 100000 := by omega
  have HP := Lib.hid (C.pixel_any _ p (by omega) (by omega) hp)
  have HQ := Lib.hid (C.pixel_any _ q (by omega) (by omega) hq)
  rw [hp, hq]
  clear hp hq h0 h1 ha hb hc
  go_enter Try.func29, Try.ntmps29
  go_wp2_with (go_at_call 41; first | ((with_reducible refine (HP.out _).mono ?_); rintro e w' ⟨rfl, rfl⟩) | ((with_reducible refine (HQ.out _).mono ?_); rintro e w' ⟨rfl, rfl⟩))
  go_ret2
  exact ⟨rfl, rfl⟩

theorem P.sm.bx {v : P} (h : v.sm) : Bd v.x := by have := h.x; unfold Bd; omega
theorem P.sm.by {v : P} (h : v.sm) : Bd v.y := by have := h.y; unfold Bd; omega
set_option maxRecDepth 100000 in
set_option maxHeartbeats 1000000 in
theorem box_any (m k : Int) (a b c : P) (ha : a.sm) (hb : b.sm) (hc : c.sm) (w : World) :
    Calls Try.prog 14 #[.int .i64 m, .int .i64 k, .agg #[.int .i64 a.x, .int .i64 a.y, .int .i64 a.z, .int .i64 a.a, .int .i64 a.b, .int .i64 a.c, .int .i64 a.d, .int .i64 b.x, .int .i64 b.y, .int .i64 b.z, .int .i64 b.a, .int .i64 b.b, .int .i64 b.c, .int .i64 b.d, .int .i64 c.x, .int .i64 c.y, .int .i64 c.z, .int .i64 c.a, .int .i64 c.b, .int .i64 c.c, .int .i64 c.d]] w fun e w' => e = .returned (.tuple #[.int .i64 (lo a.x b.x c.x), .int .i64 (lo a.y b.y c.y), .int .i64 (hi m a.x b.x c.x), .int .i64 (hi k a.y b.y c.y)]) ∧ Below w.heap.size w w' := by
  have HK := Lib.hid fun o => ((Below.refl w.heap.size w).alloc (Nat.le_refl _) o)
  have HX := Lib.hid (span_any m a.x b.x c.x ha.bx hb.bx hc.bx)
  have HY := Lib.hid (span_any k a.y b.y c.y ha.by hb.by hc.by)
  clear ha hb hc
  generalize lo a.x b.x c.x = x0 at *
  generalize lo a.y b.y c.y = y0 at *
  generalize hi m a.x b.x c.x = x1 at *
  generalize hi k a.y b.y c.y = y1 at *
  go_enter Try.func14, Try.ntmps14
  go_wp2_with (go_at_call 29; first | ((with_reducible refine (HX.out _).mono ?_); rintro e w' ⟨rfl, rfl⟩) | ((with_reducible refine (HY.out _).mono ?_); rintro e w' ⟨rfl, rfl⟩))
  refine bodyPost_ret (v := .tuple #[.int .i64 x0, .int .i64 y0, .int .i64 x1, .int .i64 y1]) (by simp [results, Try.results14, go_sem]) rfl ⟨rfl, HK.out _⟩

/-- The closure of a box whose numbers lie in blocks from g on. -/
def pixF (g : Nat) : Value := .func (.func 36) #[] #[.pointer (some ⟨g, 0, none⟩), .pointer (some ⟨g + 2, 0, none⟩), .pointer (some ⟨g + 1, 0, none⟩), .pointer (some ⟨g + 3, 0, none⟩)]
theorem pixels_any (x0 y0 x1 y1 : Int) (w : World) :
    Calls Try.prog 23 #[.int .i64 x0, .int .i64 y0, .int .i64 x1, .int .i64 y1] w fun e w' => e = .returned (.func (.func 36) #[] #[.pointer (some ⟨w.heap.size, 0, none⟩), .pointer (some ⟨w.heap.size + 1 + 1, 0, none⟩), .pointer (some ⟨w.heap.size + 1, 0, none⟩), .pointer (some ⟨w.heap.size + 1 + 1 + 1, 0, none⟩)]) ∧
      w' = (((w.alloc (.cells #[.int .i64 x0] 3)).alloc (.cells #[.int .i64 y0] 3)).alloc (.cells #[.int .i64 x1] 3)).alloc (.cells #[.int .i64 y1] 3) := by
  have hmf := C.mk_func
  go_enter Try.func23, Try.ntmps23
  go_wp2
  go_ret
  exact ⟨rfl, rfl⟩

def e1 : P := ⟨40, 0, 0, 0, 0, 0, 0⟩
def e2 : P := ⟨0, 20, 0, 0, 0, 0, 0⟩
theorem built0 {o : Oper} {ops : Array Oper} {rest : List Oper} {k : Act} {w : World} {Q : Exit → Act → World → Prop} (v : P) (l : List (Nat × Operand)) (ho : o.op = .build 37 l.toArray) (hw : Region.wanted o (yielded ops k.tmps) = true)
    (hf : Try.prog.built 37 ((l.toArray.map fun (i, x) => (i, k.eval x)).toList) = some #[.int .i64 v.x, .int .i64 v.y, .int .i64 v.z, .int .i64 v.a, .int .i64 v.b, .int .i64 v.c, .int .i64 v.d])
    (h : wpList Try.prog ops Q rest (k.put o.dst (.agg #[.int .i64 v.x, .int .i64 v.y, .int .i64 v.z, .int .i64 v.a, .int .i64 v.b, .int .i64 v.c, .int .i64 v.d])) w) : wpList Try.prog ops Q (o :: rest) k w :=
  BigFrame.wpList_want hw fun _ hK => by
    refine wp_build 37 _ ho (by rw [hf]; rfl) ?_
    rw [hf]
    exact hK _ _ h

theorem eqIn61 (w : World) (d : Nat) (f : Fn) (a b : Array Value) : (Op.equalIn (d + 1) 61 (.func f a b) .nilFunc).run Try.prog w = .ok false w := by
  simp [Op.equalIn, run_underlying Try.underlying61]
theorem neqF (w : World) (f : Fn) (a b : Array Value) : (binOp .neq 61 (.func f a b) .nilFunc).run Try.prog w = .ok (.bool true) w := by
  simp only [binOp]
  simp [Op.equal, Op.maxDepth, eqIn61 w 9999]
theorem eqlF (w : World) (f : Fn) (a b : Array Value) : (binOp .eql 61 (.func f a b) .nilFunc).run Try.prog w = .ok (.bool false) w := by
  simp only [binOp]
  simp [Op.equal, Op.maxDepth, eqIn61 w 9999]

set_option maxRecDepth 100000 in
set_option maxHeartbeats 1000000 in
theorem shown_any (w : World) : Calls Try.prog 9 #[] w fun e w' => e = .returned (.bool true) ∧ Below w.heap.size w w' := by
  have z0 : zP.sm := by constructor <;> decide
  have z1 : e1.sm := by constructor <;> decide
  have z2 : e2.sm := by constructor <;> decide
  have H1 := Lib.hid (show ∀ w, Calls Try.prog 14 #[.int .i64 4, .int .i64 4, .agg #[.int .i64 zP.x, .int .i64 zP.y, .int .i64 zP.z, .int .i64 zP.a, .int .i64 zP.b, .int .i64 zP.c, .int .i64 zP.d, .int .i64 e1.x, .int .i64 e1.y, .int .i64 e1.z, .int .i64 e1.a, .int .i64 e1.b, .int .i64 e1.c, .int .i64 e1.d, .int .i64 e2.x, .int .i64 e2.y, .int .i64 e2.z, .int .i64 e2.a, .int .i64 e2.b, .int .i64 e2.c, .int .i64 e2.d]] w fun e w' => e = .returned (.tuple #[.int .i64 0, .int .i64 0, .int .i64 3, .int .i64 2]) ∧ Below w.heap.size w w' from fun w => box_any 4 4 zP e1 e2 z0 z1 z2 w)
  have HF := neqF
  clear z0 z1 z2
  go_enter Try.func9, Try.ntmps9
  go_wp2_with (first | (refine built0 zP [] rfl rfl (by kernel_rfl) ?_) | (refine built0 e1 [(0, .const (.int .i64 40))] rfl rfl (by kernel_rfl) ?_) | (refine built0 e2 [(1, .const (.int .i64 20))] rfl rfl (by kernel_rfl) ?_) | (refine wp_buildT (a := zP) (b := e1) (c := e2) _ _ _ rfl rfl rfl rfl rfl ?_))
  with_reducible refine (H1.out _).mono ?_
  rintro e w1 ⟨rfl, hb⟩
  have K1 := Lib.hid (((((hb.alloc hb.size (.cells #[.int .i64 0] 3)).alloc (by have := hb.size; simp; omega) (.cells #[.int .i64 0] 3)).alloc (by have := hb.size; simp; omega) (.cells #[.int .i64 1] 3)).alloc (by have := hb.size; simp; omega) (.cells #[.int .i64 1] 3)))
  clear hb
  go_wp2_with (go_at_call 23; (with_reducible refine (pixels_any _ _ _ _ _).mono ?_); rintro e w' ⟨rfl, rfl⟩)
  go_ret
  exact ⟨rfl, K1.out⟩
end Go.Proofs.Ytfdlfjecgefgfaa
