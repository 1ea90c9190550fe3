/-
  cover.Bits and its iterator, for every loop body that keeps what lay.
-/
import Derived.Test.YtgcoggejgolhgaaHas
import Derived.RangeFuncNested
import Derived.RangeFuncBound
import Derived.RangeFuncCalls
import Derived.RangeFuncLeaves
import Derived.Shelf.Abstract
import Derived.Shelf.RegionOpen
import Derived.OwnWalkIn
import Derived.TacticsInMore
import Derived.LoopNIn
import Derived.LoopIn
import Derived.Laws.BitsAllLaws
import Derived.Laws.BitsLemmas
namespace Go.Proofs.Ytgcoggejgolhgaa
open Go.RowKit Go.Shelf
attribute [local go_sem] Oper.semAt_some

theorem and1 (x : Int) (h0 : 0 ≤ x) (h1 : x < 256) : bits .and .u8 x 1 = x % 2 := bits_mask .u8 8 (by decide) wraps_u8 1 (by decide) x h0 h1
theorem mk_func (fn : Fn) (first cap : Array Value) (w : World) : (Instr.makeFunc fn first cap).run Try.prog w = .ok (.func fn first cap) w := rfl
theorem bits_any (m : Int) (w : World) :
    Calls Try.prog 20 #[.int .u8 m] w fun e w' => e = .returned (.func (.func 26) #[] #[.pointer (some ⟨w.heap.size, 0, none⟩)]) ∧ w' = w.alloc (.cells #[.int .u8 m] 5) := by
  have hmf := mk_func
  go_enter Try.func20, Try.ntmps20
  go_wp2
  go_ret
  exact ⟨rfl, rfl⟩

/-- What a round that goes on keeps: the mask that is gone through. -/
def KpB (Bn : Nat) (A B : World) : Prop := B.cell? ⟨Bn, 0, none⟩ = A.cell? ⟨Bn, 0, none⟩
theorem kpB_t {Bn : Nat} {A B C : World} (h : KpB Bn A B) (k : KpB Bn B C) : KpB Bn A C := k.trans h
theorem kpB_b {Bn : Nat} {w : World} (hB : Bn < w.heap.size) (W : World) (l : Nat) (o o' : Obj) (hl : w.heap.size ≤ l) (h : W.heap[l]? = some o) (h1 : o.isCells = false) (h2 : o.isWalk = false) : KpB Bn W (W.putObj l o') :=
  (belowK_b (w := w) (Nat.le_refl _) W l o o' hl h h1 h2).cell (p := ⟨Bn, 0, none⟩) hB
def encs (x : Fin 4) : Array Value := #[.int .i64 (iv x)]
def leftI : Value → Nat
  | .int _ n => (4 - n).toNat
  | _ => 0
/-- Where the iterator stands: what has come. -/
def ItAt (Bn : Nat) (m : Int) (J : List (Fin 4) → World → Prop) (p : Value) (wr : World) : Prop :=
  ∃ k : Nat, p = .int .i64 k ∧ k ≤ 4 ∧ wr.cell? ⟨Bn, 0, none⟩ = some (.int .u8 m) ∧ J (bl m k) wr

set_option maxRecDepth 100000 in
set_option maxHeartbeats 2000000 in
theorem bits1_in (F : Fence) (hfn : ∀ f, F.fn f) (n : Nat) (hro : F.round = none) (hn : 2 ≤ n) (l Bn : Nat) (m : Int)
    (hm0 : 0 ≤ m) (hm1 : m ≤ 255) (J Jx : List (Fin 4) → World → Prop)
    (hY : ∀ pre x W, J pre W → pre.length < (bl m 4).length → YieldAt F (n - 1) Try.prog l (encs x) W fun e W' =>
      (e = .returned (.bool true) ∧ J (pre ++ [x]) W' ∧ KpB Bn W W') ∨ (e = .returned (.bool false) ∧ Jx (pre ++ [x]) W'))
    (W : World) (hBn : W.cell? ⟨Bn, 0, none⟩ = some (.int .u8 m)) (h0 : J [] W) :
    CallsIn F n Try.prog 26 #[.func (.yield l) #[] #[], .pointer (some ⟨Bn, 0, none⟩)] W fun e W' => (∃ v, e = .returned v) ∧
      ((∃ ys, ys = bl m 4 ∧ J ys W') ∨ (∃ pre, pre <+: bl m 4 ∧ Jx pre W')) := by
  have h1 : 1 ≤ n := by omega
  have HY := Lib.hid hY
  clear hY
  refine callsIn_of_wp Try.func26 rfl (hfn 26) ?_ hro
  simp only [Try.ntmps26, List.size_toArray, List.length_cons, List.length_nil, Nat.reduceAdd, Nat.reduceSub, Array.replicate_succ, Array.replicate_zero, List.push_toArray, List.append_toArray, List.nil_append, List.cons_append]
  gi_wp2
  gi_loopw [4] (fun p wr => ItAt Bn m J p wr) (fun p _ => leftI p)
  case atStart =>
    exact ⟨0, rfl, by omega, hBn, h0⟩
  case round =>
    obtain ⟨k, rfl, hk, hc, hJ⟩ := hrel
    obtain rfl | rfl | rfl | rfl | rfl : k = 0 ∨ k = 1 ∨ k = 2 ∨ k = 3 ∨ k = 4 := by omega
    · cases hb : bt m 0 with
      | false =>
        have hbe : m % 2 = 0 := by have h := hb; simp only [bt, beq_eq_false_iff_ne, ne_eq] at h; omega
        have hbit : bits BinOp.and .u8 m 1 = 0 := (and1 _ (by omega) (by omega)).trans hbe
        have HB := Lib.hid hb
        clear hb hbe
        gi_wp2
        go_roundw
        case rel => exact ⟨0 + 1, rfl, by omega, hc, by rw [bl_no HB.out]; exact hJ⟩
        case measure => simp [leftI]
      | true =>
        have hbe : m % 2 = 1 := by have h := hb; simpa only [bt, beq_iff_eq] using h
        have hbit : bits BinOp.and .u8 m 1 = 1 := (and1 _ (by omega) (by omega)).trans hbe
        have HB := Lib.hid hb
        obtain ⟨fn, tmps, assign, body, hy, hR⟩ := HY.out (bl m 0) (itm 0) wr hJ (bl_lt hb (by omega))
        clear hb hbe
        dsimp only [encs] at hy
        rw [show iv (itm 0) = (0 : Int) from rfl] at hy
        have HR := Lib.hid hR
        clear hR
        gi_wp2
        refine HR.out.mono ?_
        rintro e W3 (⟨rfl, hJ3, hk3⟩ | ⟨rfl, hJx3⟩)
        · have hc3 := (show W3.cell? ⟨Bn, 0, none⟩ = wr.cell? ⟨Bn, 0, none⟩ from hk3).trans hc
          gi_wp2
          go_roundw
          case rel => exact ⟨0 + 1, rfl, by omega, hc3, by rw [bl_yes HB.out]; exact hJ3⟩
          case measure => simp [leftI]
        · gi_wp2
          refine bodyPost_ret (results_none rfl _ _ _) rfl ?_
          exact ⟨⟨_, rfl⟩, .inr ⟨_, bl_next HB.out (by omega), hJx3⟩⟩
    · cases hb : bt m 1 with
      | false =>
        have hbe : m / 2 % 2 = 0 := by have h := hb; simp only [bt, beq_eq_false_iff_ne, ne_eq] at h; omega
        have hbit : bits BinOp.and .u8 (m / 2) 1 = 0 := (and1 _ (by omega) (by omega)).trans hbe
        have HB := Lib.hid hb
        clear hb hbe
        gi_wp2
        go_roundw
        case rel => exact ⟨1 + 1, rfl, by omega, hc, by rw [bl_no HB.out]; exact hJ⟩
        case measure => simp [leftI]
      | true =>
        have hbe : m / 2 % 2 = 1 := by have h := hb; simpa only [bt, beq_iff_eq] using h
        have hbit : bits BinOp.and .u8 (m / 2) 1 = 1 := (and1 _ (by omega) (by omega)).trans hbe
        have HB := Lib.hid hb
        obtain ⟨fn, tmps, assign, body, hy, hR⟩ := HY.out (bl m 1) (itm 1) wr hJ (bl_lt hb (by omega))
        clear hb hbe
        dsimp only [encs] at hy
        rw [show iv (itm 1) = (1 : Int) from rfl] at hy
        have HR := Lib.hid hR
        clear hR
        gi_wp2
        refine HR.out.mono ?_
        rintro e W3 (⟨rfl, hJ3, hk3⟩ | ⟨rfl, hJx3⟩)
        · have hc3 := (show W3.cell? ⟨Bn, 0, none⟩ = wr.cell? ⟨Bn, 0, none⟩ from hk3).trans hc
          gi_wp2
          go_roundw
          case rel => exact ⟨1 + 1, rfl, by omega, hc3, by rw [bl_yes HB.out]; exact hJ3⟩
          case measure => simp [leftI]
        · gi_wp2
          refine bodyPost_ret (results_none rfl _ _ _) rfl ?_
          exact ⟨⟨_, rfl⟩, .inr ⟨_, bl_next HB.out (by omega), hJx3⟩⟩
    · cases hb : bt m 2 with
      | false =>
        have hbe : m / 4 % 2 = 0 := by have h := hb; simp only [bt, beq_eq_false_iff_ne, ne_eq] at h; omega
        have hbit : bits BinOp.and .u8 (m / 4) 1 = 0 := (and1 _ (by omega) (by omega)).trans hbe
        have HB := Lib.hid hb
        clear hb hbe
        gi_wp2
        go_roundw
        case rel => exact ⟨2 + 1, rfl, by omega, hc, by rw [bl_no HB.out]; exact hJ⟩
        case measure => simp [leftI]
      | true =>
        have hbe : m / 4 % 2 = 1 := by have h := hb; simpa only [bt, beq_iff_eq] using h
        have hbit : bits BinOp.and .u8 (m / 4) 1 = 1 := (and1 _ (by omega) (by omega)).trans hbe
        have HB := Lib.hid hb
        obtain ⟨fn, tmps, assign, body, hy, hR⟩ := HY.out (bl m 2) (itm 2) wr hJ (bl_lt hb (by omega))
        clear hb hbe
        dsimp only [encs] at hy
        rw [show iv (itm 2) = (2 : Int) from rfl] at hy
        have HR := Lib.hid hR
        clear hR
        gi_wp2
        refine HR.out.mono ?_
        rintro e W3 (⟨rfl, hJ3, hk3⟩ | ⟨rfl, hJx3⟩)
        · have hc3 := (show W3.cell? ⟨Bn, 0, none⟩ = wr.cell? ⟨Bn, 0, none⟩ from hk3).trans hc
          gi_wp2
          go_roundw
          case rel => exact ⟨2 + 1, rfl, by omega, hc3, by rw [bl_yes HB.out]; exact hJ3⟩
          case measure => simp [leftI]
        · gi_wp2
          refine bodyPost_ret (results_none rfl _ _ _) rfl ?_
          exact ⟨⟨_, rfl⟩, .inr ⟨_, bl_next HB.out (by omega), hJx3⟩⟩
    · cases hb : bt m 3 with
      | false =>
        have hbe : m / 8 % 2 = 0 := by have h := hb; simp only [bt, beq_eq_false_iff_ne, ne_eq] at h; omega
        have hbit : bits BinOp.and .u8 (m / 8) 1 = 0 := (and1 _ (by omega) (by omega)).trans hbe
        have HB := Lib.hid hb
        clear hb hbe
        gi_wp2
        go_roundw
        case rel => exact ⟨3 + 1, rfl, by omega, hc, by rw [bl_no HB.out]; exact hJ⟩
        case measure => simp [leftI]
      | true =>
        have hbe : m / 8 % 2 = 1 := by have h := hb; simpa only [bt, beq_iff_eq] using h
        have hbit : bits BinOp.and .u8 (m / 8) 1 = 1 := (and1 _ (by omega) (by omega)).trans hbe
        have HB := Lib.hid hb
        obtain ⟨fn, tmps, assign, body, hy, hR⟩ := HY.out (bl m 3) (itm 3) wr hJ (bl_lt hb (by omega))
        clear hb hbe
        dsimp only [encs] at hy
        rw [show iv (itm 3) = (3 : Int) from rfl] at hy
        have HR := Lib.hid hR
        clear hR
        gi_wp2
        refine HR.out.mono ?_
        rintro e W3 (⟨rfl, hJ3, hk3⟩ | ⟨rfl, hJx3⟩)
        · have hc3 := (show W3.cell? ⟨Bn, 0, none⟩ = wr.cell? ⟨Bn, 0, none⟩ from hk3).trans hc
          gi_wp2
          go_roundw
          case rel => exact ⟨3 + 1, rfl, by omega, hc3, by rw [bl_yes HB.out]; exact hJ3⟩
          case measure => simp [leftI]
        · gi_wp2
          refine bodyPost_ret (results_none rfl _ _ _) rfl ?_
          exact ⟨⟨_, rfl⟩, .inr ⟨_, bl_next HB.out (by omega), hJx3⟩⟩
    · gi_wp2
      go_end0
      exact ⟨⟨_, rfl⟩, .inl ⟨_, rfl, hJ⟩⟩

theorem bits_stops (F : Fence) (hfn : ∀ f, F.fn f) (n : Nat) (hro : F.round = none) (hn : 2 ≤ n) (Bn : Nat) (m : Int)
    (hm0 : 0 ≤ m) (hm1 : m ≤ 255) (w : World) (hlt : Bn < w.heap.size) (hcell : w.cell? ⟨Bn, 0, none⟩ = some (.int .u8 m)) :
    SeqStopsK F n Try.prog 26 #[.pointer (some ⟨Bn, 0, none⟩)] encs (KpB Bn) (fun ys => ys = bl m 4) (fun pre => pre <+: bl m 4) (bl m 4).length w := fun l J Jx W hW _ _ hY h0 =>
  bits1_in F hfn n hro hn l Bn m hm0 hm1 J Jx hY W ((hW.cell (p := ⟨Bn, 0, none⟩) hlt).trans hcell) h0
end Go.Proofs.Ytgcoggejgolhgaa
