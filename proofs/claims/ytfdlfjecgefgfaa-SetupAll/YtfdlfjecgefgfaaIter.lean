/-
  The iterator of setup.Pixels, for every loop body that keeps the box.
-/
import Derived.Test.YtfdlfjecgefgfaaBox
import Derived.RangeFuncNested
import Derived.RangeFuncBound
import Derived.RangeFuncCalls
import Derived.RangeFuncLeaves
import Derived.Shelf.Abstract
import Derived.Shelf.RegionOpen
import Derived.OwnWalkIn
import Derived.TacticsInMore
import Derived.LoopNIn
import Derived.LoopIn
namespace Go.Proofs.Ytfdlfjecgefgfaa
open Go.RowKit Go.Shelf
attribute [local go_sem] Oper.semAt_some

/-- The t-th pixel of a box, and the first t of them. -/
def pxl (x0 y0 : Int) (n t : Nat) : Int × Int := (x0 + ((t % n : Nat) : Int), y0 + ((t / n : Nat) : Int))
def upto (x0 y0 : Int) (n t : Nat) : List (Int × Int) := (List.range t).map (pxl x0 y0 n)
theorem upto_len (x0 y0 : Int) (n t : Nat) : (upto x0 y0 n t).length = t := by simp [upto]
theorem upto_succ (x0 y0 : Int) (n t : Nat) : upto x0 y0 n (t + 1) = upto x0 y0 n t ++ [pxl x0 y0 n t] := by simp [upto, List.range_succ]
theorem pxl_at (x0 y0 : Int) {n i j : Nat} (h : j < n) : pxl x0 y0 n (i * n + j) = (x0 + (j : Int), y0 + (i : Int)) := by
  unfold pxl
  rw [Nat.add_comm, Nat.add_mul_mod_self_right, Nat.mod_eq_of_lt h, Nat.add_mul_div_right _ _ (by omega), Nat.div_eq_of_lt h, Nat.zero_add]
theorem upto_pre (x0 y0 : Int) (n : Nat) {s t : Nat} (h : s ≤ t) : upto x0 y0 n s <+: upto x0 y0 n t := by
  unfold upto
  obtain ⟨d, rfl⟩ : ∃ d, t = s + d := ⟨t - s, by omega⟩
  rw [List.range_add, List.map_append]
  exact List.prefix_append _ _

/-- What a round that goes on keeps: the box that is gone through. -/
def KpQ (B : Nat) (X Y : World) : Prop := ∀ k, k < 4 → Y.cell? ⟨B + k, 0, none⟩ = X.cell? ⟨B + k, 0, none⟩
theorem kpQ_t {Bn : Nat} {A B C : World} (h : KpQ Bn A B) (k : KpQ Bn B C) : KpQ Bn A C := fun j hj => (k j hj).trans (h j hj)
theorem kpQ_b {Bn : Nat} {w : World} (hB : Bn + 4 ≤ w.heap.size) (W : World) (l : Nat) (o o' : Obj) (hl : w.heap.size ≤ l) (h : W.heap[l]? = some o) (h1 : o.isCells = false) (h2 : o.isWalk = false) : KpQ Bn W (W.putObj l o') := fun k hk =>
  (belowK_b (w := w) (Nat.le_refl _) W l o o' hl h h1 h2).cell (p := ⟨Bn + k, 0, none⟩) (by simp; omega)
def encs (x : Int × Int) : Array Value := #[.int .i64 x.1, .int .i64 x.2]
def leftI (m : Int) : Value → Nat
  | .int _ n => (m - n).toNat
  | _ => 0
/-- The box lies in its four blocks. -/
def BoxAt (B : Nat) (x0 y0 x1 y1 : Int) (W : World) : Prop :=
  W.cell? ⟨B, 0, none⟩ = some (.int .i64 x0) ∧ W.cell? ⟨B + 1, 0, none⟩ = some (.int .i64 y0) ∧ W.cell? ⟨B + 1 + 1, 0, none⟩ = some (.int .i64 x1) ∧ W.cell? ⟨B + 1 + 1 + 1, 0, none⟩ = some (.int .i64 y1)
theorem boxAt_kp {B : Nat} {x0 y0 x1 y1 : Int} {X Y : World} (h : BoxAt B x0 y0 x1 y1 X) (k : KpQ B X Y) : BoxAt B x0 y0 x1 y1 Y :=
  ⟨(k 0 (by omega)).trans h.1, (k 1 (by omega)).trans h.2.1, (k 2 (by omega)).trans h.2.2.1, (k 3 (by omega)).trans h.2.2.2⟩

set_option maxRecDepth 100000 in
set_option maxHeartbeats 2000000 in
theorem pix1_in (F : Fence) (hfn : ∀ f, F.fn f) (n : Nat) (hro : F.round = none) (hn : 2 ≤ n) (l B : Nat) (x0 y0 x1 y1 : Int) (p q : Nat)
    (hx : -1000 ≤ x0 ∧ x0 ≤ 1000) (hx1 : -1000 ≤ x1 ∧ x1 ≤ 1000) (hy : -1000 ≤ y0 ∧ y0 ≤ 1000) (hy1 : -1000 ≤ y1 ∧ y1 ≤ 1000) (hp : p = (x1 - x0).toNat) (hq : q = (y1 - y0).toNat)
    (J Jx : List (Int × Int) → World → Prop)
    (hY : ∀ pre x W, J pre W → pre.length < q * p → YieldAt F (n - 1) Try.prog l (encs x) W fun e W' =>
      (e = .returned (.bool true) ∧ J (pre ++ [x]) W' ∧ KpQ B W W') ∨ (e = .returned (.bool false) ∧ Jx (pre ++ [x]) W'))
    (W : World) (hB : BoxAt B x0 y0 x1 y1 W) (h0 : J [] W) :
    CallsIn F n Try.prog 36 #[.func (.yield l) #[] #[], .pointer (some ⟨B, 0, none⟩), .pointer (some ⟨B + 1 + 1, 0, none⟩), .pointer (some ⟨B + 1, 0, none⟩), .pointer (some ⟨B + 1 + 1 + 1, 0, none⟩)] W fun e W' => (∃ v, e = .returned v) ∧
      ((∃ ys, ys = upto x0 y0 p (q * p) ∧ J ys W') ∨ (∃ pre, pre <+: upto x0 y0 p (q * p) ∧ Jx pre W')) := by
  have h1 : 1 ≤ n := by omega
  have HY := Lib.hid hY
  clear hY
  refine callsIn_of_wp Try.func36 rfl (hfn 36) ?_ hro
  simp only [Try.ntmps36, List.size_toArray, List.length_cons, List.length_nil, Nat.reduceAdd, Nat.reduceSub, Array.replicate_succ, Array.replicate_zero, List.push_toArray, List.append_toArray, List.nil_append, List.cons_append]
  obtain ⟨c0, c1, c2, c3⟩ := hB
  by_cases hpos : x1 ≤ x0
  · gi_wp2
    refine bodyPost_ret (results_none rfl _ _ _) rfl ?_
    obtain rfl : p = 0 := by omega
    exact ⟨⟨_, rfl⟩, .inl ⟨_, rfl, h0⟩⟩
  · have HP := Lib.hid hp
    have HQ := Lib.hid hq
    have HB0 := Lib.hid (show BoxAt B x0 y0 x1 y1 W from ⟨c0, c1, c2, c3⟩)
    clear hp hq
    gi_wp2
    clear c0 c1 c2 c3
    gi_loopw [6] (fun y wr => ∃ i : Nat, y = .int .i64 (y0 + (i : Int)) ∧ i ≤ q ∧ BoxAt B x0 y0 x1 y1 wr ∧ J (upto x0 y0 p (i * p)) wr) (fun y _ => leftI y1 y)
    case atStart =>
      exact ⟨0, by simp, by omega, HB0.out, by simpa [upto] using h0⟩
    case round =>
      obtain ⟨i, rfl, hi, hb, hJ⟩ := hrel
      have HBr := Lib.hid hb
      obtain ⟨c0, c1, c2, c3⟩ := hb
      by_cases hlt : y0 + (i : Int) < y1
      · have hd : decide (y0 + (i : Int) < y1) = true := by simpa using hlt
        gi_wp2
        clear c0 c1 c2 c3
        gi_loopw [7] (fun x wr => ∃ j : Nat, x = .int .i64 (x0 + (j : Int)) ∧ j ≤ p ∧ BoxAt B x0 y0 x1 y1 wr ∧ J (upto x0 y0 p (i * p + j)) wr) (fun x _ => leftI x1 x)
        case atStart => exact ⟨0, by simp, by omega, HBr.out, hJ⟩
        case round =>
          obtain ⟨j, rfl, hj, hb, hJ⟩ := hrel
          have HB5 := Lib.hid hb
          obtain ⟨c0, c1, c2, c3⟩ := hb
          by_cases hjt : x0 + (j : Int) < x1
          · have hjp : j < p := by have := HP.out; omega
            have hiq : i < q := by have := HQ.out; omega
            have hle : i * p + j + 1 ≤ q * p := by
              have : (i + 1) * p ≤ q * p := Nat.mul_le_mul_right _ hiq
              rw [Nat.add_mul] at this
              omega
            have HS := Lib.hid (show upto x0 y0 p (i * p + j) ++ [(x0 + (j : Int), y0 + (i : Int))] = upto x0 y0 p (i * p + (j + 1)) by rw [← pxl_at x0 y0 hjp, ← upto_succ]; rfl)
            have HPre := Lib.hid (upto_pre x0 y0 p (show i * p + (j + 1) ≤ q * p from hle))
            obtain ⟨fn, tmps, assign, body, hy', hR⟩ := HY.out (upto x0 y0 p (i * p + j)) (x0 + (j : Int), y0 + (i : Int)) wr hJ (by rw [upto_len]; omega)
            dsimp only [encs] at hy'
            have HR := Lib.hid hR
            clear hR hle
            gi_wp2
            refine HR.out.mono ?_
            rintro e W3 (⟨rfl, hJ3, hk3⟩ | ⟨rfl, hJx3⟩)
            · have HB6 := Lib.hid (boxAt_kp HB5.out hk3)
              rw [HS.out] at hJ3
              clear hk3
              gi_wp2
              go_roundw
              case rel => exact ⟨j + 1, by go_num, by omega, HB6.out, hJ3⟩
              case measure => simp [leftI]; omega
            · rw [HS.out] at hJx3
              gi_wp2
              refine bodyPost_ret (results_none rfl _ _ _) rfl ?_
              exact ⟨⟨_, rfl⟩, .inr ⟨_, HPre.out, hJx3⟩⟩
          · have hjp : j = p := by have := HP.out; omega
            gi_wp2
            go_roundw
            case rel =>
              refine ⟨i + 1, by go_num, by have := HQ.out; omega, HB5.out, ?_⟩
              rw [hjp] at hJ
              rw [Nat.add_mul, Nat.one_mul]
              exact hJ
            case measure => simp [leftI]; omega
      · have hiq : i = q := by have := HQ.out; omega
        gi_wp2
        go_end0
        rw [hiq] at hJ
        exact ⟨⟨_, rfl⟩, .inl hJ⟩

theorem pix_stops (F : Fence) (hfn : ∀ f, F.fn f) (n : Nat) (hro : F.round = none) (hn : 2 ≤ n) (B : Nat) (x0 y0 x1 y1 : Int) (p q : Nat)
    (hx : -1000 ≤ x0 ∧ x0 ≤ 1000) (hx1 : -1000 ≤ x1 ∧ x1 ≤ 1000) (hy : -1000 ≤ y0 ∧ y0 ≤ 1000) (hy1 : -1000 ≤ y1 ∧ y1 ≤ 1000) (hp : p = (x1 - x0).toNat) (hq : q = (y1 - y0).toNat) (w : World) (hlt : B + 4 ≤ w.heap.size) (hB : BoxAt B x0 y0 x1 y1 w) :
    SeqStopsK F n Try.prog 36 #[.pointer (some ⟨B, 0, none⟩), .pointer (some ⟨B + 1 + 1, 0, none⟩), .pointer (some ⟨B + 1, 0, none⟩), .pointer (some ⟨B + 1 + 1 + 1, 0, none⟩)] encs (KpQ B) (fun ys => ys = upto x0 y0 p (q * p)) (fun pre => pre <+: upto x0 y0 p (q * p)) (q * p) w := fun l J Jx W hW _ _ hY h0 =>
  pix1_in F hfn n hro hn l B x0 y0 x1 y1 p q hx hx1 hy hy1 hp hq J Jx hY W (boxAt_kp hB fun k hk => hW.cell (p := ⟨B + k, 0, none⟩) (by simp; omega)) h0
end Go.Proofs.Ytfdlfjecgefgfaa
