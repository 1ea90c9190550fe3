/-
  The iterator of wire.All, at this seat's translation: for every loop body that keeps what lay.
-/
import Derived.Test.YtopncdeafbpenaaSmall
import Derived.RangeFuncNested
import Derived.RangeFuncBound
import Derived.RangeFuncCalls
import Derived.RangeFuncLeaves
import Derived.Shelf.Abstract
import Derived.Shelf.RegionOpen
import Derived.OwnWalkIn
import Derived.TacticsInMore
import Derived.LoopNIn
import Derived.LoopIn
namespace Go.Proofs.Ytopncdeafbpenaa
open Go.RowKit Go.Shelf
attribute [local go_sem] Oper.semAt_some

def encs (x : Int × Bool) : Array Value := #[.int .i64 x.1, .bool x.2]
def lenOf : Value → Nat
  | .slice _ n _ => n
  | _ => 0

/-- Where the iterator stands: what has come, and what is left. -/
def ItAt (n₀ : Nat) (xs : List Int) (J : List (Int × Bool) → World → Prop) (p : Value) (wr : World) : Prop :=
  ∃ (pre : List (Int × Bool)) (ys : List Int) (A : Option Addr) (c : Nat), p = .slice A ys.length c ∧ ys.length ≤ c ∧ ys.length ≤ xs.length ∧ Byt ys ∧ Sl .u8 wr n₀ A ys ∧ seq xs = pre ++ seq ys ∧ J pre wr

set_option maxRecDepth 100000 in
set_option maxHeartbeats 2000000 in
theorem all1_in (F : Fence) (hfn : ∀ f, F.fn f) (hC : ∀ {f args W R} m, Calls Try.prog f args W R → CallsIn F m Try.prog f args W R) (n : Nat) (hro : F.round = none) (hn : 2 ≤ n) (l Bn n₀ : Nat) (A : Option Addr) (c : Nat) (xs : List Int)
    (hc : xs.length ≤ c) (hl : xs.length ≤ 100000) (hb : Byt xs) (J Jx : List (Int × Bool) → World → Prop)
    (hY : ∀ pre x W, J pre W → pre.length < (seq xs).length → YieldAt F (n - 1) Try.prog l (encs x) W fun e W' =>
      (e = .returned (.bool true) ∧ J (pre ++ [x]) W' ∧ Below n₀ W W') ∨ (e = .returned (.bool false) ∧ Jx (pre ++ [x]) W'))
    (W : World) (hBn : W.cell? ⟨Bn, 0, none⟩ = some (.slice A xs.length c)) (hs : Sl .u8 W n₀ A xs) (h0 : J [] W) :
    CallsIn F n Try.prog 24 #[.func (.yield l) #[] #[], .pointer (some ⟨Bn, 0, none⟩)] W fun e W' => (∃ v, e = .returned v) ∧
      ((∃ ys, ys = seq xs ∧ J ys W') ∨ (∃ pre, pre <+: seq xs ∧ Jx pre W')) := by
  have h20 := hfn 20
  have h1 : 1 ≤ n := by omega
  have HY := Lib.hid hY
  have HS := Lib.hid hs
  have HB := Lib.hid hb
  clear hY hs hb
  refine callsIn_of_wp Try.func24 rfl (hfn 24) ?_ hro
  simp only [Try.ntmps24, List.size_toArray, List.length_cons, List.length_nil, Nat.reduceAdd, Nat.reduceSub, Array.replicate_succ, Array.replicate_zero, List.push_toArray, List.append_toArray, List.nil_append, List.cons_append]
  gi_wp2
  gi_loopw [3] (fun p wr => ItAt n₀ xs J p wr) (fun p _ => lenOf p)
  case atStart =>
    exact ⟨[], xs, A, c, rfl, hc, Nat.le_refl _, HB.out, HS.out, rfl, h0⟩
  case round =>
    obtain ⟨pre, ys, A', c', rfl, hc', hlx, hby, hsl, hseq, hJ⟩ := hrel
    have HQ := Lib.hid hseq
    have HBy := Lib.hid hby
    have HSl := Lib.hid hsl
    clear hseq hby hsl
    by_cases hne : ys = []
    · subst hne
      gi_wp2
      go_end0
      exact ⟨⟨_, rfl⟩, .inl ⟨pre, by rw [HQ.out, seq_nil]; simp, hJ⟩⟩
    · have hpos : 0 < ys.length := List.length_pos_iff.2 hne
      have HN := Lib.hid hne
      clear hne
      obtain ⟨x, s, hf⟩ : ∃ x s, first ys = (x, s) := ⟨_, _, rfl⟩
      have hfa := first_any A' c' ys n₀ wr HSl.out HBy.out hc' (by omega)
      rw [hf] at hfa
      dsimp only at hfa
      have HF := Lib.hid hf
      have HFA := Lib.hid hfa
      clear hf hfa
      by_cases hz : s = 0
      · subst hz
        have hsb := seq_bad HN.out HF.out
        have hpl : pre.length < (seq xs).length := by rw [HQ.out, hsb]; simp
        obtain ⟨fn, tmps, assign, body, hy, hR⟩ := HY.out pre (0, false) wr hJ hpl
        dsimp only [encs] at hy
        have HSB := Lib.hid hsb
        have HR := Lib.hid hR
        clear hsb hR
        gi_wp2_with (gi_at_call 20; (with_reducible refine (hC _ HFA.out).mono ?_); rintro e w' ⟨rfl, rfl⟩)
        refine HR.out.mono ?_
        rintro e W3 (⟨rfl, hJ3, hk3⟩ | ⟨rfl, hJx3⟩)
        · gi_wp2
          refine bodyPost_ret (results_none rfl _ _ _) rfl ?_
          exact ⟨⟨_, rfl⟩, .inl ⟨_, by rw [HQ.out, HSB.out], hJ3⟩⟩
        · gi_wp2
          refine bodyPost_ret (results_none rfl _ _ _) rfl ?_
          exact ⟨⟨_, rfl⟩, .inr ⟨_, by rw [HQ.out, HSB.out]; exact List.prefix_rfl, hJx3⟩⟩
      · have hsg := seq_good HBy.out HF.out hz
        obtain ⟨-, -, -, hsl, hs1, -⟩ := first_inv HBy.out HF.out hz
        have hpl : pre.length < (seq xs).length := by rw [HQ.out, hsg]; simp
        obtain ⟨fn, tmps, assign, body, hy, hR⟩ := HY.out pre (x, true) wr hJ hpl
        dsimp only [encs] at hy
        have HSG := Lib.hid hsg
        have HR := Lib.hid hR
        have HZ := Lib.hid hz
        clear hsg hR hz
        gi_wp2_with (gi_at_call 20; (with_reducible refine (hC _ HFA.out).mono ?_); rintro e w' ⟨rfl, rfl⟩)
        refine HR.out.mono ?_
        rintro e W3 (⟨rfl, hJ3, hk3⟩ | ⟨rfl, hJx3⟩)
        · have hdl : (ys.drop s).length = ys.length - s := List.length_drop
          have hs3 := (HSl.out.below hk3).cut (n := s) (c := c') hc'
          obtain ⟨A3, hA3⟩ : ∃ A3, (if c' = s then A' else A'.map fun x => x.add s) = A3 := ⟨_, rfl⟩
          rw [hA3] at hs3
          have HS3 := Lib.hid hs3
          have HDL := Lib.hid hdl
          clear hs3 hdl
          gi_wp2
          go_roundw
          case rel => exact ⟨pre ++ [(x, true)], ys.drop s, A3, c' - s, by rw [HDL.out], by rw [HDL.out]; omega, by rw [HDL.out]; omega, HBy.out.drop s, HS3.out, by rw [HQ.out, HSG.out]; simp, hJ3⟩
          case measure => simp [lenOf]; omega
        · gi_wp2
          refine bodyPost_ret (results_none rfl _ _ _) rfl ?_
          exact ⟨⟨_, rfl⟩, .inr ⟨pre ++ [(x, true)], ⟨seq (ys.drop s), by rw [HQ.out, HSG.out]; simp⟩, hJx3⟩⟩

theorem all_stops (F : Fence) (hfn : ∀ f, F.fn f) (hC : ∀ {f args W R} m, Calls Try.prog f args W R → CallsIn F m Try.prog f args W R) (n : Nat) (hro : F.round = none) (hn : 2 ≤ n) (Bn n₀ : Nat) (A : Option Addr) (c : Nat) (xs : List Int)
    (hc : xs.length ≤ c) (hl : xs.length ≤ 100000) (hb : Byt xs) (w : World) (hBn : Bn < w.heap.size) (hn₀ : n₀ ≤ w.heap.size) (hcell : w.cell? ⟨Bn, 0, none⟩ = some (.slice A xs.length c)) (hs : Sl .u8 w n₀ A xs) :
    SeqStopsK F n Try.prog 24 #[.pointer (some ⟨Bn, 0, none⟩)] encs (Below n₀) (fun ys => ys = seq xs) (fun pre => pre <+: seq xs) (seq xs).length w := fun l J Jx W hW _ _ hY h0 =>
  all1_in F hfn hC n hro hn l Bn n₀ A c xs hc hl hb J Jx hY W ((hW.cell (p := ⟨Bn, 0, none⟩) hBn).trans hcell) (hs.below (hW.mono hn₀)) h0

end Go.Proofs.Ytopncdeafbpenaa
