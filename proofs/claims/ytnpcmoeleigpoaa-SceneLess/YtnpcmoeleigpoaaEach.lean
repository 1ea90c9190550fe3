/-
  scene.Each: its contract, and its iterator's, for every loop body that keeps what lay.
-/
import Derived.Test.YtnpcmoeleigpoaaScn
import Derived.RangeFuncNested
import Derived.RangeFuncBound
import Derived.RangeFuncCalls
import Derived.RangeFuncLeaves
import Derived.Shelf.Abstract
import Derived.Shelf.RegionOpen
import Derived.OwnWalkIn
import Derived.TacticsInMore
import Derived.LoopNIn
import Derived.LoopIn
namespace Go.Proofs.Ytnpcmoeleigpoaa
open Go.RowKit Go.Shelf
attribute [local go_sem] Oper.semAt_some

/-- The places of the triangles of so many, from draw d on. -/
def plF : Nat → List Nat → List (Int × Int)
  | _, [] => []
  | d, n :: ns => (List.range n).map (fun (k : Nat) => ((d : Int), (k : Int))) ++ plF (d + 1) ns
theorem plF_snoc : ∀ (l : List Nat) (d n : Nat), plF d (l ++ [n]) = plF d l ++ (List.range n).map (fun (k : Nat) => (((d + l.length : Nat) : Int), (k : Int)))
  | [], d, n => by simp [plF]
  | m :: l, d, n => by
    rw [List.cons_append, plF, plF, plF_snoc l (d + 1) n, List.append_assoc, List.length_cons, show d + 1 + l.length = d + (l.length + 1) by omega]
theorem plF_app : ∀ (l k : List Nat) (d : Nat), plF d l <+: plF d (l ++ k)
  | [], _, _ => List.nil_prefix
  | m :: l, k, d => by
    obtain ⟨t, ht⟩ := plF_app l k (d + 1)
    refine ⟨t, ?_⟩
    rw [List.cons_append, plF, plF, List.append_assoc, ht]
theorem plF_len : ∀ (l : List Nat) (d : Nat), (plF d l).length = l.sum
  | [], _ => rfl
  | m :: l, d => by rw [plF, List.length_append, plF_len l, List.length_map, List.length_range, List.sum_cons]
def lens (s : Sc) : List Nat := s.ds.map fun l => l.x.tris.length
/-- All places of a scene; those ahead of triangle k of draw i. -/
def plc (s : Sc) : List (Int × Int) := plF 0 (lens s)
def upTo (s : Sc) (i k : Nat) : List (Int × Int) := plF 0 ((lens s).take i) ++ (List.range k).map (fun (k : Nat) => ((i : Int), (k : Int)))
theorem upTo_zero (s : Sc) : upTo s 0 0 = [] := by simp [upTo, plF]
theorem upTo_step (s : Sc) (i k : Nat) : upTo s i k ++ [((i : Int), (k : Int))] = upTo s i (k + 1) := by
  unfold upTo
  rw [List.range_succ, List.map_append, List.append_assoc]
  rfl
theorem upTo_next {s : Sc} {i : Nat} {u : Lo Dr} (h : s.ds[i]? = some u) : upTo s i u.x.tris.length = upTo s (i + 1) 0 := by
  have h2 : (lens s)[i]? = some u.x.tris.length := by unfold lens; rw [List.getElem?_map, h]; rfl
  have hl := (List.getElem?_eq_some_iff.1 h2).1
  unfold upTo
  rw [take_snoc h2, plF_snoc, List.length_take, Nat.min_eq_left (by omega), Nat.zero_add]
  simp
theorem upTo_end (s : Sc) : upTo s s.ds.length 0 = plc s := by
  unfold upTo plc
  rw [List.take_of_length_le (by unfold lens; simp)]
  simp
theorem upTo_pre {s : Sc} {i k : Nat} {u : Lo Dr} (h : s.ds[i]? = some u) (hk : k ≤ u.x.tris.length) : upTo s i k <+: plc s := by
  have h1 : upTo s i k <+: upTo s i u.x.tris.length := by
    unfold upTo
    obtain ⟨d, hd⟩ : ∃ d, u.x.tris.length = k + d := ⟨u.x.tris.length - k, by omega⟩
    rw [hd, List.range_add, List.map_append, ← List.append_assoc]
    exact List.prefix_append _ _
  rw [upTo_next h] at h1
  refine h1.trans ?_
  unfold upTo plc
  rw [List.range_zero, List.map_nil, List.append_nil]
  have := plF_app ((lens s).take (i + 1)) ((lens s).drop (i + 1)) 0
  rwa [List.take_append_drop] at this
theorem plc_len (s : Sc) : (plc s).length = count s.p := by
  unfold plc count lens Sc.p
  rw [plF_len, List.map_map]
  rfl

def encs (x : Int × Int) : Array Value := #[.int .i64 x.1, .int .i64 x.2]
def left (n : Nat) : Value → Nat
  | .int _ k => n - k.toNat
  | _ => 0

theorem each_any (s : Sc) (w : World) :
    Calls Try.prog 17 #[.agg #[.int .i64 s.w, .int .i64 s.h, .int .u8 s.k.r, .int .u8 s.k.g, .int .u8 s.k.b, .int .u8 s.k.a, .slice s.vA s.vs.length s.vc, .slice s.tA s.ts.length s.tc, .slice s.pA s.ps.length s.pc, .slice s.dA s.ds.length s.dc]] w fun e w' => e = .returned (.func (.func 39) #[] #[.pointer (some ⟨w.heap.size, 0, none⟩)]) ∧ w' = w.alloc (scB s) := by
  have hmf := mk_func
  go_enter Try.func17, Try.ntmps17
  go_wp2
  go_ret
  exact ⟨rfl, rfl⟩

set_option maxRecDepth 100000 in
set_option maxHeartbeats 4000000 in
theorem each1_in (F : Fence) (hfn : ∀ f, F.fn f) (n : Nat) (hro : F.round = none) (hn : 2 ≤ n) (l g n₀ : Nat) (s : Sc) (hf : s.few)
    (J Jx : List (Int × Int) → World → Prop) (W : World) (hJo : AbidesFrom W.heap.size J)
    (hY : ∀ pre x W, J pre W → pre.length < (plc s).length → YieldAt F (n - 1) Try.prog l (encs x) W fun e W' =>
      (e = .returned (.bool true) ∧ J (pre ++ [x]) W' ∧ Below n₀ W W') ∨ (e = .returned (.bool false) ∧ Jx (pre ++ [x]) W'))
    (hg : W.heap[g]? = some (scB s)) (hd : Es ED W n₀ s.dA s.ds) (hn₀ : n₀ ≤ W.heap.size) (h0 : J [] W) :
    CallsIn F n Try.prog 39 #[.func (.yield l) #[] #[], .pointer (some ⟨g, 0, none⟩)] W fun e W' => (∃ v, e = .returned v) ∧
      ((∃ ys, ys = plc s ∧ J ys W') ∨ (∃ pre, pre <+: plc s ∧ Jx pre W')) := by
  have h1 : 1 ≤ n := by omega
  have HY := Lib.hid hY
  have HD := Lib.hid hd
  have HL := Lib.hid (fun (k : Nat) (h : k < s.ds.length) => get_lt (l := s.ds) h)
  have HJo := Lib.hid (fun (pre : List (Int × Int)) (X : World) (o : Obj) (h : J pre X) => hJo pre X (X.alloc o) none h (World.grownBy_alloc X o none) (fun r e => by cases e))
  have HF := Lib.hid hf.dx
  have hds := hf.ds
  obtain ⟨c0, c1, c2, c3, c4, c5, c6, c7, c8, c9⟩ := scB_cell hg
  obtain ⟨m, hm⟩ : ∃ m, s.ds.length = m := ⟨_, rfl⟩
  obtain ⟨dA, hdA⟩ : ∃ a, s.dA = a := ⟨_, rfl⟩
  rw [hdA] at HD c9
  rw [hm] at HL c9 hds
  replace hm := Lib.hid hm
  replace hdA := Lib.hid hdA
  clear hY hd hg hf hJo c0 c1 c2 c3 c4 c5 c6 c7 c8
  refine callsIn_of_wp Try.func39 rfl (hfn 39) ?_ hro
  simp only [Try.ntmps39, List.size_toArray, List.length_cons, List.length_nil, Nat.reduceAdd, Nat.reduceSub, Array.replicate_succ, Array.replicate_zero, List.push_toArray, List.append_toArray, List.nil_append, List.cons_append]
  gi_wp2
  clear c9
  gi_loopw [9] (fun y wr => ∃ i : Nat, y = .int .i64 i ∧ i ≤ m ∧ Below n₀ W wr ∧ J (upTo s i 0) wr) (fun y _ => left m y)
  case atStart =>
    exact ⟨0, rfl, Nat.zero_le _, Below.refl _ _, by rw [upTo_zero]; exact h0⟩
  case round =>
    obtain ⟨i, rfl, hi, hb, hJ⟩ := hrel
    have HB := Lib.hid hb
    clear hb
    by_cases hlt : i < m
    · obtain ⟨u, hu⟩ := HL.out i hlt
      obtain ⟨b, off, rfl, hbB, hat⟩ := HD.out.at hu
      obtain ⟨d0, d1, d2, d3, d4⟩ := atD (show AtE ED wr b (off + i * 5) u from hat.below HB.out hbB)
      have hbw : b < wr.heap.size := by have := HB.out.size; omega
      obtain ⟨q, hq⟩ : ∃ q, u.x.tris.length = q := ⟨_, rfl⟩
      have hq1 := HF.out u (List.mem_of_getElem? hu)
      rw [hq] at hq1
      rw [hq] at d4
      replace hu := Lib.hid hu
      replace hq := Lib.hid hq
      have B2 := Lib.hid (show Below n₀ W (wr.alloc (.cells #[.int .i64 u.x.id, .int .i64 u.x.prog, .int .i64 u.x.tex, .bool u.x.op, .slice u.A q u.c] 42)) from HB.out.alloc (by have := HB.out.size; omega) _)
      have J2 := Lib.hid (HJo.out _ _ (.cells #[.int .i64 u.x.id, .int .i64 u.x.prog, .int .i64 u.x.tex, .bool u.x.op, .slice u.A q u.c] 42) hJ)
      have dlt : decide ((i : Int) < m) = true := by simp; omega
      clear hat hJ
      gi_wp2
      clear d0 d1 d2 d3 d4
      gi_loopw [17] (fun x wr => ∃ k : Nat, x = .int .i64 k ∧ k ≤ q ∧ Below n₀ W wr ∧ J (upTo s i k) wr) (fun x _ => left q x)
      case atStart => exact ⟨0, rfl, Nat.zero_le _, B2.out, J2.out⟩
      case round =>
        obtain ⟨k, rfl, hk, hb, hJ⟩ := hrel
        have HBx := Lib.hid hb
        clear hb
        by_cases hkt : k < q
        · have hpre := upTo_pre hu.out (show k + 1 ≤ u.x.tris.length by rw [hq.out]; omega)
          have hlen : (upTo s i k).length < (plc s).length := by
            have := hpre.length_le
            rw [← upTo_step, List.length_append, List.length_singleton] at this
            omega
          have HS := Lib.hid (upTo_step s i k)
          obtain ⟨fn, tmps, assign, body, hy', hR⟩ := HY.out (upTo s i k) ((i : Int), (k : Int)) wr hJ hlen
          dsimp only [encs] at hy'
          have HR := Lib.hid hR
          have HPre := Lib.hid hpre
          clear hR hpre hlen hJ
          gi_wp2
          refine HR.out.mono ?_
          rintro e W3 (⟨rfl, hJ3, hk3⟩ | ⟨rfl, hJx3⟩)
          · rw [HS.out] at hJ3
            have B3 := Lib.hid (HBx.out.trans hk3)
            have HJ3 := Lib.hid hJ3
            clear hk3 hJ3
            gi_wp2
            go_roundw
            case rel => exact ⟨k + 1, by go_num, by omega, B3.out, HJ3.out⟩
            case measure => simp [left]; omega
          · rw [HS.out] at hJx3
            gi_wp2
            refine bodyPost_ret (results_none rfl _ _ _) rfl ?_
            exact ⟨⟨_, rfl⟩, .inr ⟨_, HPre.out, hJx3⟩⟩
        · obtain rfl : q = k := by omega
          have HJ := Lib.hid hJ
          clear hJ
          gi_wp2
          go_roundw
          case rel => exact ⟨i + 1, by go_num, by omega, HBx.out, by rw [← upTo_next hu.out, hq.out]; exact HJ.out⟩
          case measure => simp [left]; omega
    · obtain rfl : m = i := by omega
      have HJ := Lib.hid hJ
      clear hJ
      gi_wp2
      go_end0
      exact ⟨⟨_, rfl⟩, .inl ⟨_, rfl, by rw [← upTo_end, hm.out]; exact HJ.out⟩⟩

theorem each_stops (F : Fence) (hfn : ∀ f, F.fn f) (n : Nat) (hro : F.round = none) (hn : 2 ≤ n) (g n₀ : Nat) (s : Sc) (hf : s.few) (w : World) (hg : w.heap[g]? = some (scB s)) (hd : Es ED w n₀ s.dA s.ds) (hn₀ : n₀ ≤ w.heap.size) :
    SeqStopsK F n Try.prog 39 #[.pointer (some ⟨g, 0, none⟩)] encs (Below n₀) (fun ys => ys = plc s) (fun pre => pre <+: plc s) (plc s).length w := fun l J Jx W hW hJo _ hY h0 =>
  each1_in F hfn n hro hn l g n₀ s hf J Jx W hJo hY ((hW.block g (scB_lt hg)).trans hg) (hd.below (hW.mono hn₀)) (by have := hW.size; omega) h0
end Go.Proofs.Ytnpcmoeleigpoaa
