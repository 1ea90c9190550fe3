/-
  glazierlaw13.VmSamples, its walk.
-/
import Derived.Test.YtehkcnmjkgelkaaShown
import Derived.Test.YtehkcnmjkgelkaaRSmooth
import Derived.Test.YtehkcnmjkgelkaaFit
namespace Go.Proofs.Ytehkcnmjkgelkaa
open Go.RowKit C
attribute [local go_sem ↓] Go.wp_at_zero Go.wp_at_succ

/-- The instruction that asks for a picture. -/
def smpI (o : Int) (d : Nat) : In := ⟨o, d, 6, 7, 0⟩
theorem smpI_ok {o : Int} (ho : o = 13 ∨ o = 14) {d : Nat} (hd : d ≤ 4) : ∀ x ∈ [smpI o d], x.ok := by
  intro x hx
  obtain rfl : x = smpI o d := by simpa using hx
  unfold smpI
  constructor <;> simp <;> omega
theorem smpI_chk {o : Int} (ho : o = 13 ∨ o = 14) {d : Nat} (hd : d ≤ 4) : chk [smpI o d] = 0 := chk_good (by simp) (by simp) fun i x h => by
  obtain ⟨rfl, rfl⟩ : i = 0 ∧ x = smpI o d := by
    cases i with
    | zero => exact ⟨rfl, (by simpa using h.symm)⟩
    | succ i => simp at h
  refine decide_eq_true ?_
  rcases ho with rfl | rfl <;> simp [smpI, us, ms, lo, C.hi] <;> omega
theorem smpI_tex {o : Int} (ho : o = 13 ∨ o = 14) (d : Nat) : [smpI o d].any tex = true := by
  simp [tex, smpI]
  omega
theorem smp_none {o : Int} (ho : o = 13 ∨ o = 14) {d : Nat} (hd : d ≤ 4) (R : List Int) : runQ [smpI o d] noT R = (zero8, 0, 22) := by
  have h : chkT [smpI o d] noT = 22 := by
    unfold chkT
    rw [if_neg (by rw [smpI_chk ho hd]; decide), if_pos ⟨smpI_tex ho d, noT_right⟩]
  unfold runQ
  rw [h]
  rfl
theorem smp_runs {o : Int} (ho : o = 13 ∨ o = 14) {d : Nat} (hd : d ≤ 4) (t : Tx) (ht : t.right = true) {i n : Int} (hi : I32 i) (hn : I32 n) :
    runQ [smpI o d] t [9, 9, 9, 9, 9, 9, i, n] = (putL [9, 9, 9, 9, 9, 9, i, n] d (colL (if o = 13 then t.near i n else t.smooth i n)), 1, 0) := by
  rw [runQ_ok (chkT_of (smpI_chk ho hd) (.inr ht))]
  have hw : [9, 9, 9, 9, 9, 9, i, n].map w32 = [9, 9, 9, 9, 9, 9, i, n] := by
    show [w32 9, w32 9, w32 9, w32 9, w32 9, w32 9, w32 i, w32 n] = _
    rw [w32_id hi, w32_id hn]
    rfl
  rw [hw]
  show (let r := fin [smpI o d] t 1 0 [9, 9, 9, 9, 9, 9, i, n] 0; (r.1, r.2, (0 : Int))) = _
  rw [fin_step (x := smpI o d) rfl]
  have hx : nxt (smpI o d) 0 (ra (smpI o d) [9, 9, 9, 9, 9, 9, i, n]) = 1 := if_neg (by intro h; have := h.1; simp [smpI] at this; omega)
  rw [hx, fin_end (by simp), stepR_eq]
  show (if o = 12 then _ else if o = 13 then putL _ d (colL (t.near i n)) else if o = 14 then putL _ d (colL (t.smooth i n)) else _, 1, (0 : Int)) = _
  rw [if_neg (by omega)]
  rcases ho with rfl | rfl
  · rfl
  · rfl
theorem smp_parts {c : Col} (hc : c.ok) {d : Nat} (hd : d ≤ 4) (i n : Int) : ∃ l0 l1 l2 l3 l4 l5 l6 l7, putL [9, 9, 9, 9, 9, 9, i, n] d (colL c) = [l0, l1, l2, l3, l4, l5, l6, l7] ∧ [l0, l1, l2, l3, l4, l5, l6, l7].getD d 0 = c.r ∧ [l0, l1, l2, l3, l4, l5, l6, l7].getD (d + 1) 0 = c.g ∧ [l0, l1, l2, l3, l4, l5, l6, l7].getD (d + 2) 0 = c.b ∧ [l0, l1, l2, l3, l4, l5, l6, l7].getD (d + 3) 0 = c.a ∧ (d ≠ 0 → l0 = 9) := by
  obtain ⟨hr, hg, hb, ha⟩ := hc
  have e0 := w32_id (n := c.r) (by omega)
  have e1 := w32_id (n := c.g) (by omega)
  have e2 := w32_id (n := c.b) (by omega)
  have e3 := w32_id (n := c.a) (by omega)
  simp only [colL, putL]
  rw [e0, e1, e2, e3]
  have hw : d = 0 ∨ d = 1 ∨ d = 2 ∨ d = 3 ∨ d = 4 := by omega
  rcases hw with rfl | rfl | rfl | rfl | rfl
  · exact ⟨_, _, _, _, _, _, _, _, rfl, rfl, rfl, rfl, rfl, fun h => absurd rfl h⟩
  all_goals exact ⟨_, _, _, _, _, _, _, _, rfl, rfl, rfl, rfl, rfl, fun _ => rfl⟩
theorem eql4 (w : World) (a b c d : Int) : (binOp .eql 36 (.agg #[.int .i64 a, .int .i64 b, .int .i64 c, .int .i64 d]) (.agg #[.int .i64 a, .int .i64 b, .int .i64 c, .int .i64 d])).run Try.prog w = .ok (.bool true) w := by
  have h := run_equalIn_ints (P := Try.prog) w 9998 36 3 4 Try.underlying36 Try.underlying3 Try.sizeOf3 [a, b, c, d] [a, b, c, d] rfl rfl
  rw [run_eql_struct]
  simp only [List.map_cons, List.map_nil] at h
  rw [show (10000 : Nat) = 9998 + 2 from rfl, h, Result.andThen_ok]
  simp
theorem guard36 : Try.prog.eqGuardType Try.prog.depth 36 = false := by kernel_rfl
def atB (i n : Int) : Obj := .cells #[.int .i32 i, .int .i32 n] 53
def caB (d : Int) (b : Bool) : Obj := .cells #[.int .u8 d, .bool b] 55
theorem atB_cell {w : World} {g : Nat} {i n : Int} (h : w.heap[g]? = some (atB i n)) : w.cell? ⟨g, 0, none⟩ = some (.int .i32 i) ∧ w.cell? ⟨g, 1, none⟩ = some (.int .i32 n) := by
  unfold atB at h
  exact ⟨Joins.cell_of_block h 0, Joins.cell_of_block h 1⟩
theorem caB_cell {w : World} {g : Nat} {d : Int} {b : Bool} (h : w.heap[g]? = some (caB d b)) : w.cell? ⟨g, 0, none⟩ = some (.int .u8 d) ∧ w.cell? ⟨g, 1, none⟩ = some (.bool b) := by
  unfold caB at h
  exact ⟨Joins.cell_of_block h 0, Joins.cell_of_block h 1⟩
theorem at1_keep' {w : World} {h q : Nat} {o : Obj} (hq : q ≠ h) (e : w.heap[q]? = some o) (k : Nat) (v : Value) : (w.setCell ⟨h, k, none⟩ v).heap[q]? = some o := (heap_setCell_other _ _ _ _ hq).trans e
theorem cut_tx {w : World} {g k : Nat} {t : Tx} {a : Addr} (hl : (fewT t).px.length = 300) (h : w.heap[g]? = some (txB t (some a) k)) : (w.setCell ⟨g, 2, none⟩ (.slice (some a) 300 k)).heap[g]? = some (txB (fewT t) (some a) k) := by
  unfold txB at h
  rw [heap_setCell_same _ _ _ _ _ _ h]
  unfold txB
  rw [hl]
  simp [fewT]
theorem inB_free {w : World} {g : Nat} {x : In} (h : w.heap[g]? = some (inB x)) : w.frozen? ⟨g, 0, none⟩ = false ∧ w.frozen? ⟨g, 1, none⟩ = false ∧ w.frozen? ⟨g, 2, none⟩ = false ∧ w.frozen? ⟨g, 3, none⟩ = false ∧ w.frozen? ⟨g, 4, none⟩ = false := by
  refine ⟨?_, ?_, ?_, ?_, ?_⟩ <;> simp [World.frozen?, h]
theorem inB_op {w : World} {g : Nat} {x : In} (h : w.heap[g]? = some (inB x)) (o : Int) : (w.setCell ⟨g, 0, none⟩ (.int .u8 o)).heap[g]? = some (inB ⟨o, x.d, x.a, x.b, x.n⟩) := by
  rw [heap_setCell_same _ _ _ _ _ _ h]
  simp
theorem put4_keep' {w : World} {h q : Nat} {o : Obj} (hq : q ≠ h) (e : w.heap[q]? = some o) (a b c d : Value) :
    ((((w.setCell ⟨h, 0, none⟩ a).setCell ⟨h, 1, none⟩ b).setCell ⟨h, 2, none⟩ c).setCell ⟨h, 3, none⟩ d).heap[q]? = some o :=
  at1_keep' hq (at1_keep' hq (at1_keep' hq (at1_keep' hq e 0 a) 1 b) 2 c) 3 d
theorem fewT_small {t : Tx} (h : ¬ 300 < t.px.length) : fewT t = t := by
  unfold fewT
  rw [List.take_of_length_le (by omega)]
theorem fewT_len {t : Tx} (h : 300 < t.px.length) : (fewT t).px.length = 300 := by
  unfold fewT
  simp
  omega

attribute [local go_sem high] eql4
attribute [local go_sem] guard36
set_option maxRecDepth 100000 in
set_option maxHeartbeats 8000000 in
theorem samples_walk (t : Tx) (B : Option Addr) (k : Nat) (i n d : Int) (b : Bool) (tw : I64 t.w) (th : I64 t.h) (tc : t.px.length ≤ k) (tnil : B = none → t.px.length = 0) (tok : t.ok) (bi : I32 i) (bn : I32 n) (bd : 0 ≤ d ∧ d ≤ 255) (w : World) (te : Es EC w w.heap.size B t.px) :
    Calls Try.prog 8 #[.agg #[.int .i64 t.w, .int .i64 t.h, .slice B t.px.length k], .agg #[.int .i32 i, .int .i32 n], .agg #[.int .u8 d, .bool b]] w fun e w' => e = .returned (.bool true) ∧ Below w.heap.size w w' := by
  obtain ⟨dd, hdd, hd4⟩ : ∃ s : Nat, d.tmod 5 = s ∧ s ≤ 4 := by
    have h := Int.tmod_eq_emod_of_nonneg (b := 5) bd.1
    have h1 := Int.emod_lt_of_pos d (show (0 : Int) < 5 by decide)
    have h2 := Int.emod_nonneg d (show (5 : Int) ≠ 0 by decide)
    exact ⟨(d % 5).toNat, by omega, by omega⟩
  obtain ⟨bd0, bd1⟩ := bd
  have HSH := Lib.hid shown_any
  have HBI := Lib.hid bi
  have HBN := Lib.hid bn
  have HTE := Lib.hid (Es.take te 300)
  have HF := Lib.hid (fun W (h : Es EC W W.heap.size B (fewT t).px) => fit_any (fewT t) B k W tw th h)
  have HOK := Lib.hid (fitT_ok (fewT_ok tok))
  have HRT := Lib.hid (fitT_right (fewT t))
  have B3 := Lib.hid (show Below w.heap.size w (((w.alloc (.cells #[.int .i64 t.w, .int .i64 t.h, .slice B t.px.length k] 25)).alloc (.cells #[.int .i32 i, .int .i32 n] 53)).alloc (.cells #[.int .u8 d, .bool b] 55)) from ((new_below _ _).alloc (by simp) _).alloc (by simp; omega) _)
  have X0 := Lib.hid (show (((w.alloc (.cells #[.int .i64 t.w, .int .i64 t.h, .slice B t.px.length k] 25)).alloc (.cells #[.int .i32 i, .int .i32 n] 53)).alloc (.cells #[.int .u8 d, .bool b] 55)).heap[w.heap.size]? = some (txB t B k) from new_keep _ (new_at20 w _ _))
  have X1 := Lib.hid (show (((w.alloc (.cells #[.int .i64 t.w, .int .i64 t.h, .slice B t.px.length k] 25)).alloc (.cells #[.int .i32 i, .int .i32 n] 53)).alloc (.cells #[.int .u8 d, .bool b] 55)).heap[w.heap.size + 1]? = some (atB i n) from new_keep _ (new_at2 w _ _))
  have X2 := Lib.hid (show (((w.alloc (.cells #[.int .i64 t.w, .int .i64 t.h, .slice B t.px.length k] 25)).alloc (.cells #[.int .i32 i, .int .i32 n] 53)).alloc (.cells #[.int .u8 d, .bool b] 55)).heap[w.heap.size + 1 + 1]? = some (caB d b) from new_at3 w _ _ _)
  go_enter Try.func8, Try.ntmps8
  go_upto_region 2 with (go_at_call 9; (with_reducible refine (HSH.out _).mono ?_); rintro e w1 ⟨rfl, hb⟩; have HB1 := Lib.hid (bstep B3.out B3.out.size hb); have Y0 := Lib.hid ((hb.block _ (by simp <;> omega)).trans X0.out); have Y1 := Lib.hid ((hb.block _ (by simp <;> omega)).trans X1.out); have Y2 := Lib.hid ((hb.block _ (by simp <;> omega)).trans X2.out); clear hb)
  clear X0 X1 X2 B3 HSH
  obtain ⟨c0, c1, c2⟩ := txB_cell Y0.out
  obtain ⟨f0, f1, f2⟩ := txB_free Y0.out
  rcases Classical.em (300 < t.px.length) with h | h
  · obtain ⟨a, rfl⟩ : ∃ a, B = some a := by
      cases B with
      | none => have := tnil rfl; omega
      | some a => exact ⟨a, rfl⟩
    have h1 : (300 : Int) < (t.px.length : Int) := by omega
    have h2 : (300 : Int) ≤ (k : Int) := by omega
    have hl := fewT_len h
    have hT := cut_tx (k := k) hl Y0.out
    have HT := Lib.hid hT
    have T1 := Lib.hid (at1_keep' (h := w.heap.size) (by omega) Y1.out 2 (.slice (some a) 300 k))
    have T2 := Lib.hid (at1_keep' (h := w.heap.size) (by omega) Y2.out 2 (.slice (some a) 300 k))
    have TB := Lib.hid (HB1.out.setCell (p := ⟨w.heap.size, 2, none⟩) (Nat.le_refl _) (.slice (some a) 300 k))
    clear hT tnil
    generalize t.px.length = tl at *
    go_upto_region 4 with fail
    have BV := Lib.hid TB.out
    have V0 := Lib.hid HT.out
    have V1 := Lib.hid T1.out
    have V2 := Lib.hid T2.out
    clear TB HT T1 T2 h1 h2 hl c0 c1 c2 f0 f1 f2
    generalize w1.setCell ⟨w.heap.size, 2, none⟩ (.slice (some a) 300 k) = V at *
    obtain ⟨B, hB⟩ : ∃ B, some a = B := ⟨_, rfl⟩
    rw [hB] at HTE HF V0 ⊢
    clear hB
    have h := trivial
    have tnil := trivial
    have EV := Lib.hid (show Es EC V V.heap.size B (fewT t).px from ((show Es EC w w.heap.size B (fewT t).px from HTE.out).below BV.out).more BV.out.size)
    clear Y0 Y1 Y2 HB1 HTE tc tnil te tw th tok bi bn h
    generalize fewT t = tt at *
    obtain ⟨c0, c1, c2⟩ := txB_cell V0.out
    obtain ⟨p, hp⟩ : ∃ p, fitT tt = p := ⟨_, rfl⟩
    rw [hp] at HF HOK HRT
    clear hp
    have hv1 := (Array.getElem?_eq_some_iff.1 V1.out).1
    have hv2 := (Array.getElem?_eq_some_iff.1 V2.out).1
    go_upto_region 5 with (go_at_call 14; (with_reducible refine (HF.out _ EV.out).mono ?_); rintro e w2 ⟨A2, c2', rfl, hl2, he2, ho2, hb⟩; have BW := Lib.hid (bstep BV.out BV.out.size hb); have W1 := Lib.hid ((hb.block _ hv1).trans V1.out); have W2 := Lib.hid ((hb.block _ hv2).trans V2.out); have EW := Lib.hid he2; clear hb he2 ho2 hl2)
    have BU := Lib.hid (bstep BW.out BW.out.size (new_below w2 (.cells #[.int .i64 p.w, .int .i64 p.h, .slice A2 p.px.length c2'] 25)))
    have U0 := Lib.hid (show (w2.alloc (.cells #[.int .i64 p.w, .int .i64 p.h, .slice A2 p.px.length c2'] 25)).heap[w2.heap.size]? = some (txB p A2 c2') from new_at1 _ _)
    have U1 := Lib.hid (new_keep (.cells #[.int .i64 p.w, .int .i64 p.h, .slice A2 p.px.length c2'] 25) W1.out)
    have U2 := Lib.hid (new_keep (.cells #[.int .i64 p.w, .int .i64 p.h, .slice A2 p.px.length c2'] 25) W2.out)
    have EU := Lib.hid (EW.out.up (new_below w2 (.cells #[.int .i64 p.w, .int .i64 p.h, .slice A2 p.px.length c2'] 25)))
    clear BW W1 W2 EW EV V0 V1 V2 BV HF hv1 hv2 c0 c1 c2
    generalize w2.alloc (.cells #[.int .i64 p.w, .int .i64 p.h, .slice A2 p.px.length c2'] 25) = U at *
    generalize w2.heap.size = f at *
    have hu0 := txB_lt U0.out
    have hu1 := (Array.getElem?_eq_some_iff.1 U1.out).1
    have hu2 := (Array.getElem?_eq_some_iff.1 U2.out).1
    obtain ⟨z0, z1⟩ := caB_cell U2.out
    have D0 := Lib.hid (new_below U (.cells #[.int .u8 13, .int .u8 dd, .int .u8 6, .int .u8 7, .int .i64 0] 45))
    have Q0 := Lib.hid (show (U.alloc (.cells #[.int .u8 13, .int .u8 dd, .int .u8 6, .int .u8 7, .int .i64 0] 45)).heap[U.heap.size]? = some (inB (smpI 13 dd)) from new_at1 _ _)
    go_upto_region 7 with fail
    clear z0 z1
    generalize U.alloc (.cells #[.int .u8 13, .int .u8 dd, .int .u8 6, .int .u8 7, .int .i64 0] 45) = X at *
    obtain ⟨q, hq⟩ : ∃ q, U.heap.size = q := ⟨_, rfl⟩
    have hUq := Lib.hid hq
    rw [hq] at Q0 ⊢
    have hu0q : f < q := by omega
    have hu1q : w.heap.size + 1 < q := by omega
    have hu2q : w.heap.size + 1 + 1 < q := by omega
    clear hq
    have hqX := (Array.getElem?_eq_some_iff.1 Q0.out).1
    have EX := Lib.hid ((EU.out.below D0.out).more D0.out.size)
    obtain ⟨nc, hnc⟩ : ∃ c, p.near i n = c := ⟨_, rfl⟩
    have hnear := fun W (h : Es EC W W.heap.size A2 p.px) => rnear_any p A2 c2' i n (by have := HBI.out; unfold Far; omega) (by have := HBN.out; unfold Far; omega) W h
    rw [hnc] at hnear
    have HNEAR := Lib.hid hnear
    have HNC := Lib.hid (show nc.ok from hnc ▸ Tx.at_ok HOK.out _ _)
    have HNQ := Lib.hid hnc
    clear hnear hnc
    obtain ⟨a0, a1⟩ := atB_cell ((D0.out.block _ hu1).trans U1.out)
    obtain ⟨t0, t1, t2⟩ := txB_cell ((D0.out.block _ hu0).trans U0.out)
    obtain ⟨bi0, bi1⟩ := HBI.out
    obtain ⟨bn0, bn1⟩ := HBN.out
    go_upto_region 8 with (go_at_call 20; (with_reducible refine (HNEAR.out _ EX.out).mono ?_); rintro e w3 ⟨rfl, hb⟩; have D1 := Lib.hid (bstep D0.out D0.out.size hb); have Q1 := Lib.hid ((hb.block _ hqX).trans Q0.out); clear hb)
    have D2 := Lib.hid (bstep D1.out D1.out.size (new_below w3 (.cells #[.int .u8 nc.r, .int .u8 nc.g, .int .u8 nc.b, .int .u8 nc.a] 38)))
    have Q2 := Lib.hid (new_keep (.cells #[.int .u8 nc.r, .int .u8 nc.g, .int .u8 nc.b, .int .u8 nc.a] 38) Q1.out)
    have K2 := Lib.hid (show (w3.alloc (.cells #[.int .u8 nc.r, .int .u8 nc.g, .int .u8 nc.b, .int .u8 nc.a] 38)).heap[w3.heap.size]? = some (colB nc) from new_at1 _ _)
    have hq3 := (Array.getElem?_eq_some_iff.1 Q1.out).1
    clear D0 Q0 D1 Q1 EX HNEAR hqX a0 a1 t0 t1 t2
    generalize w3.alloc (.cells #[.int .u8 nc.r, .int .u8 nc.g, .int .u8 nc.b, .int .u8 nc.a] 38) = V at *
    obtain ⟨h, hh⟩ : ∃ h, w3.heap.size = h := ⟨_, rfl⟩
    rw [hh] at K2 hq3 ⊢
    have hqh : q ≠ h := by omega
    clear hh
    obtain ⟨z0, z1⟩ := caB_cell ((D2.out.block _ hu2).trans U2.out)
    cases b
    · go_upto_region 11 with fail
      clear z0 z1
      have D := Lib.hid D2.out
      have Q := Lib.hid Q2.out
      have K := Lib.hid K2.out
      have HCOK := Lib.hid HNC.out
      clear D2 Q2 K2 HNC
      have ho : (13 : Int) = 13 ∨ (13 : Int) = 14 := by decide
      have hruns := smp_runs ho hd4 p HRT.out HBI.out HBN.out
      obtain ⟨l0, l1, l2, l3, l4, l5, l6, l7, hL, g0, g1, g2, g3, g9⟩ := smp_parts HCOK.out hd4 i n
      have hrun := fun A W (h : Es EI W W.heap.size A [smpI 13 dd]) (hp : Es EC W W.heap.size A2 p.px) => run_any [smpI 13 dd] A 1 p A2 c2' 9 9 9 9 9 9 i n (smpI_ok ho hd4) HOK.out W h hp
      rw [hruns] at hrun
      rw [if_pos rfl, HNQ.out] at hrun
      rw [hL] at hrun
      simp only [runV, regC, List.map_cons, List.map_nil] at hrun
      have HRUN := Lib.hid hrun
      have hnon := fun A W (h : Es EI W W.heap.size A [smpI 13 dd]) => run_any [smpI 13 dd] A 1 noT none 0 0 0 0 0 0 0 0 0 (smpI_ok ho hd4) noT_ok W h Es.none_
      rw [smp_none ho hd4] at hnon
      simp only [runV, regC, zero8, List.map_cons, List.map_nil] at hnon
      have HNON := Lib.hid hnon
      clear hruns hrun hnon hL
      obtain ⟨x0, x1, x2, x3, x4⟩ := inB_cell Q.out
      obtain ⟨a0, a1⟩ := atB_cell ((D.out.block _ hu1).trans U1.out)
      obtain ⟨t0, t1, t2⟩ := txB_cell ((D.out.block _ hu0).trans U0.out)
      have QS := Lib.hid (new_at1 V (.cells #[.int .u8 13, .int .u8 dd, .int .u8 6, .int .u8 7, .int .i64 0] 45))
      have DS := Lib.hid (bstep D.out D.out.size (new_below V (.cells #[.int .u8 13, .int .u8 dd, .int .u8 6, .int .u8 7, .int .i64 0] 45)))
      have ES := Lib.hid ((EU.out.below DS.out).more DS.out.size)
      have hqV := (Array.getElem?_eq_some_iff.1 Q.out).1
      have hhV := (Array.getElem?_eq_some_iff.1 K.out).1
      have hfV := Nat.lt_of_lt_of_le hu0 D.out.size
      have h1V := Nat.lt_of_lt_of_le hu1 D.out.size
      go_upto_region 12 with (go_at_call 11; refine (HRUN.out (some ⟨_, 0, none⟩) _ (ins_at (x := smpI 13 dd) QS.out) ES.out).mono ?_; rintro e W ⟨rfl, hb⟩; have DW := Lib.hid (bstep DS.out DS.out.size hb); have QW := Lib.hid ((hb.block _ (by simp; omega)).trans (new_keep _ Q.out)); have KW := Lib.hid ((hb.block _ (by simp; omega)).trans (new_keep _ K.out)); clear hb)
      have RW0 := Lib.hid (new_at1 W (RB [l0, l1, l2, l3, l4, l5, l6, l7]))
      have DR := Lib.hid (bstep DW.out DW.out.size (new_below W (RB [l0, l1, l2, l3, l4, l5, l6, l7])))
      have QR := Lib.hid (new_keep (RB [l0, l1, l2, l3, l4, l5, l6, l7]) QW.out)
      have KR := Lib.hid (new_keep (RB [l0, l1, l2, l3, l4, l5, l6, l7]) KW.out)
      clear QW KW DW QS DS ES Q K D a0 a1 t0 t1 t2 x0 x1 x2 x3 x4 hqV hhV hfV h1V
      change Code.wp _ _ _ _ (W.alloc (RB [l0, l1, l2, l3, l4, l5, l6, l7]))
      generalize W.alloc (RB [l0, l1, l2, l3, l4, l5, l6, l7]) = R at *
      generalize W.heap.size = rb at *
      obtain ⟨x0, x1, x2, x3, x4⟩ := inB_cell QR.out
      have QS := Lib.hid (new_at1 R (.cells #[.int .u8 13, .int .u8 dd, .int .u8 6, .int .u8 7, .int .i64 0] 45))
      have DS := Lib.hid (bstep DR.out DR.out.size (new_below R (.cells #[.int .u8 13, .int .u8 dd, .int .u8 6, .int .u8 7, .int .i64 0] 45)))
      have hrR := RB_lt RW0.out
      have hkR := (Array.getElem?_eq_some_iff.1 KR.out).1
      go_upto_region 13 with (go_at_call 11; refine (HNON.out (some ⟨_, 0, none⟩) _ (ins_at (x := smpI 13 dd) QS.out)).mono ?_; rintro e W2 ⟨rfl, hb⟩; have DW := Lib.hid (bstep DS.out DS.out.size hb); have RW2 := Lib.hid ((hb.block _ (by simp; omega)).trans (new_keep _ RW0.out)); have KW := Lib.hid ((hb.block _ (by simp; omega)).trans (new_keep _ KR.out)); clear hb)
      have DF := Lib.hid (bstep DW.out DW.out.size (new_below W2 (RB zero8)))
      have RF := Lib.hid (new_keep (RB zero8) RW2.out)
      have KF := Lib.hid (new_keep (RB zero8) KW.out)
      change Code.wp _ _ _ _ (W2.alloc (RB zero8))
      clear DW RW2 KW QS DS DR QR KR RW0 x0 x1 x2 x3 x4 hrR hkR HRUN HNON
      generalize W2.alloc (RB zero8) = T at *
      have BT := Lib.hid (bstep BU.out BU.out.size DF.out)
      have s0 := RB_cell RF.out (k := dd) (by simp; omega)
      have s1 := RB_cell RF.out (k := dd + 1) (by simp; omega)
      have s2 := RB_cell RF.out (k := dd + 2) (by simp; omega)
      have s3 := RB_cell RF.out (k := dd + 3) (by simp; omega)
      have s9 := RB_cell RF.out (k := 0) (by simp)
      rw [g0] at s0
      rw [g1] at s1
      rw [g2] at s2
      rw [g3] at s3
      have HS9 := Lib.hid (show T.cell? ⟨rb, 0, none⟩ = some (.int .i64 l0) from s9)
      have y0 : ∀ z : Grow T, z.w.cell? ⟨rb, dd, none⟩ = some (.int .i64 nc.r) := fun z => z.cell s0
      have y1 : ∀ z : Grow T, z.w.cell? ⟨rb, dd + 1, none⟩ = some (.int .i64 nc.g) := fun z => z.cell s1
      have y2 : ∀ z : Grow T, z.w.cell? ⟨rb, dd + 2, none⟩ = some (.int .i64 nc.b) := fun z => z.cell s2
      have y3 : ∀ z : Grow T, z.w.cell? ⟨rb, dd + 3, none⟩ = some (.int .i64 nc.a) := fun z => z.cell s3
      have w1 : IntKind.u8.wrap ((dd : Int) + 1) = ((dd + 1 : Nat) : Int) := by rw [IntKind.wrap_u8]; omega
      have w2 : IntKind.u8.wrap ((dd : Int) + 2) = ((dd + 2 : Nat) : Int) := by rw [IntKind.wrap_u8]; omega
      have w3 : IntKind.u8.wrap ((dd : Int) + 3) = ((dd + 3 : Nat) : Int) := by rw [IntKind.wrap_u8]; omega
      have T0 := Lib.hid (Below.refl T.heap.size T).drew
      refine wp_region_held_drew (S := fun w' => ∃ x : Grow T, w' = x.w) (by kernel_rfl) ⟨⟨_, T0.out⟩, rfl⟩ (fun hS => ?_)
      refine wpAnyH_take (i := 0) (v := .int .u8 dd) rfl (by kernel_rfl) (by kernel_rfl) (by kernel_rfl) (fun _ _ _ h => h) (Or.inl ⟨by rfl, fun w hw => by obtain ⟨x, rfl⟩ := hw; go_simp⟩) hS ?_
      try simp only [Act.put, List.setIfInBounds_toArray, List.set_cons_zero, List.set_cons_succ, List.getElem_toArray, List.getElem_cons_zero]
      refine wpAnyH_take (i := 1) (v := .pointer (some ⟨rb, dd, none⟩)) rfl (by kernel_rfl) (by kernel_rfl) (by kernel_rfl) (fun _ _ _ h => h) (Or.inl ⟨by rfl, fun w hw => by obtain ⟨x, rfl⟩ := hw; go_simp; first | done | (intro h; omega) | (rw [if_pos (show 0 ≤ (dd : Int) + 0 ∧ (dd : Int) + 0 < 8 by omega), show ((dd : Int) + 0).toNat = dd + 0 by omega])⟩) hS ?_
      try simp only [Act.put, List.setIfInBounds_toArray, List.set_cons_zero, List.set_cons_succ, List.getElem_toArray, List.getElem_cons_zero, List.getElem_cons_succ]
      refine wpAnyH_take (i := 2) (v := .int .i64 nc.r) rfl (by kernel_rfl) (by kernel_rfl) (by kernel_rfl) (fun _ _ _ h => h) (Or.inl ⟨by rfl, fun w hw => by obtain ⟨x, rfl⟩ := hw; go_simp⟩) hS ?_
      try simp only [Act.put, List.setIfInBounds_toArray, List.set_cons_zero, List.set_cons_succ, List.getElem_toArray, List.getElem_cons_zero, List.getElem_cons_succ]
      refine wpAnyH_take (i := 3) (v := .int .u8 dd) rfl (by kernel_rfl) (by kernel_rfl) (by kernel_rfl) (fun _ _ _ h => h) (Or.inl ⟨by rfl, fun w hw => by obtain ⟨x, rfl⟩ := hw; go_simp⟩) hS ?_
      try simp only [Act.put, List.setIfInBounds_toArray, List.set_cons_zero, List.set_cons_succ, List.getElem_toArray, List.getElem_cons_zero, List.getElem_cons_succ]
      refine wpAnyH_take (i := 4) (v := .int .u8 ((dd + 1 : Nat) : Int)) rfl (by kernel_rfl) (by kernel_rfl) (by kernel_rfl) (fun _ _ _ h => h) (Or.inl ⟨by rfl, fun w hw => by obtain ⟨x, rfl⟩ := hw; go_simp⟩) hS ?_
      try simp only [Act.put, List.setIfInBounds_toArray, List.set_cons_zero, List.set_cons_succ, List.getElem_toArray, List.getElem_cons_zero, List.getElem_cons_succ]
      refine wpAnyH_take (i := 5) (v := .pointer (some ⟨rb, dd + 1, none⟩)) rfl (by kernel_rfl) (by kernel_rfl) (by kernel_rfl) (fun _ _ _ h => h) (Or.inl ⟨by rfl, fun w hw => by obtain ⟨x, rfl⟩ := hw; go_simp; first | done | (intro h; omega) | (rw [if_pos (show 0 ≤ (dd : Int) + 1 ∧ (dd : Int) + 1 < 8 by omega), show ((dd : Int) + 1).toNat = dd + 1 by omega])⟩) hS ?_
      try simp only [Act.put, List.setIfInBounds_toArray, List.set_cons_zero, List.set_cons_succ, List.getElem_toArray, List.getElem_cons_zero, List.getElem_cons_succ]
      refine wpAnyH_take (i := 6) (v := .int .i64 nc.g) rfl (by kernel_rfl) (by kernel_rfl) (by kernel_rfl) (fun _ _ _ h => h) (Or.inl ⟨by rfl, fun w hw => by obtain ⟨x, rfl⟩ := hw; go_simp⟩) hS ?_
      try simp only [Act.put, List.setIfInBounds_toArray, List.set_cons_zero, List.set_cons_succ, List.getElem_toArray, List.getElem_cons_zero, List.getElem_cons_succ]
      refine wpAnyH_take (i := 7) (v := .int .u8 dd) rfl (by kernel_rfl) (by kernel_rfl) (by kernel_rfl) (fun _ _ _ h => h) (Or.inl ⟨by rfl, fun w hw => by obtain ⟨x, rfl⟩ := hw; go_simp⟩) hS ?_
      try simp only [Act.put, List.setIfInBounds_toArray, List.set_cons_zero, List.set_cons_succ, List.getElem_toArray, List.getElem_cons_zero, List.getElem_cons_succ]
      refine wpAnyH_take (i := 8) (v := .int .u8 ((dd + 2 : Nat) : Int)) rfl (by kernel_rfl) (by kernel_rfl) (by kernel_rfl) (fun _ _ _ h => h) (Or.inl ⟨by rfl, fun w hw => by obtain ⟨x, rfl⟩ := hw; go_simp⟩) hS ?_
      try simp only [Act.put, List.setIfInBounds_toArray, List.set_cons_zero, List.set_cons_succ, List.getElem_toArray, List.getElem_cons_zero, List.getElem_cons_succ]
      refine wpAnyH_take (i := 9) (v := .pointer (some ⟨rb, dd + 2, none⟩)) rfl (by kernel_rfl) (by kernel_rfl) (by kernel_rfl) (fun _ _ _ h => h) (Or.inl ⟨by rfl, fun w hw => by obtain ⟨x, rfl⟩ := hw; go_simp; first | done | (intro h; omega) | (rw [if_pos (show 0 ≤ (dd : Int) + 2 ∧ (dd : Int) + 2 < 8 by omega), show ((dd : Int) + 2).toNat = dd + 2 by omega])⟩) hS ?_
      try simp only [Act.put, List.setIfInBounds_toArray, List.set_cons_zero, List.set_cons_succ, List.getElem_toArray, List.getElem_cons_zero, List.getElem_cons_succ]
      refine wpAnyH_take (i := 10) (v := .int .i64 nc.b) rfl (by kernel_rfl) (by kernel_rfl) (by kernel_rfl) (fun _ _ _ h => h) (Or.inl ⟨by rfl, fun w hw => by obtain ⟨x, rfl⟩ := hw; go_simp⟩) hS ?_
      try simp only [Act.put, List.setIfInBounds_toArray, List.set_cons_zero, List.set_cons_succ, List.getElem_toArray, List.getElem_cons_zero, List.getElem_cons_succ]
      refine wpAnyH_take (i := 11) (v := .int .u8 dd) rfl (by kernel_rfl) (by kernel_rfl) (by kernel_rfl) (fun _ _ _ h => h) (Or.inl ⟨by rfl, fun w hw => by obtain ⟨x, rfl⟩ := hw; go_simp⟩) hS ?_
      try simp only [Act.put, List.setIfInBounds_toArray, List.set_cons_zero, List.set_cons_succ, List.getElem_toArray, List.getElem_cons_zero, List.getElem_cons_succ]
      refine wpAnyH_take (i := 12) (v := .int .u8 ((dd + 3 : Nat) : Int)) rfl (by kernel_rfl) (by kernel_rfl) (by kernel_rfl) (fun _ _ _ h => h) (Or.inl ⟨by rfl, fun w hw => by obtain ⟨x, rfl⟩ := hw; go_simp⟩) hS ?_
      try simp only [Act.put, List.setIfInBounds_toArray, List.set_cons_zero, List.set_cons_succ, List.getElem_toArray, List.getElem_cons_zero, List.getElem_cons_succ]
      refine wpAnyH_take (i := 13) (v := .pointer (some ⟨rb, dd + 3, none⟩)) rfl (by kernel_rfl) (by kernel_rfl) (by kernel_rfl) (fun _ _ _ h => h) (Or.inl ⟨by rfl, fun w hw => by obtain ⟨x, rfl⟩ := hw; go_simp; first | done | (intro h; omega) | (rw [if_pos (show 0 ≤ (dd : Int) + 3 ∧ (dd : Int) + 3 < 8 by omega), show ((dd : Int) + 3).toNat = dd + 3 by omega])⟩) hS ?_
      try simp only [Act.put, List.setIfInBounds_toArray, List.set_cons_zero, List.set_cons_succ, List.getElem_toArray, List.getElem_cons_zero, List.getElem_cons_succ]
      refine wpAnyH_take (i := 14) (v := .int .i64 nc.a) rfl (by kernel_rfl) (by kernel_rfl) (by kernel_rfl) (fun _ _ _ h => h) (Or.inl ⟨by rfl, fun w hw => by obtain ⟨x, rfl⟩ := hw; go_simp⟩) hS ?_
      try simp only [Act.put, List.setIfInBounds_toArray, List.set_cons_zero, List.set_cons_succ, List.getElem_toArray, List.getElem_cons_zero, List.getElem_cons_succ]
      refine wpAnyH_take (i := 15) (v := .agg #[.int .i64 nc.r, .int .i64 nc.g, .int .i64 nc.b, .int .i64 nc.a]) rfl (by kernel_rfl) (by kernel_rfl) (by kernel_rfl) (fun _ _ _ h => h) (Or.inl ⟨by rfl, fun w hw => by obtain ⟨x, rfl⟩ := hw; go_simp⟩) hS ?_
      try simp only [Act.put, List.setIfInBounds_toArray, List.set_cons_zero, List.set_cons_succ, List.getElem_toArray, List.getElem_cons_zero, List.getElem_cons_succ]
      refine wpAnyH_ready (rs := [16]) (by kernel_rfl) (by simp) ?_
      refine AllReadyH.cons rfl (fun K hK => ?_) AllReadyH.nil
      go_simp
      have T1 := Lib.hid (T0.out.alloc (by simp) (.cells #[.int .i64 0, .int .i64 0, .int .i64 0, .int .i64 0] 36))
      refine hK.out _ _ ⟨⟨_, T1.out⟩, rfl⟩ (fun hS => ?_)
      clear hK K
      try simp only [Act.put, List.setIfInBounds_toArray, List.set_cons_zero, List.set_cons_succ, List.getElem_toArray, List.getElem_cons_zero, List.getElem_cons_succ]
      refine wpAnyH_ready (rs := [17]) (by kernel_rfl) (by simp) ?_
      refine AllReadyH.cons rfl (fun K hK => ?_) AllReadyH.nil
      go_simp
      have T2 := Lib.hid (T0.out.alloc (by simp) (.cells #[.int .i64 nc.r, .int .i64 nc.g, .int .i64 nc.b, .int .i64 nc.a] 36))
      refine hK.out _ _ ⟨⟨_, T2.out⟩, rfl⟩ (fun hS => ?_)
      clear hK K
      try simp only [Act.put, List.setIfInBounds_toArray, List.set_cons_zero, List.set_cons_succ, List.getElem_toArray, List.getElem_cons_zero, List.getElem_cons_succ]
      refine wpAnyH_done (by kernel_rfl) ?_ _
      have NB := Lib.hid (show (T.alloc (.cells #[.int .i64 nc.r, .int .i64 nc.g, .int .i64 nc.b, .int .i64 nc.a] 36)).drew.heap[T.heap.size]? = some (.cells #[.int .i64 nc.r, .int .i64 nc.g, .int .i64 nc.b, .int .i64 nc.a] 36) from new_at1 T _)
      have KT := Lib.hid (show (T.alloc (.cells #[.int .i64 nc.r, .int .i64 nc.g, .int .i64 nc.b, .int .i64 nc.a] 36)).drew.heap[h]? = some (colB nc) from new_keep _ KF.out)
      have CT := Lib.hid (show (T.alloc (.cells #[.int .i64 nc.r, .int .i64 nc.g, .int .i64 nc.b, .int .i64 nc.a] 36)).drew.cell? ⟨rb, 0, none⟩ = some (.int .i64 l0) from new_cell _ HS9.out)
      have BE := Lib.hid ((bstep BT.out BT.out.size (new_below T (.cells #[.int .i64 nc.r, .int .i64 nc.g, .int .i64 nc.b, .int .i64 nc.a] 36))).drew)
      clear y0 y1 y2 y3 w1 w2 w3 T0 T1 T2 hS s0 s1 s2 s3 s9 HS9 KF RF DF
      generalize (T.alloc (.cells #[.int .i64 nc.r, .int .i64 nc.g, .int .i64 nc.b, .int .i64 nc.a] 36)).drew = Y at *
      generalize T.heap.size = gb at *
      have n0 := Joins.cell_of_block NB.out 0
      have n1 := Joins.cell_of_block NB.out 1
      have n2 := Joins.cell_of_block NB.out 2
      have n3 := Joins.cell_of_block NB.out 3
      obtain ⟨k0, k1, k2, k3⟩ := colB_cell KT.out
      have c9 := CT.out
      obtain ⟨⟨v0, v1⟩, ⟨v2, v3⟩, ⟨v4, v5⟩, ⟨v6, v7⟩⟩ := HCOK.out
      rcases Classical.em (dd = 0) with e0 | e0
      · have z : ((dd : Int) == 0) = true := by simpa using e0
        go_wp2_with fail
        go_ret
        exact ⟨rfl, BE.out⟩
      · have z : ((dd : Int) == 0) = false := by simpa using e0
        have e9 := g9 e0
        rw [e9] at c9
        go_wp2_with fail
        go_ret
        exact ⟨rfl, BE.out⟩
    · obtain ⟨x0, x1, x2, x3, x4⟩ := inB_cell Q2.out
      obtain ⟨f0, f1, f2, f3, f4⟩ := inB_free Q2.out
      have D3 := Lib.hid (D2.out.setCell (p := ⟨q, 0, none⟩) (show U.heap.size ≤ q by rw [hUq.out]; exact Nat.le_refl q) (.int .u8 14))
      have Q3 := Lib.hid (inB_op Q2.out 14)
      have K3 := Lib.hid (at1_keep' (h := q) (fun e => hqh e.symm) K2.out 0 (.int .u8 14))
      go_upto_region 10 with fail
      clear D2 Q2 K2 x0 x1 x2 x3 x4 f0 f1 f2 f3 f4 z0 z1
      generalize V.setCell ⟨q, 0, none⟩ (.int .u8 14) = V3 at *
      have E3 := Lib.hid ((EU.out.below D3.out).more D3.out.size)
      obtain ⟨sc, hsc⟩ : ∃ c, p.smooth i n = c := ⟨_, rfl⟩
      have hsm := fun W (h : Es EC W W.heap.size A2 p.px) => rsmooth_any p HOK.out A2 c2' i n (by unfold Far; omega) (by unfold Far; omega) W h
      rw [hsc] at hsm
      have HSM := Lib.hid hsm
      have HCOK := Lib.hid (show sc.ok from hsc ▸ Tx.smooth_ok HOK.out _ _)
      have HSQ := Lib.hid hsc
      clear hsm hsc
      obtain ⟨a0, a1⟩ := atB_cell ((D3.out.block _ hu1).trans U1.out)
      obtain ⟨t0, t1, t2⟩ := txB_cell ((D3.out.block _ hu0).trans U0.out)
      go_upto_region 11 with (go_at_call 21; (with_reducible refine (HSM.out _ E3.out).mono ?_); rintro e w4 ⟨rfl, hb⟩; have D4 := Lib.hid (bstep D3.out D3.out.size hb); have Q4 := Lib.hid ((hb.block _ (Array.getElem?_eq_some_iff.1 Q3.out).1).trans Q3.out); have K4 := Lib.hid ((hb.block _ (Array.getElem?_eq_some_iff.1 K3.out).1).trans K3.out); obtain ⟨k0, k1, k2, k3⟩ := colB_cell K4.out; obtain ⟨f0, f1, f2, f3⟩ := colB_free K4.out; clear hb)
      have D := Lib.hid (col_set w4 h U.heap.size sc D4.out (show U.heap.size ≤ h by rw [hUq.out]; omega))
      have Q := Lib.hid (put4_keep' hqh Q4.out (.int .u8 sc.r) (.int .u8 sc.g) (.int .u8 sc.b) (.int .u8 sc.a))
      have K := Lib.hid (colB_set sc K4.out)
      clear D3 Q3 K3 D4 Q4 K4 E3 HSM k0 k1 k2 k3 f0 f1 f2 f3 a0 a1 t0 t1 t2 HNC HNQ
      generalize (((w4.setCell ⟨h, 0, none⟩ (.int .u8 sc.r)).setCell ⟨h, 1, none⟩ (.int .u8 sc.g)).setCell ⟨h, 2, none⟩ (.int .u8 sc.b)).setCell ⟨h, 3, none⟩ (.int .u8 sc.a) = V at *
      have ho : (14 : Int) = 13 ∨ (14 : Int) = 14 := by decide
      have hruns := smp_runs ho hd4 p HRT.out HBI.out HBN.out
      obtain ⟨l0, l1, l2, l3, l4, l5, l6, l7, hL, g0, g1, g2, g3, g9⟩ := smp_parts HCOK.out hd4 i n
      have hrun := fun A W (h : Es EI W W.heap.size A [smpI 14 dd]) (hp : Es EC W W.heap.size A2 p.px) => run_any [smpI 14 dd] A 1 p A2 c2' 9 9 9 9 9 9 i n (smpI_ok ho hd4) HOK.out W h hp
      rw [hruns] at hrun
      rw [if_neg (show ¬ (14 : Int) = 13 by decide), HSQ.out] at hrun
      rw [hL] at hrun
      simp only [runV, regC, List.map_cons, List.map_nil] at hrun
      have HRUN := Lib.hid hrun
      have hnon := fun A W (h : Es EI W W.heap.size A [smpI 14 dd]) => run_any [smpI 14 dd] A 1 noT none 0 0 0 0 0 0 0 0 0 (smpI_ok ho hd4) noT_ok W h Es.none_
      rw [smp_none ho hd4] at hnon
      simp only [runV, regC, zero8, List.map_cons, List.map_nil] at hnon
      have HNON := Lib.hid hnon
      clear hruns hrun hnon hL
      obtain ⟨x0, x1, x2, x3, x4⟩ := inB_cell Q.out
      obtain ⟨a0, a1⟩ := atB_cell ((D.out.block _ hu1).trans U1.out)
      obtain ⟨t0, t1, t2⟩ := txB_cell ((D.out.block _ hu0).trans U0.out)
      have QS := Lib.hid (new_at1 V (.cells #[.int .u8 14, .int .u8 dd, .int .u8 6, .int .u8 7, .int .i64 0] 45))
      have DS := Lib.hid (bstep D.out D.out.size (new_below V (.cells #[.int .u8 14, .int .u8 dd, .int .u8 6, .int .u8 7, .int .i64 0] 45)))
      have ES := Lib.hid ((EU.out.below DS.out).more DS.out.size)
      have hqV := (Array.getElem?_eq_some_iff.1 Q.out).1
      have hhV := (Array.getElem?_eq_some_iff.1 K.out).1
      have hfV := Nat.lt_of_lt_of_le hu0 D.out.size
      have h1V := Nat.lt_of_lt_of_le hu1 D.out.size
      go_upto_region 12 with (go_at_call 11; refine (HRUN.out (some ⟨_, 0, none⟩) _ (ins_at (x := smpI 14 dd) QS.out) ES.out).mono ?_; rintro e W ⟨rfl, hb⟩; have DW := Lib.hid (bstep DS.out DS.out.size hb); have QW := Lib.hid ((hb.block _ (by simp; omega)).trans (new_keep _ Q.out)); have KW := Lib.hid ((hb.block _ (by simp; omega)).trans (new_keep _ K.out)); clear hb)
      have RW0 := Lib.hid (new_at1 W (RB [l0, l1, l2, l3, l4, l5, l6, l7]))
      have DR := Lib.hid (bstep DW.out DW.out.size (new_below W (RB [l0, l1, l2, l3, l4, l5, l6, l7])))
      have QR := Lib.hid (new_keep (RB [l0, l1, l2, l3, l4, l5, l6, l7]) QW.out)
      have KR := Lib.hid (new_keep (RB [l0, l1, l2, l3, l4, l5, l6, l7]) KW.out)
      clear QW KW DW QS DS ES Q K D a0 a1 t0 t1 t2 x0 x1 x2 x3 x4 hqV hhV hfV h1V
      change Code.wp _ _ _ _ (W.alloc (RB [l0, l1, l2, l3, l4, l5, l6, l7]))
      generalize W.alloc (RB [l0, l1, l2, l3, l4, l5, l6, l7]) = R at *
      generalize W.heap.size = rb at *
      obtain ⟨x0, x1, x2, x3, x4⟩ := inB_cell QR.out
      have QS := Lib.hid (new_at1 R (.cells #[.int .u8 14, .int .u8 dd, .int .u8 6, .int .u8 7, .int .i64 0] 45))
      have DS := Lib.hid (bstep DR.out DR.out.size (new_below R (.cells #[.int .u8 14, .int .u8 dd, .int .u8 6, .int .u8 7, .int .i64 0] 45)))
      have hrR := RB_lt RW0.out
      have hkR := (Array.getElem?_eq_some_iff.1 KR.out).1
      go_upto_region 13 with (go_at_call 11; refine (HNON.out (some ⟨_, 0, none⟩) _ (ins_at (x := smpI 14 dd) QS.out)).mono ?_; rintro e W2 ⟨rfl, hb⟩; have DW := Lib.hid (bstep DS.out DS.out.size hb); have RW2 := Lib.hid ((hb.block _ (by simp; omega)).trans (new_keep _ RW0.out)); have KW := Lib.hid ((hb.block _ (by simp; omega)).trans (new_keep _ KR.out)); clear hb)
      have DF := Lib.hid (bstep DW.out DW.out.size (new_below W2 (RB zero8)))
      have RF := Lib.hid (new_keep (RB zero8) RW2.out)
      have KF := Lib.hid (new_keep (RB zero8) KW.out)
      change Code.wp _ _ _ _ (W2.alloc (RB zero8))
      clear DW RW2 KW QS DS DR QR KR RW0 x0 x1 x2 x3 x4 hrR hkR HRUN HNON
      generalize W2.alloc (RB zero8) = T at *
      have BT := Lib.hid (bstep BU.out BU.out.size DF.out)
      have s0 := RB_cell RF.out (k := dd) (by simp; omega)
      have s1 := RB_cell RF.out (k := dd + 1) (by simp; omega)
      have s2 := RB_cell RF.out (k := dd + 2) (by simp; omega)
      have s3 := RB_cell RF.out (k := dd + 3) (by simp; omega)
      have s9 := RB_cell RF.out (k := 0) (by simp)
      rw [g0] at s0
      rw [g1] at s1
      rw [g2] at s2
      rw [g3] at s3
      have HS9 := Lib.hid (show T.cell? ⟨rb, 0, none⟩ = some (.int .i64 l0) from s9)
      have y0 : ∀ z : Grow T, z.w.cell? ⟨rb, dd, none⟩ = some (.int .i64 sc.r) := fun z => z.cell s0
      have y1 : ∀ z : Grow T, z.w.cell? ⟨rb, dd + 1, none⟩ = some (.int .i64 sc.g) := fun z => z.cell s1
      have y2 : ∀ z : Grow T, z.w.cell? ⟨rb, dd + 2, none⟩ = some (.int .i64 sc.b) := fun z => z.cell s2
      have y3 : ∀ z : Grow T, z.w.cell? ⟨rb, dd + 3, none⟩ = some (.int .i64 sc.a) := fun z => z.cell s3
      have w1 : IntKind.u8.wrap ((dd : Int) + 1) = ((dd + 1 : Nat) : Int) := by rw [IntKind.wrap_u8]; omega
      have w2 : IntKind.u8.wrap ((dd : Int) + 2) = ((dd + 2 : Nat) : Int) := by rw [IntKind.wrap_u8]; omega
      have w3 : IntKind.u8.wrap ((dd : Int) + 3) = ((dd + 3 : Nat) : Int) := by rw [IntKind.wrap_u8]; omega
      have T0 := Lib.hid (Below.refl T.heap.size T).drew
      refine wp_region_held_drew (S := fun w' => ∃ x : Grow T, w' = x.w) (by kernel_rfl) ⟨⟨_, T0.out⟩, rfl⟩ (fun hS => ?_)
      refine wpAnyH_take (i := 0) (v := .int .u8 dd) rfl (by kernel_rfl) (by kernel_rfl) (by kernel_rfl) (fun _ _ _ h => h) (Or.inl ⟨by rfl, fun w hw => by obtain ⟨x, rfl⟩ := hw; go_simp⟩) hS ?_
      try simp only [Act.put, List.setIfInBounds_toArray, List.set_cons_zero, List.set_cons_succ, List.getElem_toArray, List.getElem_cons_zero]
      refine wpAnyH_take (i := 1) (v := .pointer (some ⟨rb, dd, none⟩)) rfl (by kernel_rfl) (by kernel_rfl) (by kernel_rfl) (fun _ _ _ h => h) (Or.inl ⟨by rfl, fun w hw => by obtain ⟨x, rfl⟩ := hw; go_simp; first | done | (intro h; omega) | (rw [if_pos (show 0 ≤ (dd : Int) + 0 ∧ (dd : Int) + 0 < 8 by omega), show ((dd : Int) + 0).toNat = dd + 0 by omega])⟩) hS ?_
      try simp only [Act.put, List.setIfInBounds_toArray, List.set_cons_zero, List.set_cons_succ, List.getElem_toArray, List.getElem_cons_zero, List.getElem_cons_succ]
      refine wpAnyH_take (i := 2) (v := .int .i64 sc.r) rfl (by kernel_rfl) (by kernel_rfl) (by kernel_rfl) (fun _ _ _ h => h) (Or.inl ⟨by rfl, fun w hw => by obtain ⟨x, rfl⟩ := hw; go_simp⟩) hS ?_
      try simp only [Act.put, List.setIfInBounds_toArray, List.set_cons_zero, List.set_cons_succ, List.getElem_toArray, List.getElem_cons_zero, List.getElem_cons_succ]
      refine wpAnyH_take (i := 3) (v := .int .u8 dd) rfl (by kernel_rfl) (by kernel_rfl) (by kernel_rfl) (fun _ _ _ h => h) (Or.inl ⟨by rfl, fun w hw => by obtain ⟨x, rfl⟩ := hw; go_simp⟩) hS ?_
      try simp only [Act.put, List.setIfInBounds_toArray, List.set_cons_zero, List.set_cons_succ, List.getElem_toArray, List.getElem_cons_zero, List.getElem_cons_succ]
      refine wpAnyH_take (i := 4) (v := .int .u8 ((dd + 1 : Nat) : Int)) rfl (by kernel_rfl) (by kernel_rfl) (by kernel_rfl) (fun _ _ _ h => h) (Or.inl ⟨by rfl, fun w hw => by obtain ⟨x, rfl⟩ := hw; go_simp⟩) hS ?_
      try simp only [Act.put, List.setIfInBounds_toArray, List.set_cons_zero, List.set_cons_succ, List.getElem_toArray, List.getElem_cons_zero, List.getElem_cons_succ]
      refine wpAnyH_take (i := 5) (v := .pointer (some ⟨rb, dd + 1, none⟩)) rfl (by kernel_rfl) (by kernel_rfl) (by kernel_rfl) (fun _ _ _ h => h) (Or.inl ⟨by rfl, fun w hw => by obtain ⟨x, rfl⟩ := hw; go_simp; first | done | (intro h; omega) | (rw [if_pos (show 0 ≤ (dd : Int) + 1 ∧ (dd : Int) + 1 < 8 by omega), show ((dd : Int) + 1).toNat = dd + 1 by omega])⟩) hS ?_
      try simp only [Act.put, List.setIfInBounds_toArray, List.set_cons_zero, List.set_cons_succ, List.getElem_toArray, List.getElem_cons_zero, List.getElem_cons_succ]
      refine wpAnyH_take (i := 6) (v := .int .i64 sc.g) rfl (by kernel_rfl) (by kernel_rfl) (by kernel_rfl) (fun _ _ _ h => h) (Or.inl ⟨by rfl, fun w hw => by obtain ⟨x, rfl⟩ := hw; go_simp⟩) hS ?_
      try simp only [Act.put, List.setIfInBounds_toArray, List.set_cons_zero, List.set_cons_succ, List.getElem_toArray, List.getElem_cons_zero, List.getElem_cons_succ]
      refine wpAnyH_take (i := 7) (v := .int .u8 dd) rfl (by kernel_rfl) (by kernel_rfl) (by kernel_rfl) (fun _ _ _ h => h) (Or.inl ⟨by rfl, fun w hw => by obtain ⟨x, rfl⟩ := hw; go_simp⟩) hS ?_
      try simp only [Act.put, List.setIfInBounds_toArray, List.set_cons_zero, List.set_cons_succ, List.getElem_toArray, List.getElem_cons_zero, List.getElem_cons_succ]
      refine wpAnyH_take (i := 8) (v := .int .u8 ((dd + 2 : Nat) : Int)) rfl (by kernel_rfl) (by kernel_rfl) (by kernel_rfl) (fun _ _ _ h => h) (Or.inl ⟨by rfl, fun w hw => by obtain ⟨x, rfl⟩ := hw; go_simp⟩) hS ?_
      try simp only [Act.put, List.setIfInBounds_toArray, List.set_cons_zero, List.set_cons_succ, List.getElem_toArray, List.getElem_cons_zero, List.getElem_cons_succ]
      refine wpAnyH_take (i := 9) (v := .pointer (some ⟨rb, dd + 2, none⟩)) rfl (by kernel_rfl) (by kernel_rfl) (by kernel_rfl) (fun _ _ _ h => h) (Or.inl ⟨by rfl, fun w hw => by obtain ⟨x, rfl⟩ := hw; go_simp; first | done | (intro h; omega) | (rw [if_pos (show 0 ≤ (dd : Int) + 2 ∧ (dd : Int) + 2 < 8 by omega), show ((dd : Int) + 2).toNat = dd + 2 by omega])⟩) hS ?_
      try simp only [Act.put, List.setIfInBounds_toArray, List.set_cons_zero, List.set_cons_succ, List.getElem_toArray, List.getElem_cons_zero, List.getElem_cons_succ]
      refine wpAnyH_take (i := 10) (v := .int .i64 sc.b) rfl (by kernel_rfl) (by kernel_rfl) (by kernel_rfl) (fun _ _ _ h => h) (Or.inl ⟨by rfl, fun w hw => by obtain ⟨x, rfl⟩ := hw; go_simp⟩) hS ?_
      try simp only [Act.put, List.setIfInBounds_toArray, List.set_cons_zero, List.set_cons_succ, List.getElem_toArray, List.getElem_cons_zero, List.getElem_cons_succ]
      refine wpAnyH_take (i := 11) (v := .int .u8 dd) rfl (by kernel_rfl) (by kernel_rfl) (by kernel_rfl) (fun _ _ _ h => h) (Or.inl ⟨by rfl, fun w hw => by obtain ⟨x, rfl⟩ := hw; go_simp⟩) hS ?_
      try simp only [Act.put, List.setIfInBounds_toArray, List.set_cons_zero, List.set_cons_succ, List.getElem_toArray, List.getElem_cons_zero, List.getElem_cons_succ]
      refine wpAnyH_take (i := 12) (v := .int .u8 ((dd + 3 : Nat) : Int)) rfl (by kernel_rfl) (by kernel_rfl) (by kernel_rfl) (fun _ _ _ h => h) (Or.inl ⟨by rfl, fun w hw => by obtain ⟨x, rfl⟩ := hw; go_simp⟩) hS ?_
      try simp only [Act.put, List.setIfInBounds_toArray, List.set_cons_zero, List.set_cons_succ, List.getElem_toArray, List.getElem_cons_zero, List.getElem_cons_succ]
      refine wpAnyH_take (i := 13) (v := .pointer (some ⟨rb, dd + 3, none⟩)) rfl (by kernel_rfl) (by kernel_rfl) (by kernel_rfl) (fun _ _ _ h => h) (Or.inl ⟨by rfl, fun w hw => by obtain ⟨x, rfl⟩ := hw; go_simp; first | done | (intro h; omega) | (rw [if_pos (show 0 ≤ (dd : Int) + 3 ∧ (dd : Int) + 3 < 8 by omega), show ((dd : Int) + 3).toNat = dd + 3 by omega])⟩) hS ?_
      try simp only [Act.put, List.setIfInBounds_toArray, List.set_cons_zero, List.set_cons_succ, List.getElem_toArray, List.getElem_cons_zero, List.getElem_cons_succ]
      refine wpAnyH_take (i := 14) (v := .int .i64 sc.a) rfl (by kernel_rfl) (by kernel_rfl) (by kernel_rfl) (fun _ _ _ h => h) (Or.inl ⟨by rfl, fun w hw => by obtain ⟨x, rfl⟩ := hw; go_simp⟩) hS ?_
      try simp only [Act.put, List.setIfInBounds_toArray, List.set_cons_zero, List.set_cons_succ, List.getElem_toArray, List.getElem_cons_zero, List.getElem_cons_succ]
      refine wpAnyH_take (i := 15) (v := .agg #[.int .i64 sc.r, .int .i64 sc.g, .int .i64 sc.b, .int .i64 sc.a]) rfl (by kernel_rfl) (by kernel_rfl) (by kernel_rfl) (fun _ _ _ h => h) (Or.inl ⟨by rfl, fun w hw => by obtain ⟨x, rfl⟩ := hw; go_simp⟩) hS ?_
      try simp only [Act.put, List.setIfInBounds_toArray, List.set_cons_zero, List.set_cons_succ, List.getElem_toArray, List.getElem_cons_zero, List.getElem_cons_succ]
      refine wpAnyH_ready (rs := [16]) (by kernel_rfl) (by simp) ?_
      refine AllReadyH.cons rfl (fun K hK => ?_) AllReadyH.nil
      go_simp
      have T1 := Lib.hid (T0.out.alloc (by simp) (.cells #[.int .i64 0, .int .i64 0, .int .i64 0, .int .i64 0] 36))
      refine hK.out _ _ ⟨⟨_, T1.out⟩, rfl⟩ (fun hS => ?_)
      clear hK K
      try simp only [Act.put, List.setIfInBounds_toArray, List.set_cons_zero, List.set_cons_succ, List.getElem_toArray, List.getElem_cons_zero, List.getElem_cons_succ]
      refine wpAnyH_ready (rs := [17]) (by kernel_rfl) (by simp) ?_
      refine AllReadyH.cons rfl (fun K hK => ?_) AllReadyH.nil
      go_simp
      have T2 := Lib.hid (T0.out.alloc (by simp) (.cells #[.int .i64 sc.r, .int .i64 sc.g, .int .i64 sc.b, .int .i64 sc.a] 36))
      refine hK.out _ _ ⟨⟨_, T2.out⟩, rfl⟩ (fun hS => ?_)
      clear hK K
      try simp only [Act.put, List.setIfInBounds_toArray, List.set_cons_zero, List.set_cons_succ, List.getElem_toArray, List.getElem_cons_zero, List.getElem_cons_succ]
      refine wpAnyH_done (by kernel_rfl) ?_ _
      have NB := Lib.hid (show (T.alloc (.cells #[.int .i64 sc.r, .int .i64 sc.g, .int .i64 sc.b, .int .i64 sc.a] 36)).drew.heap[T.heap.size]? = some (.cells #[.int .i64 sc.r, .int .i64 sc.g, .int .i64 sc.b, .int .i64 sc.a] 36) from new_at1 T _)
      have KT := Lib.hid (show (T.alloc (.cells #[.int .i64 sc.r, .int .i64 sc.g, .int .i64 sc.b, .int .i64 sc.a] 36)).drew.heap[h]? = some (colB sc) from new_keep _ KF.out)
      have CT := Lib.hid (show (T.alloc (.cells #[.int .i64 sc.r, .int .i64 sc.g, .int .i64 sc.b, .int .i64 sc.a] 36)).drew.cell? ⟨rb, 0, none⟩ = some (.int .i64 l0) from new_cell _ HS9.out)
      have BE := Lib.hid ((bstep BT.out BT.out.size (new_below T (.cells #[.int .i64 sc.r, .int .i64 sc.g, .int .i64 sc.b, .int .i64 sc.a] 36))).drew)
      clear y0 y1 y2 y3 w1 w2 w3 T0 T1 T2 hS s0 s1 s2 s3 s9 HS9 KF RF DF
      generalize (T.alloc (.cells #[.int .i64 sc.r, .int .i64 sc.g, .int .i64 sc.b, .int .i64 sc.a] 36)).drew = Y at *
      generalize T.heap.size = gb at *
      have n0 := Joins.cell_of_block NB.out 0
      have n1 := Joins.cell_of_block NB.out 1
      have n2 := Joins.cell_of_block NB.out 2
      have n3 := Joins.cell_of_block NB.out 3
      obtain ⟨k0, k1, k2, k3⟩ := colB_cell KT.out
      have c9 := CT.out
      obtain ⟨⟨v0, v1⟩, ⟨v2, v3⟩, ⟨v4, v5⟩, ⟨v6, v7⟩⟩ := HCOK.out
      rcases Classical.em (dd = 0) with e0 | e0
      · have z : ((dd : Int) == 0) = true := by simpa using e0
        go_wp2_with fail
        go_ret
        exact ⟨rfl, BE.out⟩
      · have z : ((dd : Int) == 0) = false := by simpa using e0
        have e9 := g9 e0
        rw [e9] at c9
        go_wp2_with fail
        go_ret
        exact ⟨rfl, BE.out⟩
  · have h1 : ¬ (300 : Int) < (t.px.length : Int) := by omega
    have e := fewT_small h
    go_upto_region 4 with fail
    rename World => V
    have BV := Lib.hid HB1.out
    have V0 := Lib.hid (show V.heap[w.heap.size]? = some (txB (fewT t) B k) by rw [e]; exact Y0.out)
    have V1 := Lib.hid Y1.out
    have V2 := Lib.hid Y2.out
    clear e h1 c0 c1 c2 f0 f1 f2
    have EV := Lib.hid (show Es EC V V.heap.size B (fewT t).px from ((show Es EC w w.heap.size B (fewT t).px from HTE.out).below BV.out).more BV.out.size)
    clear Y0 Y1 Y2 HB1 HTE tc tnil te tw th tok bi bn h
    generalize fewT t = tt at *
    obtain ⟨c0, c1, c2⟩ := txB_cell V0.out
    obtain ⟨p, hp⟩ : ∃ p, fitT tt = p := ⟨_, rfl⟩
    rw [hp] at HF HOK HRT
    clear hp
    have hv1 := (Array.getElem?_eq_some_iff.1 V1.out).1
    have hv2 := (Array.getElem?_eq_some_iff.1 V2.out).1
    go_upto_region 5 with (go_at_call 14; (with_reducible refine (HF.out _ EV.out).mono ?_); rintro e w2 ⟨A2, c2', rfl, hl2, he2, ho2, hb⟩; have BW := Lib.hid (bstep BV.out BV.out.size hb); have W1 := Lib.hid ((hb.block _ hv1).trans V1.out); have W2 := Lib.hid ((hb.block _ hv2).trans V2.out); have EW := Lib.hid he2; clear hb he2 ho2 hl2)
    have BU := Lib.hid (bstep BW.out BW.out.size (new_below w2 (.cells #[.int .i64 p.w, .int .i64 p.h, .slice A2 p.px.length c2'] 25)))
    have U0 := Lib.hid (show (w2.alloc (.cells #[.int .i64 p.w, .int .i64 p.h, .slice A2 p.px.length c2'] 25)).heap[w2.heap.size]? = some (txB p A2 c2') from new_at1 _ _)
    have U1 := Lib.hid (new_keep (.cells #[.int .i64 p.w, .int .i64 p.h, .slice A2 p.px.length c2'] 25) W1.out)
    have U2 := Lib.hid (new_keep (.cells #[.int .i64 p.w, .int .i64 p.h, .slice A2 p.px.length c2'] 25) W2.out)
    have EU := Lib.hid (EW.out.up (new_below w2 (.cells #[.int .i64 p.w, .int .i64 p.h, .slice A2 p.px.length c2'] 25)))
    clear BW W1 W2 EW EV V0 V1 V2 BV HF hv1 hv2 c0 c1 c2
    generalize w2.alloc (.cells #[.int .i64 p.w, .int .i64 p.h, .slice A2 p.px.length c2'] 25) = U at *
    generalize w2.heap.size = f at *
    have hu0 := txB_lt U0.out
    have hu1 := (Array.getElem?_eq_some_iff.1 U1.out).1
    have hu2 := (Array.getElem?_eq_some_iff.1 U2.out).1
    obtain ⟨z0, z1⟩ := caB_cell U2.out
    have D0 := Lib.hid (new_below U (.cells #[.int .u8 13, .int .u8 dd, .int .u8 6, .int .u8 7, .int .i64 0] 45))
    have Q0 := Lib.hid (show (U.alloc (.cells #[.int .u8 13, .int .u8 dd, .int .u8 6, .int .u8 7, .int .i64 0] 45)).heap[U.heap.size]? = some (inB (smpI 13 dd)) from new_at1 _ _)
    go_upto_region 7 with fail
    clear z0 z1
    generalize U.alloc (.cells #[.int .u8 13, .int .u8 dd, .int .u8 6, .int .u8 7, .int .i64 0] 45) = X at *
    obtain ⟨q, hq⟩ : ∃ q, U.heap.size = q := ⟨_, rfl⟩
    have hUq := Lib.hid hq
    rw [hq] at Q0 ⊢
    have hu0q : f < q := by omega
    have hu1q : w.heap.size + 1 < q := by omega
    have hu2q : w.heap.size + 1 + 1 < q := by omega
    clear hq
    have hqX := (Array.getElem?_eq_some_iff.1 Q0.out).1
    have EX := Lib.hid ((EU.out.below D0.out).more D0.out.size)
    obtain ⟨nc, hnc⟩ : ∃ c, p.near i n = c := ⟨_, rfl⟩
    have hnear := fun W (h : Es EC W W.heap.size A2 p.px) => rnear_any p A2 c2' i n (by have := HBI.out; unfold Far; omega) (by have := HBN.out; unfold Far; omega) W h
    rw [hnc] at hnear
    have HNEAR := Lib.hid hnear
    have HNC := Lib.hid (show nc.ok from hnc ▸ Tx.at_ok HOK.out _ _)
    have HNQ := Lib.hid hnc
    clear hnear hnc
    obtain ⟨a0, a1⟩ := atB_cell ((D0.out.block _ hu1).trans U1.out)
    obtain ⟨t0, t1, t2⟩ := txB_cell ((D0.out.block _ hu0).trans U0.out)
    obtain ⟨bi0, bi1⟩ := HBI.out
    obtain ⟨bn0, bn1⟩ := HBN.out
    go_upto_region 8 with (go_at_call 20; (with_reducible refine (HNEAR.out _ EX.out).mono ?_); rintro e w3 ⟨rfl, hb⟩; have D1 := Lib.hid (bstep D0.out D0.out.size hb); have Q1 := Lib.hid ((hb.block _ hqX).trans Q0.out); clear hb)
    have D2 := Lib.hid (bstep D1.out D1.out.size (new_below w3 (.cells #[.int .u8 nc.r, .int .u8 nc.g, .int .u8 nc.b, .int .u8 nc.a] 38)))
    have Q2 := Lib.hid (new_keep (.cells #[.int .u8 nc.r, .int .u8 nc.g, .int .u8 nc.b, .int .u8 nc.a] 38) Q1.out)
    have K2 := Lib.hid (show (w3.alloc (.cells #[.int .u8 nc.r, .int .u8 nc.g, .int .u8 nc.b, .int .u8 nc.a] 38)).heap[w3.heap.size]? = some (colB nc) from new_at1 _ _)
    have hq3 := (Array.getElem?_eq_some_iff.1 Q1.out).1
    clear D0 Q0 D1 Q1 EX HNEAR hqX a0 a1 t0 t1 t2
    generalize w3.alloc (.cells #[.int .u8 nc.r, .int .u8 nc.g, .int .u8 nc.b, .int .u8 nc.a] 38) = V at *
    obtain ⟨h, hh⟩ : ∃ h, w3.heap.size = h := ⟨_, rfl⟩
    rw [hh] at K2 hq3 ⊢
    have hqh : q ≠ h := by omega
    clear hh
    obtain ⟨z0, z1⟩ := caB_cell ((D2.out.block _ hu2).trans U2.out)
    cases b
    · go_upto_region 11 with fail
      clear z0 z1
      have D := Lib.hid D2.out
      have Q := Lib.hid Q2.out
      have K := Lib.hid K2.out
      have HCOK := Lib.hid HNC.out
      clear D2 Q2 K2 HNC
      have ho : (13 : Int) = 13 ∨ (13 : Int) = 14 := by decide
      have hruns := smp_runs ho hd4 p HRT.out HBI.out HBN.out
      obtain ⟨l0, l1, l2, l3, l4, l5, l6, l7, hL, g0, g1, g2, g3, g9⟩ := smp_parts HCOK.out hd4 i n
      have hrun := fun A W (h : Es EI W W.heap.size A [smpI 13 dd]) (hp : Es EC W W.heap.size A2 p.px) => run_any [smpI 13 dd] A 1 p A2 c2' 9 9 9 9 9 9 i n (smpI_ok ho hd4) HOK.out W h hp
      rw [hruns] at hrun
      rw [if_pos rfl, HNQ.out] at hrun
      rw [hL] at hrun
      simp only [runV, regC, List.map_cons, List.map_nil] at hrun
      have HRUN := Lib.hid hrun
      have hnon := fun A W (h : Es EI W W.heap.size A [smpI 13 dd]) => run_any [smpI 13 dd] A 1 noT none 0 0 0 0 0 0 0 0 0 (smpI_ok ho hd4) noT_ok W h Es.none_
      rw [smp_none ho hd4] at hnon
      simp only [runV, regC, zero8, List.map_cons, List.map_nil] at hnon
      have HNON := Lib.hid hnon
      clear hruns hrun hnon hL
      obtain ⟨x0, x1, x2, x3, x4⟩ := inB_cell Q.out
      obtain ⟨a0, a1⟩ := atB_cell ((D.out.block _ hu1).trans U1.out)
      obtain ⟨t0, t1, t2⟩ := txB_cell ((D.out.block _ hu0).trans U0.out)
      have QS := Lib.hid (new_at1 V (.cells #[.int .u8 13, .int .u8 dd, .int .u8 6, .int .u8 7, .int .i64 0] 45))
      have DS := Lib.hid (bstep D.out D.out.size (new_below V (.cells #[.int .u8 13, .int .u8 dd, .int .u8 6, .int .u8 7, .int .i64 0] 45)))
      have ES := Lib.hid ((EU.out.below DS.out).more DS.out.size)
      have hqV := (Array.getElem?_eq_some_iff.1 Q.out).1
      have hhV := (Array.getElem?_eq_some_iff.1 K.out).1
      have hfV := Nat.lt_of_lt_of_le hu0 D.out.size
      have h1V := Nat.lt_of_lt_of_le hu1 D.out.size
      go_upto_region 12 with (go_at_call 11; refine (HRUN.out (some ⟨_, 0, none⟩) _ (ins_at (x := smpI 13 dd) QS.out) ES.out).mono ?_; rintro e W ⟨rfl, hb⟩; have DW := Lib.hid (bstep DS.out DS.out.size hb); have QW := Lib.hid ((hb.block _ (by simp; omega)).trans (new_keep _ Q.out)); have KW := Lib.hid ((hb.block _ (by simp; omega)).trans (new_keep _ K.out)); clear hb)
      have RW0 := Lib.hid (new_at1 W (RB [l0, l1, l2, l3, l4, l5, l6, l7]))
      have DR := Lib.hid (bstep DW.out DW.out.size (new_below W (RB [l0, l1, l2, l3, l4, l5, l6, l7])))
      have QR := Lib.hid (new_keep (RB [l0, l1, l2, l3, l4, l5, l6, l7]) QW.out)
      have KR := Lib.hid (new_keep (RB [l0, l1, l2, l3, l4, l5, l6, l7]) KW.out)
      clear QW KW DW QS DS ES Q K D a0 a1 t0 t1 t2 x0 x1 x2 x3 x4 hqV hhV hfV h1V
      change Code.wp _ _ _ _ (W.alloc (RB [l0, l1, l2, l3, l4, l5, l6, l7]))
      generalize W.alloc (RB [l0, l1, l2, l3, l4, l5, l6, l7]) = R at *
      generalize W.heap.size = rb at *
      obtain ⟨x0, x1, x2, x3, x4⟩ := inB_cell QR.out
      have QS := Lib.hid (new_at1 R (.cells #[.int .u8 13, .int .u8 dd, .int .u8 6, .int .u8 7, .int .i64 0] 45))
      have DS := Lib.hid (bstep DR.out DR.out.size (new_below R (.cells #[.int .u8 13, .int .u8 dd, .int .u8 6, .int .u8 7, .int .i64 0] 45)))
      have hrR := RB_lt RW0.out
      have hkR := (Array.getElem?_eq_some_iff.1 KR.out).1
      go_upto_region 13 with (go_at_call 11; refine (HNON.out (some ⟨_, 0, none⟩) _ (ins_at (x := smpI 13 dd) QS.out)).mono ?_; rintro e W2 ⟨rfl, hb⟩; have DW := Lib.hid (bstep DS.out DS.out.size hb); have RW2 := Lib.hid ((hb.block _ (by simp; omega)).trans (new_keep _ RW0.out)); have KW := Lib.hid ((hb.block _ (by simp; omega)).trans (new_keep _ KR.out)); clear hb)
      have DF := Lib.hid (bstep DW.out DW.out.size (new_below W2 (RB zero8)))
      have RF := Lib.hid (new_keep (RB zero8) RW2.out)
      have KF := Lib.hid (new_keep (RB zero8) KW.out)
      change Code.wp _ _ _ _ (W2.alloc (RB zero8))
      clear DW RW2 KW QS DS DR QR KR RW0 x0 x1 x2 x3 x4 hrR hkR HRUN HNON
      generalize W2.alloc (RB zero8) = T at *
      have BT := Lib.hid (bstep BU.out BU.out.size DF.out)
      have s0 := RB_cell RF.out (k := dd) (by simp; omega)
      have s1 := RB_cell RF.out (k := dd + 1) (by simp; omega)
      have s2 := RB_cell RF.out (k := dd + 2) (by simp; omega)
      have s3 := RB_cell RF.out (k := dd + 3) (by simp; omega)
      have s9 := RB_cell RF.out (k := 0) (by simp)
      rw [g0] at s0
      rw [g1] at s1
      rw [g2] at s2
      rw [g3] at s3
      have HS9 := Lib.hid (show T.cell? ⟨rb, 0, none⟩ = some (.int .i64 l0) from s9)
      have y0 : ∀ z : Grow T, z.w.cell? ⟨rb, dd, none⟩ = some (.int .i64 nc.r) := fun z => z.cell s0
      have y1 : ∀ z : Grow T, z.w.cell? ⟨rb, dd + 1, none⟩ = some (.int .i64 nc.g) := fun z => z.cell s1
      have y2 : ∀ z : Grow T, z.w.cell? ⟨rb, dd + 2, none⟩ = some (.int .i64 nc.b) := fun z => z.cell s2
      have y3 : ∀ z : Grow T, z.w.cell? ⟨rb, dd + 3, none⟩ = some (.int .i64 nc.a) := fun z => z.cell s3
      have w1 : IntKind.u8.wrap ((dd : Int) + 1) = ((dd + 1 : Nat) : Int) := by rw [IntKind.wrap_u8]; omega
      have w2 : IntKind.u8.wrap ((dd : Int) + 2) = ((dd + 2 : Nat) : Int) := by rw [IntKind.wrap_u8]; omega
      have w3 : IntKind.u8.wrap ((dd : Int) + 3) = ((dd + 3 : Nat) : Int) := by rw [IntKind.wrap_u8]; omega
      have T0 := Lib.hid (Below.refl T.heap.size T).drew
      refine wp_region_held_drew (S := fun w' => ∃ x : Grow T, w' = x.w) (by kernel_rfl) ⟨⟨_, T0.out⟩, rfl⟩ (fun hS => ?_)
      refine wpAnyH_take (i := 0) (v := .int .u8 dd) rfl (by kernel_rfl) (by kernel_rfl) (by kernel_rfl) (fun _ _ _ h => h) (Or.inl ⟨by rfl, fun w hw => by obtain ⟨x, rfl⟩ := hw; go_simp⟩) hS ?_
      try simp only [Act.put, List.setIfInBounds_toArray, List.set_cons_zero, List.set_cons_succ, List.getElem_toArray, List.getElem_cons_zero]
      refine wpAnyH_take (i := 1) (v := .pointer (some ⟨rb, dd, none⟩)) rfl (by kernel_rfl) (by kernel_rfl) (by kernel_rfl) (fun _ _ _ h => h) (Or.inl ⟨by rfl, fun w hw => by obtain ⟨x, rfl⟩ := hw; go_simp; first | done | (intro h; omega) | (rw [if_pos (show 0 ≤ (dd : Int) + 0 ∧ (dd : Int) + 0 < 8 by omega), show ((dd : Int) + 0).toNat = dd + 0 by omega])⟩) hS ?_
      try simp only [Act.put, List.setIfInBounds_toArray, List.set_cons_zero, List.set_cons_succ, List.getElem_toArray, List.getElem_cons_zero, List.getElem_cons_succ]
      refine wpAnyH_take (i := 2) (v := .int .i64 nc.r) rfl (by kernel_rfl) (by kernel_rfl) (by kernel_rfl) (fun _ _ _ h => h) (Or.inl ⟨by rfl, fun w hw => by obtain ⟨x, rfl⟩ := hw; go_simp⟩) hS ?_
      try simp only [Act.put, List.setIfInBounds_toArray, List.set_cons_zero, List.set_cons_succ, List.getElem_toArray, List.getElem_cons_zero, List.getElem_cons_succ]
      refine wpAnyH_take (i := 3) (v := .int .u8 dd) rfl (by kernel_rfl) (by kernel_rfl) (by kernel_rfl) (fun _ _ _ h => h) (Or.inl ⟨by rfl, fun w hw => by obtain ⟨x, rfl⟩ := hw; go_simp⟩) hS ?_
      try simp only [Act.put, List.setIfInBounds_toArray, List.set_cons_zero, List.set_cons_succ, List.getElem_toArray, List.getElem_cons_zero, List.getElem_cons_succ]
      refine wpAnyH_take (i := 4) (v := .int .u8 ((dd + 1 : Nat) : Int)) rfl (by kernel_rfl) (by kernel_rfl) (by kernel_rfl) (fun _ _ _ h => h) (Or.inl ⟨by rfl, fun w hw => by obtain ⟨x, rfl⟩ := hw; go_simp⟩) hS ?_
      try simp only [Act.put, List.setIfInBounds_toArray, List.set_cons_zero, List.set_cons_succ, List.getElem_toArray, List.getElem_cons_zero, List.getElem_cons_succ]
      refine wpAnyH_take (i := 5) (v := .pointer (some ⟨rb, dd + 1, none⟩)) rfl (by kernel_rfl) (by kernel_rfl) (by kernel_rfl) (fun _ _ _ h => h) (Or.inl ⟨by rfl, fun w hw => by obtain ⟨x, rfl⟩ := hw; go_simp; first | done | (intro h; omega) | (rw [if_pos (show 0 ≤ (dd : Int) + 1 ∧ (dd : Int) + 1 < 8 by omega), show ((dd : Int) + 1).toNat = dd + 1 by omega])⟩) hS ?_
      try simp only [Act.put, List.setIfInBounds_toArray, List.set_cons_zero, List.set_cons_succ, List.getElem_toArray, List.getElem_cons_zero, List.getElem_cons_succ]
      refine wpAnyH_take (i := 6) (v := .int .i64 nc.g) rfl (by kernel_rfl) (by kernel_rfl) (by kernel_rfl) (fun _ _ _ h => h) (Or.inl ⟨by rfl, fun w hw => by obtain ⟨x, rfl⟩ := hw; go_simp⟩) hS ?_
      try simp only [Act.put, List.setIfInBounds_toArray, List.set_cons_zero, List.set_cons_succ, List.getElem_toArray, List.getElem_cons_zero, List.getElem_cons_succ]
      refine wpAnyH_take (i := 7) (v := .int .u8 dd) rfl (by kernel_rfl) (by kernel_rfl) (by kernel_rfl) (fun _ _ _ h => h) (Or.inl ⟨by rfl, fun w hw => by obtain ⟨x, rfl⟩ := hw; go_simp⟩) hS ?_
      try simp only [Act.put, List.setIfInBounds_toArray, List.set_cons_zero, List.set_cons_succ, List.getElem_toArray, List.getElem_cons_zero, List.getElem_cons_succ]
      refine wpAnyH_take (i := 8) (v := .int .u8 ((dd + 2 : Nat) : Int)) rfl (by kernel_rfl) (by kernel_rfl) (by kernel_rfl) (fun _ _ _ h => h) (Or.inl ⟨by rfl, fun w hw => by obtain ⟨x, rfl⟩ := hw; go_simp⟩) hS ?_
      try simp only [Act.put, List.setIfInBounds_toArray, List.set_cons_zero, List.set_cons_succ, List.getElem_toArray, List.getElem_cons_zero, List.getElem_cons_succ]
      refine wpAnyH_take (i := 9) (v := .pointer (some ⟨rb, dd + 2, none⟩)) rfl (by kernel_rfl) (by kernel_rfl) (by kernel_rfl) (fun _ _ _ h => h) (Or.inl ⟨by rfl, fun w hw => by obtain ⟨x, rfl⟩ := hw; go_simp; first | done | (intro h; omega) | (rw [if_pos (show 0 ≤ (dd : Int) + 2 ∧ (dd : Int) + 2 < 8 by omega), show ((dd : Int) + 2).toNat = dd + 2 by omega])⟩) hS ?_
      try simp only [Act.put, List.setIfInBounds_toArray, List.set_cons_zero, List.set_cons_succ, List.getElem_toArray, List.getElem_cons_zero, List.getElem_cons_succ]
      refine wpAnyH_take (i := 10) (v := .int .i64 nc.b) rfl (by kernel_rfl) (by kernel_rfl) (by kernel_rfl) (fun _ _ _ h => h) (Or.inl ⟨by rfl, fun w hw => by obtain ⟨x, rfl⟩ := hw; go_simp⟩) hS ?_
      try simp only [Act.put, List.setIfInBounds_toArray, List.set_cons_zero, List.set_cons_succ, List.getElem_toArray, List.getElem_cons_zero, List.getElem_cons_succ]
      refine wpAnyH_take (i := 11) (v := .int .u8 dd) rfl (by kernel_rfl) (by kernel_rfl) (by kernel_rfl) (fun _ _ _ h => h) (Or.inl ⟨by rfl, fun w hw => by obtain ⟨x, rfl⟩ := hw; go_simp⟩) hS ?_
      try simp only [Act.put, List.setIfInBounds_toArray, List.set_cons_zero, List.set_cons_succ, List.getElem_toArray, List.getElem_cons_zero, List.getElem_cons_succ]
      refine wpAnyH_take (i := 12) (v := .int .u8 ((dd + 3 : Nat) : Int)) rfl (by kernel_rfl) (by kernel_rfl) (by kernel_rfl) (fun _ _ _ h => h) (Or.inl ⟨by rfl, fun w hw => by obtain ⟨x, rfl⟩ := hw; go_simp⟩) hS ?_
      try simp only [Act.put, List.setIfInBounds_toArray, List.set_cons_zero, List.set_cons_succ, List.getElem_toArray, List.getElem_cons_zero, List.getElem_cons_succ]
      refine wpAnyH_take (i := 13) (v := .pointer (some ⟨rb, dd + 3, none⟩)) rfl (by kernel_rfl) (by kernel_rfl) (by kernel_rfl) (fun _ _ _ h => h) (Or.inl ⟨by rfl, fun w hw => by obtain ⟨x, rfl⟩ := hw; go_simp; first | done | (intro h; omega) | (rw [if_pos (show 0 ≤ (dd : Int) + 3 ∧ (dd : Int) + 3 < 8 by omega), show ((dd : Int) + 3).toNat = dd + 3 by omega])⟩) hS ?_
      try simp only [Act.put, List.setIfInBounds_toArray, List.set_cons_zero, List.set_cons_succ, List.getElem_toArray, List.getElem_cons_zero, List.getElem_cons_succ]
      refine wpAnyH_take (i := 14) (v := .int .i64 nc.a) rfl (by kernel_rfl) (by kernel_rfl) (by kernel_rfl) (fun _ _ _ h => h) (Or.inl ⟨by rfl, fun w hw => by obtain ⟨x, rfl⟩ := hw; go_simp⟩) hS ?_
      try simp only [Act.put, List.setIfInBounds_toArray, List.set_cons_zero, List.set_cons_succ, List.getElem_toArray, List.getElem_cons_zero, List.getElem_cons_succ]
      refine wpAnyH_take (i := 15) (v := .agg #[.int .i64 nc.r, .int .i64 nc.g, .int .i64 nc.b, .int .i64 nc.a]) rfl (by kernel_rfl) (by kernel_rfl) (by kernel_rfl) (fun _ _ _ h => h) (Or.inl ⟨by rfl, fun w hw => by obtain ⟨x, rfl⟩ := hw; go_simp⟩) hS ?_
      try simp only [Act.put, List.setIfInBounds_toArray, List.set_cons_zero, List.set_cons_succ, List.getElem_toArray, List.getElem_cons_zero, List.getElem_cons_succ]
      refine wpAnyH_ready (rs := [16]) (by kernel_rfl) (by simp) ?_
      refine AllReadyH.cons rfl (fun K hK => ?_) AllReadyH.nil
      go_simp
      have T1 := Lib.hid (T0.out.alloc (by simp) (.cells #[.int .i64 0, .int .i64 0, .int .i64 0, .int .i64 0] 36))
      refine hK.out _ _ ⟨⟨_, T1.out⟩, rfl⟩ (fun hS => ?_)
      clear hK K
      try simp only [Act.put, List.setIfInBounds_toArray, List.set_cons_zero, List.set_cons_succ, List.getElem_toArray, List.getElem_cons_zero, List.getElem_cons_succ]
      refine wpAnyH_ready (rs := [17]) (by kernel_rfl) (by simp) ?_
      refine AllReadyH.cons rfl (fun K hK => ?_) AllReadyH.nil
      go_simp
      have T2 := Lib.hid (T0.out.alloc (by simp) (.cells #[.int .i64 nc.r, .int .i64 nc.g, .int .i64 nc.b, .int .i64 nc.a] 36))
      refine hK.out _ _ ⟨⟨_, T2.out⟩, rfl⟩ (fun hS => ?_)
      clear hK K
      try simp only [Act.put, List.setIfInBounds_toArray, List.set_cons_zero, List.set_cons_succ, List.getElem_toArray, List.getElem_cons_zero, List.getElem_cons_succ]
      refine wpAnyH_done (by kernel_rfl) ?_ _
      have NB := Lib.hid (show (T.alloc (.cells #[.int .i64 nc.r, .int .i64 nc.g, .int .i64 nc.b, .int .i64 nc.a] 36)).drew.heap[T.heap.size]? = some (.cells #[.int .i64 nc.r, .int .i64 nc.g, .int .i64 nc.b, .int .i64 nc.a] 36) from new_at1 T _)
      have KT := Lib.hid (show (T.alloc (.cells #[.int .i64 nc.r, .int .i64 nc.g, .int .i64 nc.b, .int .i64 nc.a] 36)).drew.heap[h]? = some (colB nc) from new_keep _ KF.out)
      have CT := Lib.hid (show (T.alloc (.cells #[.int .i64 nc.r, .int .i64 nc.g, .int .i64 nc.b, .int .i64 nc.a] 36)).drew.cell? ⟨rb, 0, none⟩ = some (.int .i64 l0) from new_cell _ HS9.out)
      have BE := Lib.hid ((bstep BT.out BT.out.size (new_below T (.cells #[.int .i64 nc.r, .int .i64 nc.g, .int .i64 nc.b, .int .i64 nc.a] 36))).drew)
      clear y0 y1 y2 y3 w1 w2 w3 T0 T1 T2 hS s0 s1 s2 s3 s9 HS9 KF RF DF
      generalize (T.alloc (.cells #[.int .i64 nc.r, .int .i64 nc.g, .int .i64 nc.b, .int .i64 nc.a] 36)).drew = Y at *
      generalize T.heap.size = gb at *
      have n0 := Joins.cell_of_block NB.out 0
      have n1 := Joins.cell_of_block NB.out 1
      have n2 := Joins.cell_of_block NB.out 2
      have n3 := Joins.cell_of_block NB.out 3
      obtain ⟨k0, k1, k2, k3⟩ := colB_cell KT.out
      have c9 := CT.out
      obtain ⟨⟨v0, v1⟩, ⟨v2, v3⟩, ⟨v4, v5⟩, ⟨v6, v7⟩⟩ := HCOK.out
      rcases Classical.em (dd = 0) with e0 | e0
      · have z : ((dd : Int) == 0) = true := by simpa using e0
        go_wp2_with fail
        go_ret
        exact ⟨rfl, BE.out⟩
      · have z : ((dd : Int) == 0) = false := by simpa using e0
        have e9 := g9 e0
        rw [e9] at c9
        go_wp2_with fail
        go_ret
        exact ⟨rfl, BE.out⟩
    · obtain ⟨x0, x1, x2, x3, x4⟩ := inB_cell Q2.out
      obtain ⟨f0, f1, f2, f3, f4⟩ := inB_free Q2.out
      have D3 := Lib.hid (D2.out.setCell (p := ⟨q, 0, none⟩) (show U.heap.size ≤ q by rw [hUq.out]; exact Nat.le_refl q) (.int .u8 14))
      have Q3 := Lib.hid (inB_op Q2.out 14)
      have K3 := Lib.hid (at1_keep' (h := q) (fun e => hqh e.symm) K2.out 0 (.int .u8 14))
      go_upto_region 10 with fail
      clear D2 Q2 K2 x0 x1 x2 x3 x4 f0 f1 f2 f3 f4 z0 z1
      generalize V.setCell ⟨q, 0, none⟩ (.int .u8 14) = V3 at *
      have E3 := Lib.hid ((EU.out.below D3.out).more D3.out.size)
      obtain ⟨sc, hsc⟩ : ∃ c, p.smooth i n = c := ⟨_, rfl⟩
      have hsm := fun W (h : Es EC W W.heap.size A2 p.px) => rsmooth_any p HOK.out A2 c2' i n (by unfold Far; omega) (by unfold Far; omega) W h
      rw [hsc] at hsm
      have HSM := Lib.hid hsm
      have HCOK := Lib.hid (show sc.ok from hsc ▸ Tx.smooth_ok HOK.out _ _)
      have HSQ := Lib.hid hsc
      clear hsm hsc
      obtain ⟨a0, a1⟩ := atB_cell ((D3.out.block _ hu1).trans U1.out)
      obtain ⟨t0, t1, t2⟩ := txB_cell ((D3.out.block _ hu0).trans U0.out)
      go_upto_region 11 with (go_at_call 21; (with_reducible refine (HSM.out _ E3.out).mono ?_); rintro e w4 ⟨rfl, hb⟩; have D4 := Lib.hid (bstep D3.out D3.out.size hb); have Q4 := Lib.hid ((hb.block _ (Array.getElem?_eq_some_iff.1 Q3.out).1).trans Q3.out); have K4 := Lib.hid ((hb.block _ (Array.getElem?_eq_some_iff.1 K3.out).1).trans K3.out); obtain ⟨k0, k1, k2, k3⟩ := colB_cell K4.out; obtain ⟨f0, f1, f2, f3⟩ := colB_free K4.out; clear hb)
      have D := Lib.hid (col_set w4 h U.heap.size sc D4.out (show U.heap.size ≤ h by rw [hUq.out]; omega))
      have Q := Lib.hid (put4_keep' hqh Q4.out (.int .u8 sc.r) (.int .u8 sc.g) (.int .u8 sc.b) (.int .u8 sc.a))
      have K := Lib.hid (colB_set sc K4.out)
      clear D3 Q3 K3 D4 Q4 K4 E3 HSM k0 k1 k2 k3 f0 f1 f2 f3 a0 a1 t0 t1 t2 HNC HNQ
      generalize (((w4.setCell ⟨h, 0, none⟩ (.int .u8 sc.r)).setCell ⟨h, 1, none⟩ (.int .u8 sc.g)).setCell ⟨h, 2, none⟩ (.int .u8 sc.b)).setCell ⟨h, 3, none⟩ (.int .u8 sc.a) = V at *
      have ho : (14 : Int) = 13 ∨ (14 : Int) = 14 := by decide
      have hruns := smp_runs ho hd4 p HRT.out HBI.out HBN.out
      obtain ⟨l0, l1, l2, l3, l4, l5, l6, l7, hL, g0, g1, g2, g3, g9⟩ := smp_parts HCOK.out hd4 i n
      have hrun := fun A W (h : Es EI W W.heap.size A [smpI 14 dd]) (hp : Es EC W W.heap.size A2 p.px) => run_any [smpI 14 dd] A 1 p A2 c2' 9 9 9 9 9 9 i n (smpI_ok ho hd4) HOK.out W h hp
      rw [hruns] at hrun
      rw [if_neg (show ¬ (14 : Int) = 13 by decide), HSQ.out] at hrun
      rw [hL] at hrun
      simp only [runV, regC, List.map_cons, List.map_nil] at hrun
      have HRUN := Lib.hid hrun
      have hnon := fun A W (h : Es EI W W.heap.size A [smpI 14 dd]) => run_any [smpI 14 dd] A 1 noT none 0 0 0 0 0 0 0 0 0 (smpI_ok ho hd4) noT_ok W h Es.none_
      rw [smp_none ho hd4] at hnon
      simp only [runV, regC, zero8, List.map_cons, List.map_nil] at hnon
      have HNON := Lib.hid hnon
      clear hruns hrun hnon hL
      obtain ⟨x0, x1, x2, x3, x4⟩ := inB_cell Q.out
      obtain ⟨a0, a1⟩ := atB_cell ((D.out.block _ hu1).trans U1.out)
      obtain ⟨t0, t1, t2⟩ := txB_cell ((D.out.block _ hu0).trans U0.out)
      have QS := Lib.hid (new_at1 V (.cells #[.int .u8 14, .int .u8 dd, .int .u8 6, .int .u8 7, .int .i64 0] 45))
      have DS := Lib.hid (bstep D.out D.out.size (new_below V (.cells #[.int .u8 14, .int .u8 dd, .int .u8 6, .int .u8 7, .int .i64 0] 45)))
      have ES := Lib.hid ((EU.out.below DS.out).more DS.out.size)
      have hqV := (Array.getElem?_eq_some_iff.1 Q.out).1
      have hhV := (Array.getElem?_eq_some_iff.1 K.out).1
      have hfV := Nat.lt_of_lt_of_le hu0 D.out.size
      have h1V := Nat.lt_of_lt_of_le hu1 D.out.size
      go_upto_region 12 with (go_at_call 11; refine (HRUN.out (some ⟨_, 0, none⟩) _ (ins_at (x := smpI 14 dd) QS.out) ES.out).mono ?_; rintro e W ⟨rfl, hb⟩; have DW := Lib.hid (bstep DS.out DS.out.size hb); have QW := Lib.hid ((hb.block _ (by simp; omega)).trans (new_keep _ Q.out)); have KW := Lib.hid ((hb.block _ (by simp; omega)).trans (new_keep _ K.out)); clear hb)
      have RW0 := Lib.hid (new_at1 W (RB [l0, l1, l2, l3, l4, l5, l6, l7]))
      have DR := Lib.hid (bstep DW.out DW.out.size (new_below W (RB [l0, l1, l2, l3, l4, l5, l6, l7])))
      have QR := Lib.hid (new_keep (RB [l0, l1, l2, l3, l4, l5, l6, l7]) QW.out)
      have KR := Lib.hid (new_keep (RB [l0, l1, l2, l3, l4, l5, l6, l7]) KW.out)
      clear QW KW DW QS DS ES Q K D a0 a1 t0 t1 t2 x0 x1 x2 x3 x4 hqV hhV hfV h1V
      change Code.wp _ _ _ _ (W.alloc (RB [l0, l1, l2, l3, l4, l5, l6, l7]))
      generalize W.alloc (RB [l0, l1, l2, l3, l4, l5, l6, l7]) = R at *
      generalize W.heap.size = rb at *
      obtain ⟨x0, x1, x2, x3, x4⟩ := inB_cell QR.out
      have QS := Lib.hid (new_at1 R (.cells #[.int .u8 14, .int .u8 dd, .int .u8 6, .int .u8 7, .int .i64 0] 45))
      have DS := Lib.hid (bstep DR.out DR.out.size (new_below R (.cells #[.int .u8 14, .int .u8 dd, .int .u8 6, .int .u8 7, .int .i64 0] 45)))
      have hrR := RB_lt RW0.out
      have hkR := (Array.getElem?_eq_some_iff.1 KR.out).1
      go_upto_region 13 with (go_at_call 11; refine (HNON.out (some ⟨_, 0, none⟩) _ (ins_at (x := smpI 14 dd) QS.out)).mono ?_; rintro e W2 ⟨rfl, hb⟩; have DW := Lib.hid (bstep DS.out DS.out.size hb); have RW2 := Lib.hid ((hb.block _ (by simp; omega)).trans (new_keep _ RW0.out)); have KW := Lib.hid ((hb.block _ (by simp; omega)).trans (new_keep _ KR.out)); clear hb)
      have DF := Lib.hid (bstep DW.out DW.out.size (new_below W2 (RB zero8)))
      have RF := Lib.hid (new_keep (RB zero8) RW2.out)
      have KF := Lib.hid (new_keep (RB zero8) KW.out)
      change Code.wp _ _ _ _ (W2.alloc (RB zero8))
      clear DW RW2 KW QS DS DR QR KR RW0 x0 x1 x2 x3 x4 hrR hkR HRUN HNON
      generalize W2.alloc (RB zero8) = T at *
      have BT := Lib.hid (bstep BU.out BU.out.size DF.out)
      have s0 := RB_cell RF.out (k := dd) (by simp; omega)
      have s1 := RB_cell RF.out (k := dd + 1) (by simp; omega)
      have s2 := RB_cell RF.out (k := dd + 2) (by simp; omega)
      have s3 := RB_cell RF.out (k := dd + 3) (by simp; omega)
      have s9 := RB_cell RF.out (k := 0) (by simp)
      rw [g0] at s0
      rw [g1] at s1
      rw [g2] at s2
      rw [g3] at s3
      have HS9 := Lib.hid (show T.cell? ⟨rb, 0, none⟩ = some (.int .i64 l0) from s9)
      have y0 : ∀ z : Grow T, z.w.cell? ⟨rb, dd, none⟩ = some (.int .i64 sc.r) := fun z => z.cell s0
      have y1 : ∀ z : Grow T, z.w.cell? ⟨rb, dd + 1, none⟩ = some (.int .i64 sc.g) := fun z => z.cell s1
      have y2 : ∀ z : Grow T, z.w.cell? ⟨rb, dd + 2, none⟩ = some (.int .i64 sc.b) := fun z => z.cell s2
      have y3 : ∀ z : Grow T, z.w.cell? ⟨rb, dd + 3, none⟩ = some (.int .i64 sc.a) := fun z => z.cell s3
      have w1 : IntKind.u8.wrap ((dd : Int) + 1) = ((dd + 1 : Nat) : Int) := by rw [IntKind.wrap_u8]; omega
      have w2 : IntKind.u8.wrap ((dd : Int) + 2) = ((dd + 2 : Nat) : Int) := by rw [IntKind.wrap_u8]; omega
      have w3 : IntKind.u8.wrap ((dd : Int) + 3) = ((dd + 3 : Nat) : Int) := by rw [IntKind.wrap_u8]; omega
      have T0 := Lib.hid (Below.refl T.heap.size T).drew
      refine wp_region_held_drew (S := fun w' => ∃ x : Grow T, w' = x.w) (by kernel_rfl) ⟨⟨_, T0.out⟩, rfl⟩ (fun hS => ?_)
      refine wpAnyH_take (i := 0) (v := .int .u8 dd) rfl (by kernel_rfl) (by kernel_rfl) (by kernel_rfl) (fun _ _ _ h => h) (Or.inl ⟨by rfl, fun w hw => by obtain ⟨x, rfl⟩ := hw; go_simp⟩) hS ?_
      try simp only [Act.put, List.setIfInBounds_toArray, List.set_cons_zero, List.set_cons_succ, List.getElem_toArray, List.getElem_cons_zero]
      refine wpAnyH_take (i := 1) (v := .pointer (some ⟨rb, dd, none⟩)) rfl (by kernel_rfl) (by kernel_rfl) (by kernel_rfl) (fun _ _ _ h => h) (Or.inl ⟨by rfl, fun w hw => by obtain ⟨x, rfl⟩ := hw; go_simp; first | done | (intro h; omega) | (rw [if_pos (show 0 ≤ (dd : Int) + 0 ∧ (dd : Int) + 0 < 8 by omega), show ((dd : Int) + 0).toNat = dd + 0 by omega])⟩) hS ?_
      try simp only [Act.put, List.setIfInBounds_toArray, List.set_cons_zero, List.set_cons_succ, List.getElem_toArray, List.getElem_cons_zero, List.getElem_cons_succ]
      refine wpAnyH_take (i := 2) (v := .int .i64 sc.r) rfl (by kernel_rfl) (by kernel_rfl) (by kernel_rfl) (fun _ _ _ h => h) (Or.inl ⟨by rfl, fun w hw => by obtain ⟨x, rfl⟩ := hw; go_simp⟩) hS ?_
      try simp only [Act.put, List.setIfInBounds_toArray, List.set_cons_zero, List.set_cons_succ, List.getElem_toArray, List.getElem_cons_zero, List.getElem_cons_succ]
      refine wpAnyH_take (i := 3) (v := .int .u8 dd) rfl (by kernel_rfl) (by kernel_rfl) (by kernel_rfl) (fun _ _ _ h => h) (Or.inl ⟨by rfl, fun w hw => by obtain ⟨x, rfl⟩ := hw; go_simp⟩) hS ?_
      try simp only [Act.put, List.setIfInBounds_toArray, List.set_cons_zero, List.set_cons_succ, List.getElem_toArray, List.getElem_cons_zero, List.getElem_cons_succ]
      refine wpAnyH_take (i := 4) (v := .int .u8 ((dd + 1 : Nat) : Int)) rfl (by kernel_rfl) (by kernel_rfl) (by kernel_rfl) (fun _ _ _ h => h) (Or.inl ⟨by rfl, fun w hw => by obtain ⟨x, rfl⟩ := hw; go_simp⟩) hS ?_
      try simp only [Act.put, List.setIfInBounds_toArray, List.set_cons_zero, List.set_cons_succ, List.getElem_toArray, List.getElem_cons_zero, List.getElem_cons_succ]
      refine wpAnyH_take (i := 5) (v := .pointer (some ⟨rb, dd + 1, none⟩)) rfl (by kernel_rfl) (by kernel_rfl) (by kernel_rfl) (fun _ _ _ h => h) (Or.inl ⟨by rfl, fun w hw => by obtain ⟨x, rfl⟩ := hw; go_simp; first | done | (intro h; omega) | (rw [if_pos (show 0 ≤ (dd : Int) + 1 ∧ (dd : Int) + 1 < 8 by omega), show ((dd : Int) + 1).toNat = dd + 1 by omega])⟩) hS ?_
      try simp only [Act.put, List.setIfInBounds_toArray, List.set_cons_zero, List.set_cons_succ, List.getElem_toArray, List.getElem_cons_zero, List.getElem_cons_succ]
      refine wpAnyH_take (i := 6) (v := .int .i64 sc.g) rfl (by kernel_rfl) (by kernel_rfl) (by kernel_rfl) (fun _ _ _ h => h) (Or.inl ⟨by rfl, fun w hw => by obtain ⟨x, rfl⟩ := hw; go_simp⟩) hS ?_
      try simp only [Act.put, List.setIfInBounds_toArray, List.set_cons_zero, List.set_cons_succ, List.getElem_toArray, List.getElem_cons_zero, List.getElem_cons_succ]
      refine wpAnyH_take (i := 7) (v := .int .u8 dd) rfl (by kernel_rfl) (by kernel_rfl) (by kernel_rfl) (fun _ _ _ h => h) (Or.inl ⟨by rfl, fun w hw => by obtain ⟨x, rfl⟩ := hw; go_simp⟩) hS ?_
      try simp only [Act.put, List.setIfInBounds_toArray, List.set_cons_zero, List.set_cons_succ, List.getElem_toArray, List.getElem_cons_zero, List.getElem_cons_succ]
      refine wpAnyH_take (i := 8) (v := .int .u8 ((dd + 2 : Nat) : Int)) rfl (by kernel_rfl) (by kernel_rfl) (by kernel_rfl) (fun _ _ _ h => h) (Or.inl ⟨by rfl, fun w hw => by obtain ⟨x, rfl⟩ := hw; go_simp⟩) hS ?_
      try simp only [Act.put, List.setIfInBounds_toArray, List.set_cons_zero, List.set_cons_succ, List.getElem_toArray, List.getElem_cons_zero, List.getElem_cons_succ]
      refine wpAnyH_take (i := 9) (v := .pointer (some ⟨rb, dd + 2, none⟩)) rfl (by kernel_rfl) (by kernel_rfl) (by kernel_rfl) (fun _ _ _ h => h) (Or.inl ⟨by rfl, fun w hw => by obtain ⟨x, rfl⟩ := hw; go_simp; first | done | (intro h; omega) | (rw [if_pos (show 0 ≤ (dd : Int) + 2 ∧ (dd : Int) + 2 < 8 by omega), show ((dd : Int) + 2).toNat = dd + 2 by omega])⟩) hS ?_
      try simp only [Act.put, List.setIfInBounds_toArray, List.set_cons_zero, List.set_cons_succ, List.getElem_toArray, List.getElem_cons_zero, List.getElem_cons_succ]
      refine wpAnyH_take (i := 10) (v := .int .i64 sc.b) rfl (by kernel_rfl) (by kernel_rfl) (by kernel_rfl) (fun _ _ _ h => h) (Or.inl ⟨by rfl, fun w hw => by obtain ⟨x, rfl⟩ := hw; go_simp⟩) hS ?_
      try simp only [Act.put, List.setIfInBounds_toArray, List.set_cons_zero, List.set_cons_succ, List.getElem_toArray, List.getElem_cons_zero, List.getElem_cons_succ]
      refine wpAnyH_take (i := 11) (v := .int .u8 dd) rfl (by kernel_rfl) (by kernel_rfl) (by kernel_rfl) (fun _ _ _ h => h) (Or.inl ⟨by rfl, fun w hw => by obtain ⟨x, rfl⟩ := hw; go_simp⟩) hS ?_
      try simp only [Act.put, List.setIfInBounds_toArray, List.set_cons_zero, List.set_cons_succ, List.getElem_toArray, List.getElem_cons_zero, List.getElem_cons_succ]
      refine wpAnyH_take (i := 12) (v := .int .u8 ((dd + 3 : Nat) : Int)) rfl (by kernel_rfl) (by kernel_rfl) (by kernel_rfl) (fun _ _ _ h => h) (Or.inl ⟨by rfl, fun w hw => by obtain ⟨x, rfl⟩ := hw; go_simp⟩) hS ?_
      try simp only [Act.put, List.setIfInBounds_toArray, List.set_cons_zero, List.set_cons_succ, List.getElem_toArray, List.getElem_cons_zero, List.getElem_cons_succ]
      refine wpAnyH_take (i := 13) (v := .pointer (some ⟨rb, dd + 3, none⟩)) rfl (by kernel_rfl) (by kernel_rfl) (by kernel_rfl) (fun _ _ _ h => h) (Or.inl ⟨by rfl, fun w hw => by obtain ⟨x, rfl⟩ := hw; go_simp; first | done | (intro h; omega) | (rw [if_pos (show 0 ≤ (dd : Int) + 3 ∧ (dd : Int) + 3 < 8 by omega), show ((dd : Int) + 3).toNat = dd + 3 by omega])⟩) hS ?_
      try simp only [Act.put, List.setIfInBounds_toArray, List.set_cons_zero, List.set_cons_succ, List.getElem_toArray, List.getElem_cons_zero, List.getElem_cons_succ]
      refine wpAnyH_take (i := 14) (v := .int .i64 sc.a) rfl (by kernel_rfl) (by kernel_rfl) (by kernel_rfl) (fun _ _ _ h => h) (Or.inl ⟨by rfl, fun w hw => by obtain ⟨x, rfl⟩ := hw; go_simp⟩) hS ?_
      try simp only [Act.put, List.setIfInBounds_toArray, List.set_cons_zero, List.set_cons_succ, List.getElem_toArray, List.getElem_cons_zero, List.getElem_cons_succ]
      refine wpAnyH_take (i := 15) (v := .agg #[.int .i64 sc.r, .int .i64 sc.g, .int .i64 sc.b, .int .i64 sc.a]) rfl (by kernel_rfl) (by kernel_rfl) (by kernel_rfl) (fun _ _ _ h => h) (Or.inl ⟨by rfl, fun w hw => by obtain ⟨x, rfl⟩ := hw; go_simp⟩) hS ?_
      try simp only [Act.put, List.setIfInBounds_toArray, List.set_cons_zero, List.set_cons_succ, List.getElem_toArray, List.getElem_cons_zero, List.getElem_cons_succ]
      refine wpAnyH_ready (rs := [16]) (by kernel_rfl) (by simp) ?_
      refine AllReadyH.cons rfl (fun K hK => ?_) AllReadyH.nil
      go_simp
      have T1 := Lib.hid (T0.out.alloc (by simp) (.cells #[.int .i64 0, .int .i64 0, .int .i64 0, .int .i64 0] 36))
      refine hK.out _ _ ⟨⟨_, T1.out⟩, rfl⟩ (fun hS => ?_)
      clear hK K
      try simp only [Act.put, List.setIfInBounds_toArray, List.set_cons_zero, List.set_cons_succ, List.getElem_toArray, List.getElem_cons_zero, List.getElem_cons_succ]
      refine wpAnyH_ready (rs := [17]) (by kernel_rfl) (by simp) ?_
      refine AllReadyH.cons rfl (fun K hK => ?_) AllReadyH.nil
      go_simp
      have T2 := Lib.hid (T0.out.alloc (by simp) (.cells #[.int .i64 sc.r, .int .i64 sc.g, .int .i64 sc.b, .int .i64 sc.a] 36))
      refine hK.out _ _ ⟨⟨_, T2.out⟩, rfl⟩ (fun hS => ?_)
      clear hK K
      try simp only [Act.put, List.setIfInBounds_toArray, List.set_cons_zero, List.set_cons_succ, List.getElem_toArray, List.getElem_cons_zero, List.getElem_cons_succ]
      refine wpAnyH_done (by kernel_rfl) ?_ _
      have NB := Lib.hid (show (T.alloc (.cells #[.int .i64 sc.r, .int .i64 sc.g, .int .i64 sc.b, .int .i64 sc.a] 36)).drew.heap[T.heap.size]? = some (.cells #[.int .i64 sc.r, .int .i64 sc.g, .int .i64 sc.b, .int .i64 sc.a] 36) from new_at1 T _)
      have KT := Lib.hid (show (T.alloc (.cells #[.int .i64 sc.r, .int .i64 sc.g, .int .i64 sc.b, .int .i64 sc.a] 36)).drew.heap[h]? = some (colB sc) from new_keep _ KF.out)
      have CT := Lib.hid (show (T.alloc (.cells #[.int .i64 sc.r, .int .i64 sc.g, .int .i64 sc.b, .int .i64 sc.a] 36)).drew.cell? ⟨rb, 0, none⟩ = some (.int .i64 l0) from new_cell _ HS9.out)
      have BE := Lib.hid ((bstep BT.out BT.out.size (new_below T (.cells #[.int .i64 sc.r, .int .i64 sc.g, .int .i64 sc.b, .int .i64 sc.a] 36))).drew)
      clear y0 y1 y2 y3 w1 w2 w3 T0 T1 T2 hS s0 s1 s2 s3 s9 HS9 KF RF DF
      generalize (T.alloc (.cells #[.int .i64 sc.r, .int .i64 sc.g, .int .i64 sc.b, .int .i64 sc.a] 36)).drew = Y at *
      generalize T.heap.size = gb at *
      have n0 := Joins.cell_of_block NB.out 0
      have n1 := Joins.cell_of_block NB.out 1
      have n2 := Joins.cell_of_block NB.out 2
      have n3 := Joins.cell_of_block NB.out 3
      obtain ⟨k0, k1, k2, k3⟩ := colB_cell KT.out
      have c9 := CT.out
      obtain ⟨⟨v0, v1⟩, ⟨v2, v3⟩, ⟨v4, v5⟩, ⟨v6, v7⟩⟩ := HCOK.out
      rcases Classical.em (dd = 0) with e0 | e0
      · have z : ((dd : Int) == 0) = true := by simpa using e0
        go_wp2_with fail
        go_ret
        exact ⟨rfl, BE.out⟩
      · have z : ((dd : Int) == 0) = false := by simpa using e0
        have e9 := g9 e0
        rw [e9] at c9
        go_wp2_with fail
        go_ret
        exact ⟨rfl, BE.out⟩
end Go.Proofs.Ytehkcnmjkgelkaa
