/-
  glazierlaw10.gone.
-/
import Derived.Test.YtfdlfjecgefgfaaIter
import Derived.Test.YtfdlfjecgefgfaaRw
import Derived.RangeFuncBox
import Derived.Deep.Draws
namespace Go.Proofs.Ytfdlfjecgefgfaa
open Go.RowKit Go.Shelf
attribute [local go_sem] Oper.semAt_some

/-- Two numbers, as an element. -/
def EP : Elem (Int × Int) := ⟨45, 2, fun p => [.int .i64 p.1, .int .i64 p.2], by decide, fun _ => rfl, fun p u hu => by
  simp only [List.mem_cons, List.not_mem_nil, or_false] at hu
  rcases hu with rfl | rfl <;> rfl⟩
theorem Try.info45 : (Try.prog.info? 45).map (fun i => (i.zero, i.size, i.bytes)) = some (some (.agg #[.int .i64 0, .int .i64 0]), 2, 16) := by kernel_rfl

/-- All pixels of a box. -/
def pxs (x0 y0 x1 y1 : Int) : List (Int × Int) := upto x0 y0 (x1 - x0).toNat ((y1 - y0).toNat * (x1 - x0).toNat)
/-- What gone answers. -/
def Gone (w : World) (x0 y0 x1 y1 : Int) (most : Nat) (e : Ending) (w' : World) : Prop :=
  ∃ v, e = .returned (.tuple #[v, .bool true]) ∧ OwnE EP w' w.heap.size v ((pxs x0 y0 x1 y1).take most) ∧ Below w.heap.size w w'

theorem boxed_app {W w1 : World} {n₀ B Bo t : Nat} {u v : Value} {k : Nat} {ys : List Value} {T : Obj} (hb : Boxed W B t u) (hte : t ≠ 45) (hrow : W.ownsRow n₀ 45 2 v k ys) (hgrow : (W.alloc T).grownBy w1 v.ownBlock) (hne : B ≠ Bo) (v' : Value) :
    Boxed (w1.setCell ⟨Bo, 0, none⟩ v') B t u := ((hb.alloc T).kept hgrow (hb.not_row hte hrow)).other hne v'
theorem boxed_below {W W' : World} {n₀ B t : Nat} {u : Value} (hb : Boxed W B t u) (h : Below n₀ W W') (hlt : B < n₀) : Boxed W' B t u := (h.block B hlt).trans hb
/-- The boxes of gone's variables, and what is gathered. -/
def Gath (w : World) (x0 y0 x1 y1 : Int) (most : Nat) (q : List (Int × Int)) (W : World) : Prop :=
  (∃ v, Boxed W (w.heap.size + 1 + 1 + 1) 41 v ∧ W.ownsRow (w.heap.size + 1 + 1) 45 2 v q.length (EP.flat q) ∧ True) ∧
  Boxed W (w.heap.size + 1) 3 (.int .i64 most) ∧ Boxed W (w.heap.size + 1 + 1 + 1 + 1) 3 (.int .i64 x0) ∧ Boxed W (w.heap.size + 1 + 1 + 1 + 1 + 1) 3 (.int .i64 y0) ∧ Boxed W (w.heap.size + 1 + 1 + 1 + 1 + 1 + 1) 3 (.int .i64 x1) ∧ Boxed W (w.heap.size + 1 + 1 + 1 + 1 + 1 + 1 + 1) 3 (.int .i64 y1) ∧ Below w.heap.size w W
theorem gath_own (w : World) (x0 y0 x1 y1 : Int) (most : Nat) {Bo : Nat} (hB : w.heap.size ≤ Bo) : OwnFrom Bo (fun q W => Gath w x0 y0 x1 y1 most q W) :=
  OwnFrom.and (Own.from (holdsRow_own _ _ 41 45 2 (fun q : List (Int × Int) => q.length) (fun q => EP.flat q) (fun _ _ => True)) _)
    (OwnFrom.and (Own.from (boxed_own _ _ _) _) (OwnFrom.and (Own.from (boxed_own _ _ _) _) (OwnFrom.and (Own.from (boxed_own _ _ _) _)
      (OwnFrom.and (Own.from (boxed_own _ _ _) _) (OwnFrom.and (Own.from (boxed_own _ _ _) _) (ownFrom_below (Nat.le_refl _) hB))))))

set_option maxRecDepth 100000 in
set_option maxHeartbeats 4000000 in
theorem gone_in (F : Fence) (hfn : ∀ f, F.fn f) (hC : ∀ {f args W R} m, Calls Try.prog f args W R → CallsIn F m Try.prog f args W R) (n : Nat) (hro : F.round = none) (hn : 6 ≤ n) (x0 y0 x1 y1 : Int) (most : Nat)
    (hx : -1000 ≤ x0 ∧ x0 ≤ 1000) (hx1 : -1000 ≤ x1 ∧ x1 ≤ 1000) (hy : -1000 ≤ y0 ∧ y0 ≤ 1000) (hy1 : -1000 ≤ y1 ∧ y1 ≤ 1000) (ho1 : 1 ≤ most) (ho2 : most ≤ 100000) (w : World) :
    CallsIn F n Try.prog 16 #[.agg #[.int .i64 x0, .int .i64 y0, .int .i64 x1, .int .i64 y1], .int .i64 most] w (Gone w x0 y0 x1 y1 most) := by
  have h23 := hfn 23
  have h1 : 1 ≤ n := by omega
  have he := eqlF
  obtain ⟨i0, hi, hz0, hz1, hz2⟩ := info_parts Try.info45
  have HI := Lib.hid hi
  have HZ := Lib.hid (And.intro hz0 (And.intro hz1 hz2))
  clear hi hz0 hz1 hz2
  refine callsIn_of_wp_marks Try.func16 rfl (hfn 16) ?_ hro
  simp only [Try.ntmps16, List.size_toArray, List.length_cons, List.length_nil, Nat.reduceAdd, Nat.reduceSub, Array.replicate_succ, Array.replicate_zero, List.push_toArray, List.append_toArray, List.nil_append, List.cons_append]
  gi_wp2_with (gi_at_call 23; (with_reducible refine (hC _ (pixels_any _ _ _ _ _)).mono ?_); rintro e w' ⟨rfl, rfl⟩)
  clear he
  have b1 := Boxed.new (w.alloc (.cells #[.int .i64 x0, .int .i64 y0, .int .i64 x1, .int .i64 y1] 23)) 3 (.int .i64 most)
  have b3 := Boxed.new (((w.alloc (.cells #[.int .i64 x0, .int .i64 y0, .int .i64 x1, .int .i64 y1] 23)).alloc (.cells #[.int .i64 most] 3)).alloc (.cells #[] 45)) 41 (.slice (some ⟨w.heap.size + 1 + 1, 0, none⟩) 0 0)
  have b4 := Boxed.new ((((w.alloc (.cells #[.int .i64 x0, .int .i64 y0, .int .i64 x1, .int .i64 y1] 23)).alloc (.cells #[.int .i64 most] 3)).alloc (.cells #[] 45)).alloc (.cells #[.slice (some ⟨w.heap.size + 1 + 1, 0, none⟩) 0 0] 41)) 3 (.int .i64 x0)
  have b5 := Boxed.new (((((w.alloc (.cells #[.int .i64 x0, .int .i64 y0, .int .i64 x1, .int .i64 y1] 23)).alloc (.cells #[.int .i64 most] 3)).alloc (.cells #[] 45)).alloc (.cells #[.slice (some ⟨w.heap.size + 1 + 1, 0, none⟩) 0 0] 41)).alloc (.cells #[.int .i64 x0] 3)) 3 (.int .i64 y0)
  have b6 := Boxed.new ((((((w.alloc (.cells #[.int .i64 x0, .int .i64 y0, .int .i64 x1, .int .i64 y1] 23)).alloc (.cells #[.int .i64 most] 3)).alloc (.cells #[] 45)).alloc (.cells #[.slice (some ⟨w.heap.size + 1 + 1, 0, none⟩) 0 0] 41)).alloc (.cells #[.int .i64 x0] 3)).alloc (.cells #[.int .i64 y0] 3)) 3 (.int .i64 x1)
  have b7 := Boxed.new (((((((w.alloc (.cells #[.int .i64 x0, .int .i64 y0, .int .i64 x1, .int .i64 y1] 23)).alloc (.cells #[.int .i64 most] 3)).alloc (.cells #[] 45)).alloc (.cells #[.slice (some ⟨w.heap.size + 1 + 1, 0, none⟩) 0 0] 41)).alloc (.cells #[.int .i64 x0] 3)).alloc (.cells #[.int .i64 y0] 3)).alloc (.cells #[.int .i64 x1] 3)) 3 (.int .i64 y1)
  simp only [World.size_alloc] at b1 b3 b4 b5 b6 b7
  replace b1 := ((((((b1.alloc (.cells #[] 45)).alloc (.cells #[.slice (some ⟨w.heap.size + 1 + 1, 0, none⟩) 0 0] 41)).alloc (.cells #[.int .i64 x0] 3)).alloc (.cells #[.int .i64 y0] 3)).alloc (.cells #[.int .i64 x1] 3)).alloc (.cells #[.int .i64 y1] 3))
  replace b3 := ((((b3.alloc (.cells #[.int .i64 x0] 3)).alloc (.cells #[.int .i64 y0] 3)).alloc (.cells #[.int .i64 x1] 3)).alloc (.cells #[.int .i64 y1] 3))
  replace b4 := (((b4.alloc (.cells #[.int .i64 y0] 3)).alloc (.cells #[.int .i64 x1] 3)).alloc (.cells #[.int .i64 y1] 3))
  replace b5 := ((b5.alloc (.cells #[.int .i64 x1] 3)).alloc (.cells #[.int .i64 y1] 3))
  replace b6 := (b6.alloc (.cells #[.int .i64 y1] 3))
  have hB0 : Below w.heap.size w ((((((((w.alloc (.cells #[.int .i64 x0, .int .i64 y0, .int .i64 x1, .int .i64 y1] 23)).alloc (.cells #[.int .i64 most] 3)).alloc (.cells #[] 45)).alloc (.cells #[.slice (some ⟨w.heap.size + 1 + 1, 0, none⟩) 0 0] 41)).alloc (.cells #[.int .i64 x0] 3)).alloc (.cells #[.int .i64 y0] 3)).alloc (.cells #[.int .i64 x1] 3)).alloc (.cells #[.int .i64 y1] 3)) := by
    repeat (first | exact Below.refl _ _ | refine Below.alloc ?_ (by simp <;> omega) _)
  have hsz : ((((((((w.alloc (.cells #[.int .i64 x0, .int .i64 y0, .int .i64 x1, .int .i64 y1] 23)).alloc (.cells #[.int .i64 most] 3)).alloc (.cells #[] 45)).alloc (.cells #[.slice (some ⟨w.heap.size + 1 + 1, 0, none⟩) 0 0] 41)).alloc (.cells #[.int .i64 x0] 3)).alloc (.cells #[.int .i64 y0] 3)).alloc (.cells #[.int .i64 x1] 3)).alloc (.cells #[.int .i64 y1] 3)).heap.size = w.heap.size + 8 := by simp
  have hrow : ((((((((w.alloc (.cells #[.int .i64 x0, .int .i64 y0, .int .i64 x1, .int .i64 y1] 23)).alloc (.cells #[.int .i64 most] 3)).alloc (.cells #[] 45)).alloc (.cells #[.slice (some ⟨w.heap.size + 1 + 1, 0, none⟩) 0 0] 41)).alloc (.cells #[.int .i64 x0] 3)).alloc (.cells #[.int .i64 y0] 3)).alloc (.cells #[.int .i64 x1] 3)).alloc (.cells #[.int .i64 y1] 3)).ownsRow (w.heap.size + 1 + 1) 45 2 (.slice (some ⟨w.heap.size + 1 + 1, 0, none⟩) 0 0) 0 [] := by
    have h := ((((((ownE_empty (E := EP) (base := ((w.alloc (.cells #[.int .i64 x0, .int .i64 y0, .int .i64 x1, .int .i64 y1] 23)).alloc (.cells #[.int .i64 most] 3)).heap.size) ((w.alloc (.cells #[.int .i64 x0, .int .i64 y0, .int .i64 x1, .int .i64 y1] 23)).alloc (.cells #[.int .i64 most] 3)) (Nat.le_refl _)).alloc (.cells #[.slice (some ⟨w.heap.size + 1 + 1, 0, none⟩) 0 0] 41)).alloc (.cells #[.int .i64 x0] 3)).alloc (.cells #[.int .i64 y0] 3)).alloc (.cells #[.int .i64 x1] 3)).alloc (.cells #[.int .i64 y1] 3))
    simp only [World.size_alloc] at h
    exact h
  obtain ⟨W0, hW0⟩ : ∃ W0, ((((((((w.alloc (.cells #[.int .i64 x0, .int .i64 y0, .int .i64 x1, .int .i64 y1] 23)).alloc (.cells #[.int .i64 most] 3)).alloc (.cells #[] 45)).alloc (.cells #[.slice (some ⟨w.heap.size + 1 + 1, 0, none⟩) 0 0] 41)).alloc (.cells #[.int .i64 x0] 3)).alloc (.cells #[.int .i64 y0] 3)).alloc (.cells #[.int .i64 x1] 3)).alloc (.cells #[.int .i64 y1] 3)) = W0 := ⟨_, rfl⟩
  rw [hW0] at b1 b3 b4 b5 b6 b7 hB0 hsz hrow ⊢
  clear hW0
  refine wpIn_rangeFunc_ownG hro h1 (gf := 36) (lb := #[.pointer (some ⟨w.heap.size + 1 + 1 + 1 + 1, 0, none⟩), .pointer (some ⟨w.heap.size + 1 + 1 + 1 + 1 + 1 + 1, 0, none⟩), .pointer (some ⟨w.heap.size + 1 + 1 + 1 + 1 + 1, 0, none⟩), .pointer (some ⟨w.heap.size + 1 + 1 + 1 + 1 + 1 + 1 + 1, 0, none⟩)]) rfl (hfn 36) (enters_of Try.func36 (by kernel_rfl) rfl)
    (pix_stops F hfn (n - 1) hro (by omega) (w.heap.size + 1 + 1 + 1 + 1) x0 y0 x1 y1 (x1 - x0).toNat (y1 - y0).toNat hx hx1 hy hy1 rfl rfl W0 (by omega) ⟨b4.cell, b5.cell, b6.cell, b7.cell⟩) kpQ_t (kpQ_b (by omega)) (Below.refl _ _) (fun _ => rfl)
    (fun q W => q.length < most ∧ Gath w x0 y0 x1 y1 most q W)
    (fun k q W => k = .exit 0 ∧ q.length = most ∧ Gath w x0 y0 x1 y1 most q W)
    (OwnFrom.and (ownFrom_pure _ _) (gath_own w x0 y0 x1 y1 most (by omega)))
    (fun k s X Y row hh hg hr => ⟨hh.1, hh.2.1, gath_own w x0 y0 x1 y1 most (Bo := W0.heap.size) (by omega) s X Y row hh.2.2 hg hr⟩)
    ⟨by simp; omega, ⟨_, b3, hrow, trivial⟩, b1, b4, b5, b6, b7, hB0⟩
    (fun x => { tmps := #[.agg #[.int .i64 x0, .int .i64 y0, .int .i64 x1, .int .i64 y1], .int .i64 most, .pointer (some ⟨w.heap.size, 0, none⟩), .pointer (some ⟨w.heap.size + 1, 0, none⟩), .slice none 0 0, .bool false, .pointer (some ⟨w.heap.size + 1 + 1 + 1, 0, none⟩), .func (.func 36) #[] #[.pointer (some ⟨w.heap.size + 1 + 1 + 1 + 1, 0, none⟩), .pointer (some ⟨w.heap.size + 1 + 1 + 1 + 1 + 1 + 1, 0, none⟩), .pointer (some ⟨w.heap.size + 1 + 1 + 1 + 1 + 1, 0, none⟩), .pointer (some ⟨w.heap.size + 1 + 1 + 1 + 1 + 1 + 1 + 1, 0, none⟩)], .int .i64 x.1, .int .i64 x.2, .slice (some ⟨w.heap.size + 1 + 1, 0, none⟩) 0 0, .pointer (some ⟨w.heap.size, 0, none⟩), .int .i64 x0, .pointer (some ⟨w.heap.size, 1, none⟩), .int .i64 y0, .pointer (some ⟨w.heap.size, 2, none⟩), .int .i64 x1, .pointer (some ⟨w.heap.size, 3, none⟩), .int .i64 y1, .func (.func 36) #[] #[.pointer (some ⟨w.heap.size + 1 + 1 + 1 + 1, 0, none⟩), .pointer (some ⟨w.heap.size + 1 + 1 + 1 + 1 + 1 + 1, 0, none⟩), .pointer (some ⟨w.heap.size + 1 + 1 + 1 + 1 + 1, 0, none⟩), .pointer (some ⟨w.heap.size + 1 + 1 + 1 + 1 + 1 + 1 + 1, 0, none⟩)], .func (.func 36) #[] #[.pointer (some ⟨w.heap.size + 1 + 1 + 1 + 1, 0, none⟩), .pointer (some ⟨w.heap.size + 1 + 1 + 1 + 1 + 1 + 1, 0, none⟩), .pointer (some ⟨w.heap.size + 1 + 1 + 1 + 1 + 1, 0, none⟩), .pointer (some ⟨w.heap.size + 1 + 1 + 1 + 1 + 1 + 1 + 1, 0, none⟩)], .bool false, .func (.func 36) #[] #[.pointer (some ⟨w.heap.size + 1 + 1 + 1 + 1, 0, none⟩), .pointer (some ⟨w.heap.size + 1 + 1 + 1 + 1 + 1 + 1, 0, none⟩), .pointer (some ⟨w.heap.size + 1 + 1 + 1 + 1 + 1, 0, none⟩), .pointer (some ⟨w.heap.size + 1 + 1 + 1 + 1 + 1 + 1 + 1, 0, none⟩)], .int .i64 x.1, .int .i64 x.2, undef, undef, undef, undef, undef, undef, undef, undef, undef, undef, undef], defers := [] }) ?assign ?body ?done ?stop
  case assign =>
    intro l x W K hK
    unfold encs
    gi_wp2
    exact hK
  case body =>
    rintro l pre x W ⟨hlt, ⟨v, bO, hrw, -⟩, bM, b4, b5, b6, b7, hB⟩ hpl
    obtain ⟨Av, cv, rfl⟩ := OwnE.form (E := EP) (xs := pre) hrw
    have cO := bO.cell
    have cM := bM.cell
    have hBs := hB.size
    have hz : w.heap.size + 1 + 1 ≤ W.heap.size := by have := bO.lt; omega
    have HV := Lib.hid (show EP.flat pre ++ [.int .i64 x.1, .int .i64 x.2] = EP.flat (pre ++ [x]) by rw [EP.flat_append]; rfl)
    have HC := Lib.hid (show ∀ j u, [Value.int .i64 x.1, .int .i64 x.2][j]? = some u → (W.alloc (.cells #[.int .i64 x.1, .int .i64 x.2] 45)).cell? ((⟨W.heap.size, 0, none⟩ : Addr).add j) = some u from new_el (E := EP) W x #[.int .i64 x.1, .int .i64 x.2] rfl)
    generalize x.1 = X at *
    generalize x.2 = Y at *
    gi_wp2_with (gi_at_builtin; refine wpListIn_append_own _ rfl _ _ 41 rfl (w.heap.size + 1 + 1) 45 i0 (.agg #[.int .i64 0, .int .i64 0]) 2 16 Try.underlying41 HI.out HZ.out.1 HZ.out.2.1 HZ.out.2.2 rfl (by decide) _ _ _ rfl (hrw.alloc _) ⟨W.heap.size, 0, none⟩ 1 1 [.int .i64 X, .int .i64 Y] rfl rfl HC.out (by simp [Value.oneCell']) (by unfold maxLen; omega) (by omega) (by simp; omega) ?_; intro v' w1 hown' hgrow _; obtain ⟨g', cap', rfl⟩ := ownsRow_succ hown'; obtain ⟨hv1, hv2, hr2, hk2, hb2⟩ := bO.appended (by decide) hrw hz (by omega) hown' hgrow; have hc1 := hv1.cell; have hf1 := hv1.frozen; have hc2 := hv2.cell; have hcM := (boxed_below bM hb2 (by omega)).cell)
    all_goals
      have b4' := boxed_app (Bo := w.heap.size + 1 + 1 + 1) b4 (by decide) hrw hgrow (by omega) (.slice (some ⟨g', 0, none⟩) (pre.length + 1) cap')
      have b5' := boxed_app (Bo := w.heap.size + 1 + 1 + 1) b5 (by decide) hrw hgrow (by omega) (.slice (some ⟨g', 0, none⟩) (pre.length + 1) cap')
      have b6' := boxed_app (Bo := w.heap.size + 1 + 1 + 1) b6 (by decide) hrw hgrow (by omega) (.slice (some ⟨g', 0, none⟩) (pre.length + 1) cap')
      have b7' := boxed_app (Bo := w.heap.size + 1 + 1 + 1) b7 (by decide) hrw hgrow (by omega) (.slice (some ⟨g', 0, none⟩) (pre.length + 1) cap')
      have hG : Gath w x0 y0 x1 y1 most (pre ++ [x]) (w1.setCell ⟨w.heap.size + 1 + 1 + 1, 0, none⟩ (.slice (some ⟨g', 0, none⟩) (pre.length + 1) cap')) :=
        ⟨⟨_, hv2, by rw [← HV.out, List.length_append]; exact hr2, trivial⟩, boxed_below bM hb2 (by omega), b4', b5', b6', b7', hB.trans (hb2.mono (by omega))⟩
    · exact ⟨hk2.from _, rfl, by simp; omega, hG⟩
    · refine ⟨hk2.from _, fun k hk => ?_, by simp; omega, hG⟩
      obtain rfl | rfl | rfl | rfl : k = 0 ∨ k = 1 ∨ k = 2 ∨ k = 3 := by omega
      · exact b4'.cell.trans b4.cell.symm
      · exact b5'.cell.trans b5.cell.symm
      · exact b6'.cell.trans b6.cell.symm
      · exact b7'.cell.trans b7.cell.symm
  case done =>
    rintro D q W hD hq ⟨hlt, ⟨v, bO, hrw, -⟩, bM, b4, b5, b6, b7, hB⟩ hK
    have cO := bO.cell
    obtain ⟨Av, cv, rfl⟩ := OwnE.form (E := EP) (xs := q) hrw
    have HQ := Lib.hid hq
    clear hq
    have e : (pxs x0 y0 x1 y1).take most = q := by
      have h := HQ.out
      unfold pxs
      rw [← h, List.take_of_length_le (by omega)]
    have HE := Lib.hid e
    clear e hlt
    gi_wp2
    refine ⟨by simp, .inl ⟨_, _, rfl, run_takeDeferred hK, ?_⟩⟩
    refine ⟨.tuple #[.slice Av q.length cv, .bool true], by simp [results, Try.f16, go_sem], _, rfl, ?_, hB.trans (belowK_b (w := w) (Nat.le_refl _) W D _ _ (by omega) hK rfl rfl)⟩
    rw [HE.out]
    exact OwnE.less (base := w.heap.size + 1 + 1) (ownsRow_putObj hrw _ hK rfl) (by omega)
  case stop =>
    rintro D k q W hD hq ⟨rfl, hlt, ⟨v, bO, hrw, -⟩, bM, b4, b5, b6, b7, hB⟩ hK
    have cO := bO.cell
    obtain ⟨Av, cv, rfl⟩ := OwnE.form (E := EP) (xs := q) hrw
    have HQ := Lib.hid hq
    clear hq
    have e : (pxs x0 y0 x1 y1).take most = q := by
      obtain ⟨r, hr⟩ := HQ.out
      unfold pxs
      rw [← hr, ← hlt]
      simp
    have HE := Lib.hid e
    clear e hlt
    gi_wp2
    refine ⟨by simp, .inl ⟨_, _, rfl, run_takeDeferred hK, ?_⟩⟩
    refine ⟨.tuple #[.slice Av q.length cv, .bool true], by simp [results, Try.f16, go_sem], _, rfl, ?_, hB.trans (belowK_b (w := w) (Nat.le_refl _) W D _ _ (by omega) hK rfl rfl)⟩
    rw [HE.out]
    exact OwnE.less (base := w.heap.size + 1 + 1) (ownsRow_putObj hrw _ hK rfl) (by omega)

theorem gone_any (x0 y0 x1 y1 : Int) (most : Nat)
    (hx : -1000 ≤ x0 ∧ x0 ≤ 1000) (hx1 : -1000 ≤ x1 ∧ x1 ≤ 1000) (hy : -1000 ≤ y0 ∧ y0 ≤ 1000) (hy1 : -1000 ≤ y1 ∧ y1 ≤ 1000) (ho1 : 1 ≤ most) (ho2 : most ≤ 100000) (w : World) :
    Calls Try.prog 16 #[.agg #[.int .i64 x0, .int .i64 y0, .int .i64 x1, .int .i64 y1], .int .i64 most] w (Gone w x0 y0 x1 y1 most) :=
  (callsIn_wide (n := 6)).1 (gone_in Fence.wide (fun _ => trivial) (fun _ h => callsIn_wide.2 h) 6 rfl (Nat.le_refl _) x0 y0 x1 y1 most hx hx1 hy hy1 ho1 ho2 w)
end Go.Proofs.Ytfdlfjecgefgfaa
