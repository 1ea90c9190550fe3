/-
  glazierlaw14.gone, and scene.Count.
-/
import Derived.Test.YtnpcmoeleigpoaaEach
import Derived.RangeFuncBox
import Derived.Deep.Draws
namespace Go.Proofs.Ytnpcmoeleigpoaa
open Go.RowKit Go.Shelf
attribute [local go_sem] Oper.semAt_some

/-- Two numbers, as an element. -/
def E2 : Elem (Int × Int) := ⟨43, 2, fun p => [.int .i64 p.1, .int .i64 p.2], by decide, fun _ => rfl, fun p u hu => by
  simp only [List.mem_cons, List.not_mem_nil, or_false] at hu
  rcases hu with rfl | rfl <;> rfl⟩
theorem Try.info43 : (Try.prog.info? 43).map (fun i => (i.zero, i.size, i.bytes)) = some (some (.agg #[.int .i64 0, .int .i64 0]), 2, 16) := by kernel_rfl
theorem eqIn61 (w : World) (d : Nat) (f : Fn) (a b : Array Value) : (Op.equalIn (d + 1) 61 (.func f a b) .nilFunc).run Try.prog w = .ok false w := by
  simp [Op.equalIn, run_underlying Try.underlying61]
theorem neqF (w : World) (f : Fn) (a b : Array Value) : (binOp .neq 61 (.func f a b) .nilFunc).run Try.prog w = .ok (.bool true) w := by
  simp only [binOp]
  simp [Op.equal, Op.maxDepth, eqIn61 w 9999]
theorem eqlF (w : World) (f : Fn) (a b : Array Value) : (binOp .eql 61 (.func f a b) .nilFunc).run Try.prog w = .ok (.bool false) w := by
  simp only [binOp]
  simp [Op.equal, Op.maxDepth, eqIn61 w 9999]
/-- What gone answers. -/
def Gone (w : World) (s : Sc) (most : Nat) (e : Ending) (w' : World) : Prop :=
  ∃ v, e = .returned (.tuple #[v, .bool true]) ∧ OwnE E2 w' w.heap.size v ((plc s).take most) ∧ Below w.heap.size w w'
theorem boxed_below {W W' : World} {n₀ B t : Nat} {u : Value} (hb : Boxed W B t u) (h : Below n₀ W W') (hlt : B < n₀) : Boxed W' B t u := (h.block B hlt).trans hb
/-- The boxes of gone's variables, and what is gathered. -/
def Gath (w : World) (most : Nat) (q : List (Int × Int)) (W : World) : Prop :=
  (∃ v, Boxed W (w.heap.size + 1 + 1 + 1) 37 v ∧ W.ownsRow (w.heap.size + 1 + 1) 43 2 v q.length (E2.flat q) ∧ True) ∧
  Boxed W (w.heap.size + 1) 3 (.int .i64 most) ∧ Below w.heap.size w W
theorem gath_own (w : World) (most : Nat) {Bo : Nat} (hB : w.heap.size ≤ Bo) : OwnFrom Bo (fun q W => Gath w most q W) :=
  OwnFrom.and (Own.from (holdsRow_own _ _ 37 43 2 (fun q : List (Int × Int) => q.length) (fun q => E2.flat q) (fun _ _ => True)) _)
    (OwnFrom.and (Own.from (boxed_own _ _ _) _) (ownFrom_below (Nat.le_refl _) hB))

set_option maxRecDepth 100000 in
set_option maxHeartbeats 4000000 in
theorem gone_in (F : Fence) (hfn : ∀ f, F.fn f) (hC : ∀ {f args W R} m, Calls Try.prog f args W R → CallsIn F m Try.prog f args W R) (n : Nat) (hro : F.round = none) (hn : 6 ≤ n) (s : Sc) (hf : s.few) (most : Nat)
    (ho1 : 1 ≤ most) (ho2 : most ≤ 100000) (w : World) (hd : Es ED w w.heap.size s.dA s.ds) :
    CallsIn F n Try.prog 16 #[.agg #[.int .i64 s.w, .int .i64 s.h, .int .u8 s.k.r, .int .u8 s.k.g, .int .u8 s.k.b, .int .u8 s.k.a, .slice s.vA s.vs.length s.vc, .slice s.tA s.ts.length s.tc, .slice s.pA s.ps.length s.pc, .slice s.dA s.ds.length s.dc], .int .i64 most] w (Gone w s most) := by
  have h17 := hfn 17
  have h1 : 1 ≤ n := by omega
  have he := eqlF
  obtain ⟨i0, hi, hz0, hz1, hz2⟩ := info_parts Try.info43
  have HI := Lib.hid hi
  have HZ := Lib.hid (And.intro hz0 (And.intro hz1 hz2))
  have HD := Lib.hid hd
  clear hi hz0 hz1 hz2 hd
  refine callsIn_of_wp_marks Try.func16 rfl (hfn 16) ?_ hro
  simp only [Try.ntmps16, List.size_toArray, List.length_cons, List.length_nil, Nat.reduceAdd, Nat.reduceSub, Array.replicate_succ, Array.replicate_zero, List.push_toArray, List.append_toArray, List.nil_append, List.cons_append]
  gi_wp2_with (gi_at_call 17; (with_reducible refine (hC _ (each_any s _)).mono ?_); rintro e w' ⟨rfl, rfl⟩)
  clear he
  have b1 := Boxed.new (w.alloc (.cells #[.int .i64 s.w, .int .i64 s.h, .int .u8 s.k.r, .int .u8 s.k.g, .int .u8 s.k.b, .int .u8 s.k.a, .slice s.vA s.vs.length s.vc, .slice s.tA s.ts.length s.tc, .slice s.pA s.ps.length s.pc, .slice s.dA s.ds.length s.dc] 29)) 3 (.int .i64 most)
  have b3 := Boxed.new (((w.alloc (.cells #[.int .i64 s.w, .int .i64 s.h, .int .u8 s.k.r, .int .u8 s.k.g, .int .u8 s.k.b, .int .u8 s.k.a, .slice s.vA s.vs.length s.vc, .slice s.tA s.ts.length s.tc, .slice s.pA s.ps.length s.pc, .slice s.dA s.ds.length s.dc] 29)).alloc (.cells #[.int .i64 most] 3)).alloc (.cells #[] 43)) 37 (.slice (some ⟨w.heap.size + 1 + 1, 0, none⟩) 0 0)
  have hS : (((((w.alloc (.cells #[.int .i64 s.w, .int .i64 s.h, .int .u8 s.k.r, .int .u8 s.k.g, .int .u8 s.k.b, .int .u8 s.k.a, .slice s.vA s.vs.length s.vc, .slice s.tA s.ts.length s.tc, .slice s.pA s.ps.length s.pc, .slice s.dA s.ds.length s.dc] 29)).alloc (.cells #[.int .i64 most] 3)).alloc (.cells #[] 43)).alloc (.cells #[.slice (some ⟨w.heap.size + 1 + 1, 0, none⟩) 0 0] 37)).alloc (scB s)).heap[w.heap.size + 1 + 1 + 1 + 1]? = some (scB s) := by
    have h := heap_alloc_new ((((w.alloc (.cells #[.int .i64 s.w, .int .i64 s.h, .int .u8 s.k.r, .int .u8 s.k.g, .int .u8 s.k.b, .int .u8 s.k.a, .slice s.vA s.vs.length s.vc, .slice s.tA s.ts.length s.tc, .slice s.pA s.ps.length s.pc, .slice s.dA s.ds.length s.dc] 29)).alloc (.cells #[.int .i64 most] 3)).alloc (.cells #[] 43)).alloc (.cells #[.slice (some ⟨w.heap.size + 1 + 1, 0, none⟩) 0 0] 37)) (scB s)
    simp only [World.size_alloc] at h
    exact h
  simp only [World.size_alloc] at b1 b3
  replace b1 := (((b1.alloc (.cells #[] 43)).alloc (.cells #[.slice (some ⟨w.heap.size + 1 + 1, 0, none⟩) 0 0] 37)).alloc (scB s))
  replace b3 := (b3.alloc (scB s))
  have hB0 : Below w.heap.size w (((((w.alloc (.cells #[.int .i64 s.w, .int .i64 s.h, .int .u8 s.k.r, .int .u8 s.k.g, .int .u8 s.k.b, .int .u8 s.k.a, .slice s.vA s.vs.length s.vc, .slice s.tA s.ts.length s.tc, .slice s.pA s.ps.length s.pc, .slice s.dA s.ds.length s.dc] 29)).alloc (.cells #[.int .i64 most] 3)).alloc (.cells #[] 43)).alloc (.cells #[.slice (some ⟨w.heap.size + 1 + 1, 0, none⟩) 0 0] 37)).alloc (scB s)) := by
    repeat (first | exact Below.refl _ _ | refine Below.alloc ?_ (by simp <;> omega) _)
  have hsz : (((((w.alloc (.cells #[.int .i64 s.w, .int .i64 s.h, .int .u8 s.k.r, .int .u8 s.k.g, .int .u8 s.k.b, .int .u8 s.k.a, .slice s.vA s.vs.length s.vc, .slice s.tA s.ts.length s.tc, .slice s.pA s.ps.length s.pc, .slice s.dA s.ds.length s.dc] 29)).alloc (.cells #[.int .i64 most] 3)).alloc (.cells #[] 43)).alloc (.cells #[.slice (some ⟨w.heap.size + 1 + 1, 0, none⟩) 0 0] 37)).alloc (scB s)).heap.size = w.heap.size + 5 := by simp
  have hrow : (((((w.alloc (.cells #[.int .i64 s.w, .int .i64 s.h, .int .u8 s.k.r, .int .u8 s.k.g, .int .u8 s.k.b, .int .u8 s.k.a, .slice s.vA s.vs.length s.vc, .slice s.tA s.ts.length s.tc, .slice s.pA s.ps.length s.pc, .slice s.dA s.ds.length s.dc] 29)).alloc (.cells #[.int .i64 most] 3)).alloc (.cells #[] 43)).alloc (.cells #[.slice (some ⟨w.heap.size + 1 + 1, 0, none⟩) 0 0] 37)).alloc (scB s)).ownsRow (w.heap.size + 1 + 1) 43 2 (.slice (some ⟨w.heap.size + 1 + 1, 0, none⟩) 0 0) 0 [] := by
    have h := (((ownE_empty (E := E2) (base := ((w.alloc (.cells #[.int .i64 s.w, .int .i64 s.h, .int .u8 s.k.r, .int .u8 s.k.g, .int .u8 s.k.b, .int .u8 s.k.a, .slice s.vA s.vs.length s.vc, .slice s.tA s.ts.length s.tc, .slice s.pA s.ps.length s.pc, .slice s.dA s.ds.length s.dc] 29)).alloc (.cells #[.int .i64 most] 3)).heap.size) ((w.alloc (.cells #[.int .i64 s.w, .int .i64 s.h, .int .u8 s.k.r, .int .u8 s.k.g, .int .u8 s.k.b, .int .u8 s.k.a, .slice s.vA s.vs.length s.vc, .slice s.tA s.ts.length s.tc, .slice s.pA s.ps.length s.pc, .slice s.dA s.ds.length s.dc] 29)).alloc (.cells #[.int .i64 most] 3)) (Nat.le_refl _)).alloc (.cells #[.slice (some ⟨w.heap.size + 1 + 1, 0, none⟩) 0 0] 37)).alloc (scB s))
    simp only [World.size_alloc] at h
    exact h
  obtain ⟨W0, hW0⟩ : ∃ W0, (((((w.alloc (.cells #[.int .i64 s.w, .int .i64 s.h, .int .u8 s.k.r, .int .u8 s.k.g, .int .u8 s.k.b, .int .u8 s.k.a, .slice s.vA s.vs.length s.vc, .slice s.tA s.ts.length s.tc, .slice s.pA s.ps.length s.pc, .slice s.dA s.ds.length s.dc] 29)).alloc (.cells #[.int .i64 most] 3)).alloc (.cells #[] 43)).alloc (.cells #[.slice (some ⟨w.heap.size + 1 + 1, 0, none⟩) 0 0] 37)).alloc (scB s)) = W0 := ⟨_, rfl⟩
  rw [hW0] at b1 b3 hB0 hsz hrow hS
  have HW0 := Lib.hid hW0
  change Code.wpIn _ _ _ _ _ _ (((((w.alloc (.cells #[.int .i64 s.w, .int .i64 s.h, .int .u8 s.k.r, .int .u8 s.k.g, .int .u8 s.k.b, .int .u8 s.k.a, .slice s.vA s.vs.length s.vc, .slice s.tA s.ts.length s.tc, .slice s.pA s.ps.length s.pc, .slice s.dA s.ds.length s.dc] 29)).alloc (.cells #[.int .i64 most] 3)).alloc (.cells #[] 43)).alloc (.cells #[.slice (some ⟨w.heap.size + 1 + 1, 0, none⟩) 0 0] 37)).alloc (scB s))
  rw [show (((((w.alloc (.cells #[.int .i64 s.w, .int .i64 s.h, .int .u8 s.k.r, .int .u8 s.k.g, .int .u8 s.k.b, .int .u8 s.k.a, .slice s.vA s.vs.length s.vc, .slice s.tA s.ts.length s.tc, .slice s.pA s.ps.length s.pc, .slice s.dA s.ds.length s.dc] 29)).alloc (.cells #[.int .i64 most] 3)).alloc (.cells #[] 43)).alloc (.cells #[.slice (some ⟨w.heap.size + 1 + 1, 0, none⟩) 0 0] 37)).alloc (scB s)) = W0 from hW0]
  clear hW0 HW0
  refine wpIn_rangeFunc_ownG hro h1 (gf := 39) (lb := #[.pointer (some ⟨w.heap.size + 1 + 1 + 1 + 1, 0, none⟩)]) rfl (hfn 39) (enters_of Try.func39 (by kernel_rfl) rfl)
    (each_stops F hfn (n - 1) hro (by omega) (w.heap.size + 1 + 1 + 1 + 1) w.heap.size s hf W0 hS (HD.out.below hB0) (by omega)) belowK_t (belowK_b (by omega)) (Below.refl _ _) (fun _ => rfl)
    (fun q W => q.length < most ∧ Gath w most q W)
    (fun k q W => k = .exit 0 ∧ q.length = most ∧ Gath w most q W)
    (OwnFrom.and (ownFrom_pure _ _) (gath_own w most (by omega)))
    (fun k s X Y row hh hg hr => ⟨hh.1, hh.2.1, gath_own w most (Bo := W0.heap.size) (by omega) s X Y row hh.2.2 hg hr⟩)
    ⟨by simp; omega, ⟨_, b3, hrow, trivial⟩, b1, hB0⟩
    (fun x => { tmps := #[.agg #[.int .i64 s.w, .int .i64 s.h, .int .u8 s.k.r, .int .u8 s.k.g, .int .u8 s.k.b, .int .u8 s.k.a, .slice s.vA s.vs.length s.vc, .slice s.tA s.ts.length s.tc, .slice s.pA s.ps.length s.pc, .slice s.dA s.ds.length s.dc], .int .i64 most, .pointer (some ⟨w.heap.size, 0, none⟩), .pointer (some ⟨w.heap.size + 1, 0, none⟩), .slice none 0 0, .bool false, .pointer (some ⟨w.heap.size + 1 + 1 + 1, 0, none⟩), .func (.func 39) #[] #[.pointer (some ⟨w.heap.size + 1 + 1 + 1 + 1, 0, none⟩)], .int .i64 x.1, .int .i64 x.2, .slice (some ⟨w.heap.size + 1 + 1, 0, none⟩) 0 0, .agg #[.int .i64 s.w, .int .i64 s.h, .int .u8 s.k.r, .int .u8 s.k.g, .int .u8 s.k.b, .int .u8 s.k.a, .slice s.vA s.vs.length s.vc, .slice s.tA s.ts.length s.tc, .slice s.pA s.ps.length s.pc, .slice s.dA s.ds.length s.dc], .func (.func 39) #[] #[.pointer (some ⟨w.heap.size + 1 + 1 + 1 + 1, 0, none⟩)], .func (.func 39) #[] #[.pointer (some ⟨w.heap.size + 1 + 1 + 1 + 1, 0, none⟩)], .bool false, .func (.func 39) #[] #[.pointer (some ⟨w.heap.size + 1 + 1 + 1 + 1, 0, none⟩)], .int .i64 x.1, .int .i64 x.2, undef, undef, undef, undef, undef, undef, undef, undef, undef, undef, undef], defers := [] }) ?assign ?body ?done ?stop
  case assign =>
    intro l x W K hK
    unfold encs
    gi_wp2
    exact hK
  case body =>
    rintro l pre x W ⟨hlt, ⟨v, bO, hrw, -⟩, bM, hB⟩ hpl
    obtain ⟨Av, cv, rfl⟩ := OwnE.form (E := E2) (xs := pre) hrw
    have cO := bO.cell
    have cM := bM.cell
    have hBs := hB.size
    have hz : w.heap.size + 1 + 1 ≤ W.heap.size := by have := bO.lt; omega
    have HV := Lib.hid (show E2.flat pre ++ [.int .i64 x.1, .int .i64 x.2] = E2.flat (pre ++ [x]) by rw [E2.flat_append]; rfl)
    have HC := Lib.hid (show ∀ j u, [Value.int .i64 x.1, .int .i64 x.2][j]? = some u → (W.alloc (.cells #[.int .i64 x.1, .int .i64 x.2] 43)).cell? ((⟨W.heap.size, 0, none⟩ : Addr).add j) = some u from new_el (E := E2) W x #[.int .i64 x.1, .int .i64 x.2] rfl)
    generalize x.1 = X at *
    generalize x.2 = Y at *
    gi_wp2_with (gi_at_builtin; refine wpListIn_append_own _ rfl _ _ 37 rfl (w.heap.size + 1 + 1) 43 i0 (.agg #[.int .i64 0, .int .i64 0]) 2 16 Try.underlying37 HI.out HZ.out.1 HZ.out.2.1 HZ.out.2.2 rfl (by decide) _ _ _ rfl (hrw.alloc _) ⟨W.heap.size, 0, none⟩ 1 1 [.int .i64 X, .int .i64 Y] rfl rfl HC.out (by simp [Value.oneCell']) (by unfold maxLen; omega) (by omega) (by simp; omega) ?_; intro v' w1 hown' hgrow _; obtain ⟨g', cap', rfl⟩ := ownsRow_succ hown'; obtain ⟨hv1, hv2, hr2, hk2, hb2⟩ := bO.appended (by decide) hrw hz (by omega) hown' hgrow; have hc1 := hv1.cell; have hf1 := hv1.frozen; have hc2 := hv2.cell; have hcM := (boxed_below bM hb2 (by omega)).cell)
    all_goals
      have hG : Gath w most (pre ++ [x]) (w1.setCell ⟨w.heap.size + 1 + 1 + 1, 0, none⟩ (.slice (some ⟨g', 0, none⟩) (pre.length + 1) cap')) :=
        ⟨⟨_, hv2, by rw [← HV.out, List.length_append]; exact hr2, trivial⟩, boxed_below bM hb2 (by omega), hB.trans (hb2.mono (by omega))⟩
    · exact ⟨hk2.from _, rfl, by simp; omega, hG⟩
    · exact ⟨hk2.from _, hb2.mono (by omega), by simp; omega, hG⟩
  case done =>
    rintro D q W hD hq ⟨hlt, ⟨v, bO, hrw, -⟩, bM, hB⟩ hK
    have cO := bO.cell
    obtain ⟨Av, cv, rfl⟩ := OwnE.form (E := E2) (xs := q) hrw
    have HQ := Lib.hid hq
    clear hq
    have e : (plc s).take most = q := by
      have h := HQ.out
      rw [← h, List.take_of_length_le (by omega)]
    have HE := Lib.hid e
    clear e hlt
    gi_wp2
    refine ⟨by simp, .inl ⟨_, _, rfl, run_takeDeferred hK, ?_⟩⟩
    refine ⟨.tuple #[.slice Av q.length cv, .bool true], by simp [results, Try.f16, go_sem], _, rfl, ?_, hB.trans (belowK_b (w := w) (Nat.le_refl _) W D _ _ (by omega) hK rfl rfl)⟩
    rw [HE.out]
    exact OwnE.less (base := w.heap.size + 1 + 1) (ownsRow_putObj hrw _ hK rfl) (by omega)
  case stop =>
    rintro D k q W hD hq ⟨rfl, hlt, ⟨v, bO, hrw, -⟩, bM, hB⟩ hK
    have cO := bO.cell
    obtain ⟨Av, cv, rfl⟩ := OwnE.form (E := E2) (xs := q) hrw
    have HQ := Lib.hid hq
    clear hq
    have e : (plc s).take most = q := by
      obtain ⟨r, hr⟩ := HQ.out
      rw [← hr, ← hlt]
      simp
    have HE := Lib.hid e
    clear e hlt
    gi_wp2
    refine ⟨by simp, .inl ⟨_, _, rfl, run_takeDeferred hK, ?_⟩⟩
    refine ⟨.tuple #[.slice Av q.length cv, .bool true], by simp [results, Try.f16, go_sem], _, rfl, ?_, hB.trans (belowK_b (w := w) (Nat.le_refl _) W D _ _ (by omega) hK rfl rfl)⟩
    rw [HE.out]
    exact OwnE.less (base := w.heap.size + 1 + 1) (ownsRow_putObj hrw _ hK rfl) (by omega)

theorem gone_any (s : Sc) (hf : s.few) (most : Nat) (ho1 : 1 ≤ most) (ho2 : most ≤ 100000) (w : World) (hd : Es ED w w.heap.size s.dA s.ds) :
    Calls Try.prog 16 #[.agg #[.int .i64 s.w, .int .i64 s.h, .int .u8 s.k.r, .int .u8 s.k.g, .int .u8 s.k.b, .int .u8 s.k.a, .slice s.vA s.vs.length s.vc, .slice s.tA s.ts.length s.tc, .slice s.pA s.ps.length s.pc, .slice s.dA s.ds.length s.dc], .int .i64 most] w (Gone w s most) :=
  (callsIn_wide (n := 6)).1 (gone_in Fence.wide (fun _ => trivial) (fun _ h => callsIn_wide.2 h) 6 rfl (Nat.le_refl _) s hf most ho1 ho2 w hd)

/-- Of how many have come so far: the counter, in its box. -/
def Cnt (w : World) (q : List (Int × Int)) (W : World) : Prop := Boxed W (w.heap.size + 1) 3 (.int .i64 q.length) ∧ Below w.heap.size w W
theorem cnt_own (w : World) {Bo : Nat} (hB : w.heap.size ≤ Bo) : OwnFrom Bo (fun q W => Cnt w q W) :=
  OwnFrom.and (Own.from (boxed_own _ _ (fun q : List (Int × Int) => .int .i64 q.length)) _) (ownFrom_below (Nat.le_refl _) hB)
theorem plc_few {s : Sc} (hf : s.few) : (plc s).length ≤ 1000000 := by
  have h : ∀ (l : List (Lo Dr)), (∀ x ∈ l, x.x.tris.length ≤ 1000) → (l.map fun l => l.x.tris.length).sum ≤ l.length * 1000 := by
    intro l
    induction l with
    | nil => intro _; simp
    | cons a l ih =>
      intro h
      have h1 := ih fun x hx => h x (by simp [hx])
      have h2 := h a (by simp)
      rw [List.map_cons, List.sum_cons, List.length_cons]
      omega
  have h1 := h s.ds hf.dx
  have h2 := hf.ds
  unfold plc lens
  rw [plF_len]
  omega
set_option maxRecDepth 100000 in
set_option maxHeartbeats 4000000 in
theorem count_in (F : Fence) (hfn : ∀ f, F.fn f) (hC : ∀ {f args W R} m, Calls Try.prog f args W R → CallsIn F m Try.prog f args W R) (n : Nat) (hro : F.round = none) (hn : 6 ≤ n) (s : Sc) (hf : s.few) (w : World) (hd : Es ED w w.heap.size s.dA s.ds) :
    CallsIn F n Try.prog 14 #[.agg #[.int .i64 s.w, .int .i64 s.h, .int .u8 s.k.r, .int .u8 s.k.g, .int .u8 s.k.b, .int .u8 s.k.a, .slice s.vA s.vs.length s.vc, .slice s.tA s.ts.length s.tc, .slice s.pA s.ps.length s.pc, .slice s.dA s.ds.length s.dc]] w fun e w' => e = .returned (.int .i64 (plc s).length) ∧ Below w.heap.size w w' := by
  have h17 := hfn 17
  have h1 : 1 ≤ n := by omega
  have HD := Lib.hid hd
  have hmost := plc_few hf
  clear hd
  refine callsIn_of_wp_marks Try.func14 rfl (hfn 14) ?_ hro
  simp only [Try.ntmps14, List.size_toArray, List.length_cons, List.length_nil, Nat.reduceAdd, Nat.reduceSub, Array.replicate_succ, Array.replicate_zero, List.push_toArray, List.append_toArray, List.nil_append, List.cons_append]
  gi_wp2_with (gi_at_call 17; (with_reducible refine (hC _ (each_any s _)).mono ?_); rintro e w' ⟨rfl, rfl⟩)
  have b1 := Boxed.new (w.alloc (.cells #[.int .i64 s.w, .int .i64 s.h, .int .u8 s.k.r, .int .u8 s.k.g, .int .u8 s.k.b, .int .u8 s.k.a, .slice s.vA s.vs.length s.vc, .slice s.tA s.ts.length s.tc, .slice s.pA s.ps.length s.pc, .slice s.dA s.ds.length s.dc] 29)) 3 (.int .i64 0)
  have hS : (((w.alloc (.cells #[.int .i64 s.w, .int .i64 s.h, .int .u8 s.k.r, .int .u8 s.k.g, .int .u8 s.k.b, .int .u8 s.k.a, .slice s.vA s.vs.length s.vc, .slice s.tA s.ts.length s.tc, .slice s.pA s.ps.length s.pc, .slice s.dA s.ds.length s.dc] 29)).alloc (.cells #[.int .i64 0] 3)).alloc (scB s)).heap[w.heap.size + 1 + 1]? = some (scB s) := by
    have h := heap_alloc_new ((w.alloc (.cells #[.int .i64 s.w, .int .i64 s.h, .int .u8 s.k.r, .int .u8 s.k.g, .int .u8 s.k.b, .int .u8 s.k.a, .slice s.vA s.vs.length s.vc, .slice s.tA s.ts.length s.tc, .slice s.pA s.ps.length s.pc, .slice s.dA s.ds.length s.dc] 29)).alloc (.cells #[.int .i64 0] 3)) (scB s)
    simp only [World.size_alloc] at h
    exact h
  simp only [World.size_alloc] at b1
  replace b1 := b1.alloc (scB s)
  have hB0 : Below w.heap.size w (((w.alloc (.cells #[.int .i64 s.w, .int .i64 s.h, .int .u8 s.k.r, .int .u8 s.k.g, .int .u8 s.k.b, .int .u8 s.k.a, .slice s.vA s.vs.length s.vc, .slice s.tA s.ts.length s.tc, .slice s.pA s.ps.length s.pc, .slice s.dA s.ds.length s.dc] 29)).alloc (.cells #[.int .i64 0] 3)).alloc (scB s)) := by
    repeat (first | exact Below.refl _ _ | refine Below.alloc ?_ (by simp <;> omega) _)
  have hsz : (((w.alloc (.cells #[.int .i64 s.w, .int .i64 s.h, .int .u8 s.k.r, .int .u8 s.k.g, .int .u8 s.k.b, .int .u8 s.k.a, .slice s.vA s.vs.length s.vc, .slice s.tA s.ts.length s.tc, .slice s.pA s.ps.length s.pc, .slice s.dA s.ds.length s.dc] 29)).alloc (.cells #[.int .i64 0] 3)).alloc (scB s)).heap.size = w.heap.size + 3 := by simp
  obtain ⟨W0, hW0⟩ : ∃ W0, (((w.alloc (.cells #[.int .i64 s.w, .int .i64 s.h, .int .u8 s.k.r, .int .u8 s.k.g, .int .u8 s.k.b, .int .u8 s.k.a, .slice s.vA s.vs.length s.vc, .slice s.tA s.ts.length s.tc, .slice s.pA s.ps.length s.pc, .slice s.dA s.ds.length s.dc] 29)).alloc (.cells #[.int .i64 0] 3)).alloc (scB s)) = W0 := ⟨_, rfl⟩
  rw [hW0] at b1 hB0 hsz hS
  change Code.wpIn _ _ _ _ _ _ (((w.alloc (.cells #[.int .i64 s.w, .int .i64 s.h, .int .u8 s.k.r, .int .u8 s.k.g, .int .u8 s.k.b, .int .u8 s.k.a, .slice s.vA s.vs.length s.vc, .slice s.tA s.ts.length s.tc, .slice s.pA s.ps.length s.pc, .slice s.dA s.ds.length s.dc] 29)).alloc (.cells #[.int .i64 0] 3)).alloc (scB s))
  rw [show (((w.alloc (.cells #[.int .i64 s.w, .int .i64 s.h, .int .u8 s.k.r, .int .u8 s.k.g, .int .u8 s.k.b, .int .u8 s.k.a, .slice s.vA s.vs.length s.vc, .slice s.tA s.ts.length s.tc, .slice s.pA s.ps.length s.pc, .slice s.dA s.ds.length s.dc] 29)).alloc (.cells #[.int .i64 0] 3)).alloc (scB s)) = W0 from hW0]
  clear hW0
  refine wpIn_rangeFunc_ownG hro h1 (gf := 39) (lb := #[.pointer (some ⟨w.heap.size + 1 + 1, 0, none⟩)]) rfl (hfn 39) (enters_of Try.func39 (by kernel_rfl) rfl)
    (each_stops F hfn (n - 1) hro (by omega) (w.heap.size + 1 + 1) w.heap.size s hf W0 hS (HD.out.below hB0) (by omega)) belowK_t (belowK_b (by omega)) (Below.refl _ _) (fun _ => rfl)
    (fun q W => Cnt w q W)
    (fun k q W => False)
    (cnt_own w (by omega))
    (fun _ _ _ _ _ hh _ _ => hh)
    ⟨b1, hB0⟩
    (fun x => { tmps := #[.agg #[.int .i64 s.w, .int .i64 s.h, .int .u8 s.k.r, .int .u8 s.k.g, .int .u8 s.k.b, .int .u8 s.k.a, .slice s.vA s.vs.length s.vc, .slice s.tA s.ts.length s.tc, .slice s.pA s.ps.length s.pc, .slice s.dA s.ds.length s.dc], .pointer (some ⟨w.heap.size, 0, none⟩), .int .i64 0, .pointer (some ⟨w.heap.size + 1, 0, none⟩), .agg #[.int .i64 s.w, .int .i64 s.h, .int .u8 s.k.r, .int .u8 s.k.g, .int .u8 s.k.b, .int .u8 s.k.a, .slice s.vA s.vs.length s.vc, .slice s.tA s.ts.length s.tc, .slice s.pA s.ps.length s.pc, .slice s.dA s.ds.length s.dc], .func (.func 39) #[] #[.pointer (some ⟨w.heap.size + 1 + 1, 0, none⟩)], .int .i64 x.1, .int .i64 x.2, undef, undef, undef], defers := [] }) ?assign ?body ?done ?stop
  case assign =>
    intro l x W K hK
    unfold encs
    gi_wp2
    simpa using hK
  case body =>
    rintro l pre x W ⟨bO, hB⟩ hpl
    have cO := bO.cell
    have fO := bO.frozen
    have hz := bO.lt
    have hw : IntKind.i64.wrap ((pre.length : Int) + 1) = pre.length + 1 := by rw [IntKind.wrap_i64]; omega
    have hw2 : wrap64 ((pre.length : Int) + 1) = pre.length + 1 := by unfold wrap64; omega
    have HP := Lib.hid (show ((pre.length : Int) + 1) = ((pre ++ [x]).length : Int) by simp)
    have b2 := Lib.hid (bO.set (.int .i64 (pre.length + 1)))
    rw [HP.out] at b2
    have B2 := Lib.hid (show Below w.heap.size w (W.setCell ⟨w.heap.size + 1, 0, none⟩ (.int .i64 ((pre ++ [x]).length))) from hB.setCell (by simp) _)
    have B3 := Lib.hid (show Below w.heap.size W (W.setCell ⟨w.heap.size + 1, 0, none⟩ (.int .i64 ((pre ++ [x]).length))) from (Below.refl _ _).setCell (by simp) _)
    have K2 := Lib.hid ((KeepsOthers.setCell W ⟨w.heap.size + 1, 0, none⟩ (.int .i64 ((pre ++ [x]).length))).from W0.heap.size)
    clear hpl hB bO
    gi_wp2
    rw [HP.out]
    exact ⟨K2.out, B3.out, b2.out, B2.out⟩
  case done =>
    rintro D q W hD hq ⟨bO, hB⟩ hK
    have cO := bO.cell
    subst hq
    gi_wp2
    refine ⟨by simp, .inl ⟨_, _, rfl, run_takeDeferred hK, ?_⟩⟩
    exact ⟨.int .i64 (plc s).length, by simp [results, Try.f14, go_sem], rfl, hB.trans (belowK_b (w := w) (Nat.le_refl _) W D _ _ (by omega) hK rfl rfl)⟩
  case stop =>
    rintro D k q W hD hq hh hK
    exact hh.elim

theorem count_any (s : Sc) (hf : s.few) (w : World) (hd : Es ED w w.heap.size s.dA s.ds) :
    Calls Try.prog 14 #[.agg #[.int .i64 s.w, .int .i64 s.h, .int .u8 s.k.r, .int .u8 s.k.g, .int .u8 s.k.b, .int .u8 s.k.a, .slice s.vA s.vs.length s.vc, .slice s.tA s.ts.length s.tc, .slice s.pA s.ps.length s.pc, .slice s.dA s.ds.length s.dc]] w fun e w' => e = .returned (.int .i64 (count s.p)) ∧ Below w.heap.size w w' := by
  rw [← plc_len]
  exact (callsIn_wide (n := 6)).1 (count_in Fence.wide (fun _ => trivial) (fun _ h => callsIn_wide.2 h) 6 rfl (Nat.le_refl _) s hf w hd)
end Go.Proofs.Ytnpcmoeleigpoaa
