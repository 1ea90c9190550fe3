/-
  The contract of cover.Count.
-/
import Derived.Test.YtgcoggejgolhgaaIter
namespace Go.Proofs.Ytgcoggejgolhgaa
open Go.RowKit Go.Shelf
attribute [local go_sem] Oper.semAt_some

set_option maxRecDepth 100000 in
set_option maxHeartbeats 2000000 in
theorem count_in (F : Fence) (hfn : ∀ f, F.fn f) (hC : ∀ {f args W R} m, Calls Try.prog f args W R → CallsIn F m Try.prog f args W R) (n : Nat) (hro : F.round = none) (hn : 6 ≤ n) (m : Int) (hm0 : 0 ≤ m) (hm1 : m ≤ 255) (w : World) :
    CallsIn F n Try.prog 16 #[.int .u8 m] w fun e w' => e = .returned (.int .i64 (bl m 4).length) ∧ Below w.heap.size w w' := by
  have h20 := hfn 20
  have h1 : 1 ≤ n := by omega
  have hL := bl_len m
  refine callsIn_of_wp_marks Try.func16 rfl (hfn 16) ?_ hro
  simp only [Try.ntmps16, List.size_toArray, List.length_cons, List.length_nil, Nat.reduceAdd, Nat.reduceSub, Array.replicate_succ, Array.replicate_zero, List.push_toArray, List.append_toArray, List.nil_append, List.cons_append]
  gi_wp2_with (gi_at_call 20; (with_reducible refine (hC _ (bits_any _ _)).mono ?_); rintro e w' ⟨rfl, rfl⟩)
  have b0 := (Boxed.new w 3 (.int .i64 0)).alloc (.cells #[.int .u8 m] 5)
  have b1 := Boxed.new (w.alloc (.cells #[.int .i64 0] 3)) 5 (.int .u8 m)
  simp only [World.size_alloc] at b1
  have hB0 : Below w.heap.size w ((w.alloc (.cells #[.int .i64 0] 3)).alloc (.cells #[.int .u8 m] 5)) := ((Below.refl _ _).alloc (Nat.le_refl _) _).alloc (by simp) _
  have hsz : ((w.alloc (.cells #[.int .i64 0] 3)).alloc (.cells #[.int .u8 m] 5)).heap.size = w.heap.size + 2 := by simp
  obtain ⟨W0, hW0⟩ : ∃ W0, (w.alloc (.cells #[.int .i64 0] 3)).alloc (.cells #[.int .u8 m] 5) = W0 := ⟨_, rfl⟩
  rw [hW0] at b0 b1 hB0 hsz ⊢
  clear hW0
  refine wpIn_rangeFunc_ownG hro h1 (gf := 26) (lb := #[.pointer (some ⟨w.heap.size + 1, 0, none⟩)]) rfl (hfn 26) (enters_of Try.func26 (by kernel_rfl) rfl)
    (bits_stops F hfn (n - 1) hro (by omega) (w.heap.size + 1) m hm0 hm1 W0 (by omega) b1.cell) kpB_t (kpB_b (by omega)) (Below.refl _ _) (fun _ => rfl)
    (fun q W => Boxed W w.heap.size 3 (.int .i64 (q.length : Nat)) ∧ Boxed W (w.heap.size + 1) 5 (.int .u8 m) ∧ Below w.heap.size w W)
    (fun _ _ _ => False)
    (OwnFrom.and (Own.from (boxed_own _ 3 (fun q : List (Fin 4) => Value.int .i64 (q.length : Nat))) _) (OwnFrom.and (Own.from (boxed_own _ _ _) _) (ownFrom_below (Nat.le_refl _) (by omega))))
    (fun _ _ _ _ _ h _ _ => h)
    ⟨b0, b1, hB0⟩
    (fun x => { tmps := #[.int .u8 m, undef, .int .i64 0, .pointer (some ⟨w.heap.size, 0, none⟩), .int .u8 m, .func (.func 26) #[] #[.pointer (some ⟨w.heap.size + 1, 0, none⟩)], .int .i64 (iv x), undef, undef, undef], defers := [] }) ?assign ?body ?done ?stop
  case assign =>
    intro l x W K hK
    unfold encs
    gi_wp2
    refine Eq.mp (congrArg (fun t => K { tmps := t, defers := [] } W) ?_) hK
    kernel_rfl
  case body =>
    rintro l pre x W ⟨bN, bM, hB⟩ hpl
    have hw : IntKind.i64.wrap ((pre.length : Int) + 1) = (pre.length : Int) + 1 := by rw [IntKind.wrap_i64]; omega
    have cN := bN.cell
    have fN := bN.frozen
    have HH := Lib.hid (And.intro bN (And.intro bM hB))
    clear bN bM hB hpl
    gi_wp2
    obtain ⟨bN, bM, hB⟩ := HH.out
    have bM' := bM.other (B' := w.heap.size) (by omega) (.int .i64 ((pre.length : Int) + 1))
    refine ⟨(KeepsOthers.setCell _ _ _).from _, (show _ = _ from bM'.cell.trans bM.cell.symm), ?_, bM', hB.setCell (p := ⟨w.heap.size, 0, none⟩) (by simp) _⟩
    rw [List.length_append, List.length_singleton]
    exact bN.set _
  case done =>
    rintro D q W hD hq ⟨bN, bM, hB⟩ hK
    have cN := bN.cell
    gi_wp2
    refine ⟨by simp, .inl ⟨_, _, rfl, run_takeDeferred hK, ?_⟩⟩
    refine ⟨_, results_tmp rfl _ _ _, rfl, hB.trans (belowK_b (w := w) (Nat.le_refl _) W D _ _ (by omega) hK rfl rfl)⟩
  case stop =>
    rintro D c pre W hD _ h _
    exact h.elim

theorem count_any (m : Int) (hm0 : 0 ≤ m) (hm1 : m ≤ 255) (w : World) :
    Calls Try.prog 16 #[.int .u8 m] w fun e w' => e = .returned (.int .i64 (bl m 4).length) ∧ Below w.heap.size w w' :=
  (callsIn_wide (n := 6)).1 (count_in Fence.wide (fun _ => trivial) (fun _ h => callsIn_wide.2 h) 6 rfl (Nat.le_refl _) m hm0 hm1 w)
end Go.Proofs.Ytgcoggejgolhgaa
