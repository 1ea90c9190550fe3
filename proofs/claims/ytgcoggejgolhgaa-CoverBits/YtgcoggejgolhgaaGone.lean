/-
  glazierlaw08.gone.
-/
import Derived.Test.YtgcoggejgolhgaaShown
import Derived.Test.YtgcoggejgolhgaaInts
namespace Go.Proofs.Ytgcoggejgolhgaa
open Go.RowKit Go.Shelf
attribute [local go_sem] Oper.semAt_some

/-- The samples of a mask, as numbers. -/
def ints (m : Int) : List Int := (bl m 4).map iv
theorem ints_len (m : Int) : (ints m).length ≤ 4 := by unfold ints; rw [List.length_map]; exact bl_len m

def vi (x : Fin 4) : Value := .int .i64 (iv x)
theorem map_vi (q : List (Fin 4)) : (q.map iv).map (Value.int .i64) = q.map vi := by rw [List.map_map]; rfl

/-- What gone answers. -/
def Gone (w : World) (m : Int) (most : Nat) (e : Ending) (w' : World) : Prop :=
  ∃ v, e = .returned (.tuple #[v, .bool true]) ∧ OwnS 3 .i64 w' w.heap.size v ((ints m).take most) ∧ Below w.heap.size w w'

/-- The boxes of gone's variables, and what is gathered. -/
def Gath (w : World) (m : Int) (most : Nat) (q : List (Fin 4)) (W : World) : Prop :=
  (∃ v, Boxed W (w.heap.size + 1 + 1 + 1 + 1) 31 v ∧ W.ownsRow (w.heap.size + 1) 3 1 v q.length (q.map vi) ∧ True) ∧
  Boxed W w.heap.size 3 (.int .i64 most) ∧ Boxed W (w.heap.size + 1) 31 (.slice none 0 0) ∧ Boxed W (w.heap.size + 1 + 1) 4 (.bool false) ∧ Boxed W (w.heap.size + 1 + 1 + 1 + 1 + 1) 5 (.int .u8 m) ∧ Below w.heap.size w W

theorem gath_own (w : World) (m : Int) (most : Nat) {Bo : Nat} (hB : w.heap.size ≤ Bo) : OwnFrom Bo (fun q W => Gath w m most q W) :=
  OwnFrom.and (Own.from (holdsRow_own _ _ 31 3 1 (fun q : List (Fin 4) => q.length) (fun q => q.map vi) (fun _ _ => True)) _)
    (OwnFrom.and (Own.from (boxed_own _ _ _) _) (OwnFrom.and (Own.from (boxed_own _ _ _) _) (OwnFrom.and (Own.from (boxed_own _ _ _) _)
      (OwnFrom.and (Own.from (boxed_own _ _ _) _) (ownFrom_below (Nat.le_refl _) hB)))))

/-- The world behind gone's last stores, and what its boxes hold. -/
theorem gone_ends {w W : World} {D : Nat} {Av : Option Addr} {cv : Nat} {xs : List (Fin 4)} (hD : w.heap.size ≤ D)
    (hrw : W.ownsRow (w.heap.size + 1) 3 1 (.slice Av xs.length cv) xs.length (xs.map vi)) (bR1 : Boxed W (w.heap.size + 1) 31 (.slice none 0 0)) (bR2 : Boxed W (w.heap.size + 1 + 1) 4 (.bool false))
    (hB : Below w.heap.size w W) (hK : W.heap[D]? = some (.deferred (some []))) :
    ∃ W', W' = ((W.setCell ⟨w.heap.size + 1, 0, none⟩ (.slice Av xs.length cv)).setCell ⟨w.heap.size + 1 + 1, 0, none⟩ (.bool true)) ∧ W'.heap[D]? = some (.deferred (some [])) ∧
      (W'.putObj D (.deferred none)).cell? ⟨w.heap.size + 1, 0, none⟩ = some (.slice Av xs.length cv) ∧ (W'.putObj D (.deferred none)).cell? ⟨w.heap.size + 1 + 1, 0, none⟩ = some (.bool true) ∧
      OwnS 3 .i64 (W'.putObj D (.deferred none)) w.heap.size (.slice Av xs.length cv) (xs.map iv) ∧ Below w.heap.size w (W'.putObj D (.deferred none)) := by
  have hK' : ((W.setCell ⟨w.heap.size + 1, 0, none⟩ (.slice Av xs.length cv)).setCell ⟨w.heap.size + 1 + 1, 0, none⟩ (.bool true)).heap[D]? = some (.deferred (some [])) :=
    ((KeepsOthers.setCell _ _ _).trans (KeepsOthers.setCell _ _ _)).same D _ hK rfl
  have q1 := (bR1.set (.slice Av xs.length cv)).other (B' := w.heap.size + 1 + 1) (by omega) (.bool true)
  have q2 := (bR2.other (B' := w.heap.size + 1) (by omega) (.slice Av xs.length cv)).set (.bool true)
  have r1 := hrw.kept (grownBy_setCell' W (w.heap.size + 1) (.slice Av xs.length cv)) (.inr (bR1.not_row (by decide) hrw).symm)
  have r2 := r1.kept (grownBy_setCell' _ (w.heap.size + 1 + 1) (.bool true)) (.inr ((bR2.other (B' := w.heap.size + 1) (by omega) (.slice Av xs.length cv)).not_row (by decide) r1).symm)
  refine ⟨_, rfl, hK', ?_, ?_, ?_, ?_⟩
  · exact cell_kept (Boxed.cell q1) (grownBy_putObj' _ D (.deferred none)) (fun r e => by cases e; exact ⟨_, hK', rfl⟩)
  · exact cell_kept (Boxed.cell q2) (grownBy_putObj' _ D (.deferred none)) (fun r e => by cases e; exact ⟨_, hK', rfl⟩)
  · refine OwnS.less (base := w.heap.size + 1) ?_ (by omega)
    unfold OwnS
    rw [map_vi, List.length_map]
    exact ownsRow_putObj r2 _ hK' rfl
  · exact ((hB.setCell (p := ⟨w.heap.size + 1, 0, none⟩) (by simp) _).setCell (p := ⟨w.heap.size + 1 + 1, 0, none⟩) (by simp; omega) _).trans (belowK_b (w := w) (Nat.le_refl _) _ D _ _ hD hK' rfl rfl)

set_option maxRecDepth 100000 in
set_option maxHeartbeats 4000000 in
theorem gone_in (F : Fence) (hfn : ∀ f, F.fn f) (hC : ∀ {f args W R} m, Calls Try.prog f args W R → CallsIn F m Try.prog f args W R) (n : Nat) (hro : F.round = none) (hn : 6 ≤ n) (m : Int) (most : Nat)
    (hm0 : 0 ≤ m) (hm1 : m ≤ 255) (ho1 : 1 ≤ most) (ho2 : most ≤ 1000) (w : World) :
    CallsIn F n Try.prog 11 #[.int .u8 m, .int .i64 most] w (Gone w m most) := by
  have h20 := hfn 20
  have h1 : 1 ≤ n := by omega
  have he := eql50
  obtain ⟨i0, hi, hz0, hz1, hz2⟩ := info_parts Try.info3
  have HI := Lib.hid hi
  have HZ := Lib.hid (And.intro hz0 (And.intro hz1 hz2))
  clear hi hz0 hz1 hz2
  have hN := bl_len m
  refine callsIn_of_wp_marks Try.func11 rfl (hfn 11) ?_ hro
  simp only [Try.ntmps11, List.size_toArray, List.length_cons, List.length_nil, Nat.reduceAdd, Nat.reduceSub, Array.replicate_succ, Array.replicate_zero, List.push_toArray, List.append_toArray, List.nil_append, List.cons_append]
  gi_wp2_with (gi_at_call 20; (with_reducible refine (hC _ (bits_any _ _)).mono ?_); rintro e w' ⟨rfl, rfl⟩)
  clear he
  have b0 := Boxed.new w 3 (.int .i64 most)
  have b1 := Boxed.new (w.alloc (.cells #[.int .i64 most] 3)) 31 (.slice none 0 0)
  have b2 := Boxed.new ((w.alloc (.cells #[.int .i64 most] 3)).alloc (.cells #[.slice none 0 0] 31)) 4 (.bool false)
  have b4 := Boxed.new ((((w.alloc (.cells #[.int .i64 most] 3)).alloc (.cells #[.slice none 0 0] 31)).alloc (.cells #[.bool false] 4)).alloc (.cells #[] 3)) 31 (.slice (some ⟨w.heap.size + 1 + 1 + 1, 0, none⟩) 0 0)
  have b5 := Boxed.new (((((w.alloc (.cells #[.int .i64 most] 3)).alloc (.cells #[.slice none 0 0] 31)).alloc (.cells #[.bool false] 4)).alloc (.cells #[] 3)).alloc (.cells #[.slice (some ⟨w.heap.size + 1 + 1 + 1, 0, none⟩) 0 0] 31)) 5 (.int .u8 m)
  simp only [World.size_alloc] at b1 b2 b4 b5
  replace b0 := (((((b0.alloc (.cells #[.slice none 0 0] 31)).alloc (.cells #[.bool false] 4)).alloc (.cells #[] 3)).alloc (.cells #[.slice (some ⟨w.heap.size + 1 + 1 + 1, 0, none⟩) 0 0] 31)).alloc (.cells #[.int .u8 m] 5))
  replace b1 := ((((b1.alloc (.cells #[.bool false] 4)).alloc (.cells #[] 3)).alloc (.cells #[.slice (some ⟨w.heap.size + 1 + 1 + 1, 0, none⟩) 0 0] 31)).alloc (.cells #[.int .u8 m] 5))
  replace b2 := (((b2.alloc (.cells #[] 3)).alloc (.cells #[.slice (some ⟨w.heap.size + 1 + 1 + 1, 0, none⟩) 0 0] 31)).alloc (.cells #[.int .u8 m] 5))
  replace b4 := (b4.alloc (.cells #[.int .u8 m] 5))
  have hB0 : Below w.heap.size w ((((((w.alloc (.cells #[.int .i64 most] 3)).alloc (.cells #[.slice none 0 0] 31)).alloc (.cells #[.bool false] 4)).alloc (.cells #[] 3)).alloc (.cells #[.slice (some ⟨w.heap.size + 1 + 1 + 1, 0, none⟩) 0 0] 31)).alloc (.cells #[.int .u8 m] 5)) := by
    repeat (first | exact Below.refl _ _ | refine Below.alloc ?_ (by simp <;> omega) _)
  have hsz : ((((((w.alloc (.cells #[.int .i64 most] 3)).alloc (.cells #[.slice none 0 0] 31)).alloc (.cells #[.bool false] 4)).alloc (.cells #[] 3)).alloc (.cells #[.slice (some ⟨w.heap.size + 1 + 1 + 1, 0, none⟩) 0 0] 31)).alloc (.cells #[.int .u8 m] 5)).heap.size = w.heap.size + 6 := by simp
  have hrow : ((((((w.alloc (.cells #[.int .i64 most] 3)).alloc (.cells #[.slice none 0 0] 31)).alloc (.cells #[.bool false] 4)).alloc (.cells #[] 3)).alloc (.cells #[.slice (some ⟨w.heap.size + 1 + 1 + 1, 0, none⟩) 0 0] 31)).alloc (.cells #[.int .u8 m] 5)).ownsRow (w.heap.size + 1) 3 1 (.slice (some ⟨w.heap.size + 1 + 1 + 1, 0, none⟩) 0 0) 0 [] := by
    have h := ((own_empty 3 (((w.alloc (.cells #[.int .i64 most] 3)).alloc (.cells #[.slice none 0 0] 31)).alloc (.cells #[.bool false] 4))).alloc (.cells #[.slice (some ⟨w.heap.size + 1 + 1 + 1, 0, none⟩) 0 0] 31)).alloc (.cells #[.int .u8 m] 5)
    simp only [World.size_alloc] at h
    exact OwnS.less (k := .i64) (xs := []) h (by omega)
  obtain ⟨W0, hW0⟩ : ∃ W0, (((((w.alloc (.cells #[.int .i64 most] 3)).alloc (.cells #[.slice none 0 0] 31)).alloc (.cells #[.bool false] 4)).alloc (.cells #[] 3)).alloc (.cells #[.slice (some ⟨w.heap.size + 1 + 1 + 1, 0, none⟩) 0 0] 31)).alloc (.cells #[.int .u8 m] 5) = W0 := ⟨_, rfl⟩
  rw [hW0] at b0 b1 b2 b4 b5 hB0 hsz hrow ⊢
  clear hW0
  refine wpIn_rangeFunc_ownG hro h1 (gf := 26) (lb := #[.pointer (some ⟨w.heap.size + 1 + 1 + 1 + 1 + 1, 0, none⟩)]) rfl (hfn 26) (enters_of Try.func26 (by kernel_rfl) rfl)
    (bits_stops F hfn (n - 1) hro (by omega) (w.heap.size + 1 + 1 + 1 + 1 + 1) m hm0 hm1 W0 (by omega) b5.cell) kpB_t (kpB_b (by omega)) (Below.refl _ _) (fun _ => rfl)
    (fun q W => q.length < most ∧ Gath w m most q W)
    (fun k q W => k = .exit 0 ∧ q.length = most ∧ Gath w m most q W)
    (OwnFrom.and (ownFrom_pure _ _) (gath_own w m most (by omega)))
    (fun k s X Y row hh hg hr => ⟨hh.1, hh.2.1, gath_own w m most (Bo := W0.heap.size) (by omega) s X Y row hh.2.2 hg hr⟩)
    ⟨by simp; omega, ⟨_, b4, hrow, trivial⟩, b0, b1, b2, b5, hB0⟩
    (fun x => { tmps := #[.int .u8 m, .int .i64 most, undef, .pointer (some ⟨w.heap.size, 0, none⟩), .pointer (some ⟨w.heap.size + 1, 0, none⟩), .pointer (some ⟨w.heap.size + 1 + 1, 0, none⟩), .pointer (some ⟨w.heap.size + 1 + 1 + 1 + 1, 0, none⟩), .func (.func 26) #[] #[.pointer (some ⟨w.heap.size + 1 + 1 + 1 + 1 + 1, 0, none⟩)], .int .i64 (iv x), .slice (some ⟨w.heap.size + 1 + 1 + 1, 0, none⟩) 0 0, .int .u8 m, .func (.func 26) #[] #[.pointer (some ⟨w.heap.size + 1 + 1 + 1 + 1 + 1, 0, none⟩)], .func (.func 26) #[] #[.pointer (some ⟨w.heap.size + 1 + 1 + 1 + 1 + 1, 0, none⟩)], .bool false, .func (.func 26) #[] #[.pointer (some ⟨w.heap.size + 1 + 1 + 1 + 1 + 1, 0, none⟩)], .int .i64 (iv x), undef, undef, undef, undef, undef, undef, undef, undef, undef, undef, undef, undef], defers := [] }) ?assign ?body ?done ?stop
  case assign =>
    intro l x W K hK
    unfold encs
    gi_wp2
    exact hK
  case body =>
    rintro l pre x W ⟨hlt, ⟨v, bO, hrw, -⟩, bM, bR1, bR2, bK, hB⟩ hpl
    obtain ⟨Av, cv, rfl⟩ := own_form hrw
    have cO := bO.cell
    have cM := bM.cell
    have hBs := hB.size
    have hz : w.heap.size + 1 ≤ W.heap.size := by have := bO.lt; omega
    have HV := Lib.hid (show vi x = .int .i64 (iv x) from rfl)
    generalize iv x = X at *
    gi_wp2_with (gi_at_builtin; refine wpListIn_append_own _ rfl _ _ 31 rfl (w.heap.size + 1) 3 i0 (.int .i64 0) 1 8 Try.underlying31 HI.out HZ.out.1 HZ.out.2.1 HZ.out.2.2 rfl (by decide) _ _ _ rfl (hrw.alloc _) ⟨W.heap.size, 0, none⟩ 1 1 [.int .i64 X] rfl rfl (cell_one_new _ _ _) (by simp [Value.oneCell']) (by unfold maxLen; omega) (by omega) (by simp; omega) ?_; intro v' w1 hown' hgrow _; obtain ⟨g', cap', rfl⟩ := ownsRow_succ hown'; obtain ⟨hv1, hv2, hr2, hk2, hb2⟩ := bO.appended (by decide) hrw hz (by omega) hown' hgrow; have hc1 := hv1.cell; have hf1 := hv1.frozen; have hc2 := hv2.cell; have hcM := (boxed_below bM hb2 (by omega)).cell)
    all_goals
      have bK' := boxed_app (Bo := w.heap.size + 1 + 1 + 1 + 1) bK (by decide) hrw hgrow (by omega) (.slice (some ⟨g', 0, none⟩) (pre.length + 1) cap')
      have hG : Gath w m most (pre ++ [x]) (w1.setCell ⟨w.heap.size + 1 + 1 + 1 + 1, 0, none⟩ (.slice (some ⟨g', 0, none⟩) (pre.length + 1) cap')) :=
        ⟨⟨_, hv2, by rw [List.map_append, List.map_singleton, HV.out]; simpa using hr2, trivial⟩, boxed_below bM hb2 (by omega),
          boxed_app bR1 (by decide) hrw hgrow (by omega) _, boxed_app bR2 (by decide) hrw hgrow (by omega) _, bK', hB.trans (hb2.mono (by omega))⟩
    · exact ⟨hk2.from _, rfl, by simp; omega, hG⟩
    · exact ⟨hk2.from _, (show _ = _ from bK'.cell.trans bK.cell.symm), by simp; omega, hG⟩
  case done =>
    rintro D q W hD hq ⟨hlt, ⟨v, bO, hrw, -⟩, bM, bR1, bR2, bK, hB⟩ hK
    have cO := bO.cell
    have c1 := bR1.cell
    have f1 := bR1.frozen
    have c2 := bR2.cell
    have f2 := bR2.frozen
    obtain ⟨Av, cv, rfl⟩ := own_form hrw
    have HQ := Lib.hid hq
    clear hq
    gi_wp2
    obtain ⟨W', hW', hK', k1, k2, hO, hBB⟩ := gone_ends (w := w) (by omega) hrw bR1 bR2 hB hK
    rw [← hW']
    refine ⟨by simp, .inl ⟨_, _, rfl, run_takeDeferred hK', ?_⟩⟩
    refine ⟨.tuple #[.slice Av q.length cv, .bool true], by simp [results, Try.f11, go_sem, k1, k2], _, rfl, ?_, hBB⟩
    have e : ints m = q.map iv := by unfold ints; rw [HQ.out]
    rw [e, List.take_of_length_le (by rw [List.length_map]; omega)]
    exact hO
  case stop =>
    rintro D k q W hD hpre ⟨rfl, hlen, ⟨v, bO, hrw, -⟩, bM, bR1, bR2, bK, hB⟩ hK
    have cO := bO.cell
    have c1 := bR1.cell
    have f1 := bR1.frozen
    have c2 := bR2.cell
    have f2 := bR2.frozen
    obtain ⟨Av, cv, rfl⟩ := own_form hrw
    have HL := Lib.hid hlen
    clear hlen
    gi_wp2
    obtain ⟨W', hW', hK', k1, k2, hO, hBB⟩ := gone_ends (w := w) (by omega) hrw bR1 bR2 hB hK
    rw [← hW']
    refine ⟨by simp, .inl ⟨_, _, rfl, run_takeDeferred hK', ?_⟩⟩
    refine ⟨.tuple #[.slice Av q.length cv, .bool true], by simp [results, Try.f11, go_sem, k1, k2], _, rfl, ?_, hBB⟩
    have e : (ints m).take most = q.map iv := by
      obtain ⟨r, hr⟩ := hpre
      unfold ints
      rw [← hr, ← HL.out, List.map_append, List.take_left' (by simp)]
    rw [e]
    exact hO

/-- gone, whatever the mask: its samples, as many as are asked for. -/
theorem gone_any (m : Int) (most : Nat) (hm0 : 0 ≤ m) (hm1 : m ≤ 255) (ho1 : 1 ≤ most) (ho2 : most ≤ 1000) (w : World) :
    Calls Try.prog 11 #[.int .u8 m, .int .i64 most] w (Gone w m most) :=
  (callsIn_wide (n := 6)).1 (gone_in Fence.wide (fun _ => trivial) (fun _ h => callsIn_wide.2 h) 6 rfl (Nat.le_refl _) m most hm0 hm1 ho1 ho2 w)
end Go.Proofs.Ytgcoggejgolhgaa
