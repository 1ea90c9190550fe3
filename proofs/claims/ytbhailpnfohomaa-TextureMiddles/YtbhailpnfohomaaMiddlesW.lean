/-
  The walk of glazierlaw11.TextureMiddles.
-/
import Derived.Test.YtbhailpnfohomaaShown
import Derived.Test.YtbhailpnfohomaaPureT
namespace Go.Proofs.Ytbhailpnfohomaa
open Go.RowKit
attribute [local go_sem ↓] Go.wp_at_zero Go.wp_at_succ
attribute [local go_sem high] eqlC neqC
attribute [local go_sem] guardC sameC_self

set_option maxRecDepth 100000 in
set_option maxHeartbeats 4000000 in
theorem middles_walk (t : Tx) (A : Option Addr) (c : Nat) (u v : Int) (hw : I64 t.w) (hh : I64 t.h) (hc : t.px.length ≤ c) (hnil : A = none → t.px.length = 0) (hok : t.ok) (hu : I64 u) (hv : I64 v) (w : World) (he : Es EC w w.heap.size A t.px) :
    Calls Try.prog 4 #[.agg #[.int .i64 t.w, .int .i64 t.h, .slice A t.px.length c], .int .i64 u, .int .i64 v] w fun e w' => e = .returned (.bool true) ∧ Below w.heap.size w w' := by
  obtain ⟨x, hx⟩ : ∃ x, u.tmod 1073741824 = x := ⟨_, rfl⟩
  obtain ⟨y, hy⟩ : ∃ y, v.tmod 1073741824 = y := ⟨_, rfl⟩
  have bx : -1073741824 < x ∧ x < 1073741824 := by have := tmod_bd u 1073741824 (by decide); rw [hx] at this; omega
  have b_y : -1073741824 < y ∧ y < 1073741824 := by have := tmod_bd v 1073741824 (by decide); rw [hy] at this; omega
  have hu' := hu
  have hv' := hv
  unfold I64 at hu hv
  have HF := Lib.hid (few_any t A c hc hnil)
  have hT : (fewT t).ok := fewT_ok hok
  have HE := Lib.hid he
  have HT := Lib.hid (fun w he => fit_any (fewT t) A c w hw hh he)
  have HG := Lib.hid (fitT_right (fewT t))
  have hF : (fitT (fewT t)).ok := fitT_ok hT
  have HET := Lib.hid (show ∀ w' : World, Below w.heap.size w w' → Es EC w' w'.heap.size A (fewT t).px from fun _ hb => (HE.out.up hb).take 300)
  generalize fitT (fewT t) = F at *
  generalize fewT t = T at *
  have HFK := Lib.hid hF
  clear hw hh hc hnil hok he HE hT hF hu' hv'
  go_enter Try.func4, Try.ntmps4
  go_wp2_with fail
  have H0 := Lib.hid ((Below.refl w.heap.size w).alloc (Nat.le_refl _) (.cells #[.int .i64 t.w, .int .i64 t.h, .slice A t.px.length c] 24))
  have HB := Lib.hid (show (w.alloc (.cells #[.int .i64 t.w, .int .i64 t.h, .slice A t.px.length c] 24)).heap[w.heap.size]? = some (.cells #[.int .i64 t.w, .int .i64 t.h, .slice A t.px.length c] 24) from new_at1 _ _)
  generalize w.alloc (.cells #[.int .i64 t.w, .int .i64 t.h, .slice A t.px.length c] 24) = w0 at *
  with_reducible refine (shown_any w0).mono ?_
  rintro e w1 ⟨rfl, hb⟩
  have B1 := Lib.hid (bstep H0.out H0.out.size hb)
  have NHB := Lib.hid (show w1.heap[w.heap.size]? = some (.cells #[.int .i64 t.w, .int .i64 t.h, .slice A t.px.length c] 24) from (hb.block _ (Array.getElem?_eq_some_iff.1 HB.out).1).trans HB.out)
  clear HB
  have HB := NHB
  clear NHB
  clear hb H0
  obtain ⟨e0, e1, e2⟩ := txB_cell (show w1.heap[w.heap.size]? = some (txB t A c) from HB.out)
  go_wp2_with fail
  with_reducible refine (HF.out _).mono ?_
  rintro e w2 ⟨rfl, hb⟩
  have B2 := Lib.hid (bstep B1.out B1.out.size hb)
  clear hb B1 e0 e1 e2 HB
  go_wp2_with fail
  with_reducible refine (HT.out _ (HET.out _ B2.out)).mono ?_
  rintro e w4 ⟨A', c', rfl, -, hes, -, hb⟩
  have B4 := bstep B2.out B2.out.size hb
  have hn4 := new_below w4 (.cells #[.int .i64 F.w, .int .i64 F.h, .slice A' F.px.length c'] 24)
  have EF := Lib.hid (hes.up hn4)
  have F5 := Lib.hid (show (w4.alloc (.cells #[.int .i64 F.w, .int .i64 F.h, .slice A' F.px.length c'] 24)).heap[w4.heap.size]? = some (txB F A' c') from new_at1 _ _)
  have B5 := Lib.hid (bstep B4 B4.size hn4)
  have gz : w.heap.size ≤ w4.heap.size := B4.size
  clear hb hes hn4 B2 B4 HET HT HF
  go_wp2_with fail
  generalize w4.heap.size = g at *
  generalize w4.alloc (.cells #[.int .i64 F.w, .int .i64 F.h, .slice A' F.px.length c'] 24) = X at *
  obtain ⟨w0, w1', h0, h1, hl⟩ := Tx.fine HG.out
  have FX : I64 x := by unfold I64; omega
  have FY : I64 y := by unfold I64; omega
  with_reducible refine (texel_any F A' c' x y FX FY X EF.out).mono ?_
  rintro e X1 ⟨rfl, hb⟩
  obtain ⟨q, hq⟩ : ∃ q, F.at x y = q := ⟨_, rfl⟩
  rw [hq]
  have hn5 := new_below X1 (.cells #[.int .u8 q.r, .int .u8 q.g, .int .u8 q.b, .int .u8 q.a] 30)
  have HQ := Lib.hid hq
  have EF1 := Lib.hid ((EF.out.up hb).up hn5)
  have F6 := Lib.hid (txB_grow (txB_grow F5.out hb) hn5)
  have Q6 := Lib.hid (show (X1.alloc (.cells #[.int .u8 q.r, .int .u8 q.g, .int .u8 q.b, .int .u8 q.a] 30)).heap[X1.heap.size]? = some (colB q) from new_at1 _ _)
  have B6 := bstep B5.out B5.out.size hb
  have g2z : w.heap.size ≤ X1.heap.size := B6.size
  have B7 := Lib.hid (bstep B6 B6.size hn5)
  clear hb hq hn5 B5 B6 EF F5
  go_wp2_with fail
  generalize X1.heap.size = g2 at *
  generalize X1.alloc (.cells #[.int .u8 q.r, .int .u8 q.g, .int .u8 q.b, .int .u8 q.a] 30) = Z at *
  have wx : IntKind.i64.wrap (16 * x) = 16 * x := by rw [IntKind.wrap_i64]; omega
  have wy : IntKind.i64.wrap (16 * y) = 16 * y := by rw [IntKind.wrap_i64]; omega
  have wx8 : IntKind.i64.wrap (16 * x + 8) = 16 * x + 8 := by rw [IntKind.wrap_i64]; omega
  have wy8 : IntKind.i64.wrap (16 * y + 8) = 16 * y + 8 := by rw [IntKind.wrap_i64]; omega
  have wxw : IntKind.i64.wrap (x + F.w) = x + F.w := by rw [IntKind.wrap_i64]; omega
  have wyh : IntKind.i64.wrap (y - F.h) = y - F.h := by rw [IntKind.wrap_i64]; omega
  have N1 := Lib.hid (fun x' : Grow Z => near_any F A' c' (16 * x + 8) (16 * y + 8) (by unfold I64; omega) (by unfold I64; omega) x'.w (EF1.out.up x'.below))
  have S1 := Lib.hid (fun x' : Grow Z => smooth_any F HFK.out A' c' (16 * x + 8) (16 * y + 8) (by unfold Far; omega) (by unfold Far; omega) x'.w (EF1.out.up x'.below))
  have C1 := Lib.hid (fun x' : Grow Z => texel_any F A' c' (x + F.w) y (by unfold I64; omega) FY x'.w (EF1.out.up x'.below))
  have C2 := Lib.hid (fun x' : Grow Z => texel_any F A' c' x (y - F.h) FX (by unfold I64; omega) x'.w (EF1.out.up x'.below))
  rw [Tx.near_mid, HQ.out] at N1
  rw [Tx.smooth_mid, HQ.out] at S1
  rw [Tx.at_w, HQ.out] at C1
  rw [Tx.at_h', HQ.out] at C2
  have d0 := txB_cell F6.out
  have c0 := colB_cell Q6.out
  have y0 : ∀ x : Grow Z, x.w.cell? ⟨g, 0, none⟩ = some (.int .i64 F.w) := fun x => x.cell d0.1
  have y1 : ∀ x : Grow Z, x.w.cell? ⟨g, 1, none⟩ = some (.int .i64 F.h) := fun x => x.cell d0.2.1
  have y2 : ∀ x : Grow Z, x.w.cell? ⟨g, 2, none⟩ = some (.slice A' F.px.length c') := fun x => x.cell d0.2.2
  have z0 : ∀ x : Grow Z, x.w.cell? ⟨g2, 0, none⟩ = some (.int .u8 q.r) := fun x => x.cell c0.1
  have z1 : ∀ x : Grow Z, x.w.cell? ⟨g2, 1, none⟩ = some (.int .u8 q.g) := fun x => x.cell c0.2.1
  have z2 : ∀ x : Grow Z, x.w.cell? ⟨g2, 2, none⟩ = some (.int .u8 q.b) := fun x => x.cell c0.2.2.1
  have z3 : ∀ x : Grow Z, x.w.cell? ⟨g2, 3, none⟩ = some (.int .u8 q.a) := fun x => x.cell c0.2.2.2
  have ne1 := Grow.ne Z
  clear d0 c0
  refine wp_region_grow (by kernel_rfl) (by kernel_rfl) ?_
  repeat (first | go_big_quiet_skip | go_big_quiet_step (first | (go_at_call 16; with_reducible exact Grow.calls (N1.out _)) | (go_at_call 18; with_reducible exact Grow.calls (S1.out _)) | (go_at_call 14; first | (with_reducible exact Grow.calls (C1.out _)) | (with_reducible exact Grow.calls (C2.out _)))))
  refine wpQuiet_nil ?_
  rintro _ ⟨x', rfl⟩
  have F7 := Lib.hid (txB_grow F6.out x'.below)
  have E7 := Lib.hid (EF1.out.up x'.below)
  have B8 := Lib.hid (bstep B7.out B7.out.size x'.below)
  clear y0 y1 y2 z0 z1 z2 z3 ne1 N1 S1 C1 C2 F6 EF1 B7 Q6
  generalize x'.w = Y at *
  clear x'
  go_wp2_with fail
  obtain ⟨m, hm⟩ : ∃ m, F.w * F.h = m := ⟨_, rfl⟩
  have hm2 := area_bd w0 w1' h0 h1 hm
  have HM := Lib.hid hm
  rw [hm] at hl
  clear hm
  go_loopw [12] (fun i wr => ∃ k : Nat, (k : Int) ≤ m ∧ i = .int .i64 k ∧ Below w.heap.size w wr ∧ wr.heap[g]? = some (txB F A' c') ∧ Es EC wr wr.heap.size A' F.px)
    (fun i _ => m.toNat - (intOf i).toNat)
  case atStart => exact ⟨0, by omega, rfl, B8.out, F7.out, E7.out⟩
  case round =>
    obtain ⟨k, hk, rfl, hB, hT, hE⟩ := hrel
    have HB := Lib.hid hB
    have HT := Lib.hid hT
    have HE := Lib.hid hE
    obtain ⟨e0, e1, e2⟩ := txB_cell hT
    clear hB hT hE
    by_cases hlt : (k : Int) < m
    · obtain ⟨r, hr⟩ : ∃ r, (k : Int) % F.w = r := ⟨_, rfl⟩
      obtain ⟨s, hs⟩ : ∃ s, (k : Int) / F.w = s := ⟨_, rfl⟩
      obtain ⟨r0, r1, s0, s1, -⟩ := split_place w0 w1' HM.out (show 0 ≤ (k : Int) by omega) hlt hr hs
      have tr : (k : Int).tmod F.w = r := by rw [Int.tmod_eq_emod_of_nonneg (by omega)]; exact hr
      have ts : (k : Int).tdiv F.w = s := by rw [Int.tdiv_eq_ediv_of_nonneg (by omega)]; exact hs
      obtain ⟨p, hp⟩ : ∃ p, F.px[k]? = some p := ⟨_, List.getElem?_eq_getElem (by omega)⟩
      have hat := Tx.at_each HG.out k hp
      rw [hr, hs] at hat
      obtain ⟨b, off, rfl, -, hcc⟩ := HE.out.at hp
      obtain ⟨c0, c1, c2, c3⟩ := atC (show AtE EC wr b (off + k * 4) p from hcc)
      have C1 := Lib.hid (fun x' : Grow wr => texel_any F (some ⟨b, off, none⟩) c' r s (by unfold I64; omega) (by unfold I64; omega) x'.w (HE.out.up x'.below))
      rw [hat] at C1
      have y0 : ∀ x : Grow wr, x.w.cell? ⟨g, 0, none⟩ = some (.int .i64 F.w) := fun x => x.cell e0
      have y1 : ∀ x : Grow wr, x.w.cell? ⟨g, 1, none⟩ = some (.int .i64 F.h) := fun x => x.cell e1
      have y2 : ∀ x : Grow wr, x.w.cell? ⟨g, 2, none⟩ = some (.slice (some ⟨b, off, none⟩) F.px.length c') := fun x => x.cell e2
      have z0 : ∀ x : Grow wr, x.w.cell? ⟨b, off + k * 4, none⟩ = some (.int .u8 p.r) := fun x => x.cell c0
      have z1 : ∀ x : Grow wr, x.w.cell? ⟨b, off + k * 4 + 1, none⟩ = some (.int .u8 p.g) := fun x => x.cell c1
      have z2 : ∀ x : Grow wr, x.w.cell? ⟨b, off + k * 4 + 2, none⟩ = some (.int .u8 p.b) := fun x => x.cell c2
      have z3 : ∀ x : Grow wr, x.w.cell? ⟨b, off + k * 4 + 3, none⟩ = some (.int .u8 p.a) := fun x => x.cell c3
      have ne1 := Grow.ne wr
      have hF0 : ¬ F.w = 0 := by omega
      have hF1 : ¬ F.w = -1 := by omega
      clear hr hs hp hat hcc c0 c1 c2 c3
      go_wp2_with fail
      refine wp_region_grow (by kernel_rfl) (by kernel_rfl) ?_
      repeat (first | go_big_quiet_skip | go_big_quiet_step ((go_at_call 14; with_reducible exact Grow.calls (C1.out _))))
      refine wpQuiet_nil ?_
      rintro _ ⟨x', rfl⟩
      have F9 := Lib.hid (txB_grow HT.out x'.below)
      have E9 := Lib.hid (HE.out.up x'.below)
      have B9 := Lib.hid (bstep HB.out HB.out.size x'.below)
      clear y0 y1 y2 z0 z1 z2 z3 ne1 C1
      generalize x'.w = Y2 at *
      clear x'
      go_wp2_with fail
      go_roundw
      case rel => exact ⟨k + 1, by omega, by go_num, B9.out, F9.out, E9.out⟩
      case measure => simp [intOf]; omega
    · obtain rfl : m = (k : Int) := by omega
      go_wp2_with fail
      have wx : IntKind.i64.wrap (x + 16 * F.w) = x + 16 * F.w := by rw [IntKind.wrap_i64]; omega
      have wy : IntKind.i64.wrap (y + 16 * F.h) = y + 16 * F.h := by rw [IntKind.wrap_i64]; omega
      have wxw : IntKind.i64.wrap (16 * F.w) = 16 * F.w := by rw [IntKind.wrap_i64]; omega
      have wyh : IntKind.i64.wrap (16 * F.h) = 16 * F.h := by rw [IntKind.wrap_i64]; omega
      have S1 := Lib.hid (fun x' : Grow wr => smooth_any F HFK.out A' c' (x + 16 * F.w) y (by unfold Far; omega) (by unfold Far; omega) x'.w (HE.out.up x'.below))
      have S2 := Lib.hid (fun x' : Grow wr => smooth_any F HFK.out A' c' x y (by unfold Far; omega) (by unfold Far; omega) x'.w (HE.out.up x'.below))
      have N1 := Lib.hid (fun x' : Grow wr => near_any F A' c' x (y + 16 * F.h) FX (by unfold I64; omega) x'.w (HE.out.up x'.below))
      have N2 := Lib.hid (fun x' : Grow wr => near_any F A' c' x y FX FY x'.w (HE.out.up x'.below))
      rw [Tx.smooth_w] at S1
      rw [Tx.near_h] at N1
      generalize F.smooth x y = q1 at *
      generalize F.near x y = q2 at *
      have y0 : ∀ x : Grow wr, x.w.cell? ⟨g, 0, none⟩ = some (.int .i64 F.w) := fun x => x.cell e0
      have y1 : ∀ x : Grow wr, x.w.cell? ⟨g, 1, none⟩ = some (.int .i64 F.h) := fun x => x.cell e1
      have y2 : ∀ x : Grow wr, x.w.cell? ⟨g, 2, none⟩ = some (.slice A' F.px.length c') := fun x => x.cell e2
      have ne1 := Grow.ne wr
      clear e0 e1 e2
      refine wp_region_grow (by kernel_rfl) (by kernel_rfl) ?_
      repeat (first | go_big_quiet_skip | go_big_quiet_step (first | (go_at_call 16; first | (with_reducible exact Grow.calls (N1.out _)) | (with_reducible exact Grow.calls (N2.out _))) | (go_at_call 18; first | (with_reducible exact Grow.calls (S1.out _)) | (with_reducible exact Grow.calls (S2.out _)))))
      refine wpQuiet_nil ?_
      rintro _ ⟨x', rfl⟩
      have B9 := Lib.hid (bstep HB.out HB.out.size x'.below)
      clear y0 y1 y2 ne1 N1 N2 S1 S2
      generalize x'.w = Y2 at *
      clear x'
      go_wp2_with fail
      go_ret
      exact ⟨rfl, B9.out⟩
end Go.Proofs.Ytbhailpnfohomaa
