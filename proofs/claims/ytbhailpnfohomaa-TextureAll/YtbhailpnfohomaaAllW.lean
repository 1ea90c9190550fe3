/-
  The walk of glazierlaw11.TextureAll.
-/
import Derived.Test.YtbhailpnfohomaaShown
namespace Go.Proofs.Ytbhailpnfohomaa
open Go.RowKit
attribute [local go_sem ↓] Go.wp_at_zero Go.wp_at_succ
attribute [local go_sem high] eqlC neqC
attribute [local go_sem] guardC sameC_self

set_option maxRecDepth 100000 in
set_option maxHeartbeats 4000000 in
theorem all_walk (t : Tx) (A : Option Addr) (c : Nat) (u v : Int) (hw : I64 t.w) (hh : I64 t.h) (hc : t.px.length ≤ c) (hnil : A = none → t.px.length = 0) (hok : t.ok) (hu : I64 u) (hv : I64 v) (w : World) (he : Es EC w w.heap.size A t.px) :
    Calls Try.prog 3 #[.agg #[.int .i64 t.w, .int .i64 t.h, .slice A t.px.length c], .int .i64 u, .int .i64 v] w fun e w' => e = .returned (.bool true) ∧ Below w.heap.size w w' := by
  have HF := Lib.hid (few_any t A c hc hnil)
  have hT : (fewT t).ok := fewT_ok hok
  have HE := Lib.hid he
  obtain ⟨a, ha⟩ : ∃ a, u.tmod 1099511627777 = a := ⟨_, rfl⟩
  obtain ⟨b, hb⟩ : ∃ b, v.tmod 1099511627777 = b := ⟨_, rfl⟩
  have hfa : Far a := by have := tmod_bd u 1099511627777 (by decide); rw [ha] at this; unfold Far; omega
  have hfb : Far b := by have := tmod_bd v 1099511627777 (by decide); rw [hb] at this; unfold Far; omega
  have SU := Lib.hid (small_any u a hu ha)
  have SV := Lib.hid (small_any v b hv hb)
  have HT := Lib.hid (fun w he => fit_any (fewT t) A c w hw hh he)
  have HG := Lib.hid (fitT_right (fewT t))
  have hF : (fitT (fewT t)).ok := fitT_ok hT
  have tw : (fewT t).w = t.w := rfl
  have th : (fewT t).h = t.h := rfl
  have HET := Lib.hid (show ∀ w' : World, Below w.heap.size w w' → Es EC w' w'.heap.size A (fewT t).px from fun _ hb => (HE.out.up hb).take 300)
  generalize fitT (fewT t) = F at *
  generalize fewT t = T at *
  have HOK := Lib.hid hT
  have HFK := Lib.hid hF
  have HU := Lib.hid hu
  have HV := Lib.hid hv
  have HA := Lib.hid hfa
  have HB := Lib.hid hfb
  clear hw hh hc hnil hok he HE hT hF hu hv ha hb hfa hfb tw th
  go_enter Try.func3, Try.ntmps3
  go_wp2_with fail
  have h0 := new_below w (.cells #[.int .i64 t.w, .int .i64 t.h, .slice A t.px.length c] 24)
  have t0 : (w.alloc (.cells #[.int .i64 t.w, .int .i64 t.h, .slice A t.px.length c] 24)).heap[w.heap.size]? = some (txB t A c) := new_at1 _ _
  have H0 := Lib.hid h0
  have T0 := Lib.hid t0
  clear h0 t0
  generalize w.alloc (.cells #[.int .i64 t.w, .int .i64 t.h, .slice A t.px.length c] 24) = w0 at *
  with_reducible refine (shown_any w0).mono ?_
  rintro e w1 ⟨rfl, hb⟩
  have B1 := Lib.hid (bstep H0.out H0.out.size hb)
  have T1 := Lib.hid (txB_grow T0.out hb)
  obtain ⟨e0, e1, e2⟩ := txB_cell T1.out
  clear hb H0 T0
  go_wp2_with fail
  with_reducible refine (HF.out _).mono ?_
  rintro e w2 ⟨rfl, hb⟩
  have T2 := Lib.hid (txB_grow T1.out hb)
  have B2 := Lib.hid (bstep B1.out B1.out.size hb)
  obtain ⟨k0, k1, k2⟩ := txB_cell T2.out
  obtain ⟨f0, f1, f2⟩ := txB_free T2.out
  have T3 := Lib.hid (show (((w2.setCell ⟨w.heap.size, 0, none⟩ (.int .i64 T.w)).setCell ⟨w.heap.size, 1, none⟩ (.int .i64 T.h)).setCell ⟨w.heap.size, 2, none⟩ (.slice A T.px.length c)).heap[w.heap.size]? = some (txB T A c) from fB_set3 T.w T.h (.slice A T.px.length c) (show w2.heap[w.heap.size]? = some (fB t.w t.h (.slice A t.px.length c)) from T2.out))
  have B3 := Lib.hid (show Below w.heap.size w (((w2.setCell ⟨w.heap.size, 0, none⟩ (.int .i64 T.w)).setCell ⟨w.heap.size, 1, none⟩ (.int .i64 T.h)).setCell ⟨w.heap.size, 2, none⟩ (.slice A T.px.length c)) from (((B2.out.setCell (Nat.le_refl _) _).setCell (Nat.le_refl _) _).setCell (Nat.le_refl _) _))
  clear hb B1 T1 e0 e1 e2 T2 B2
  go_wp2_with fail
  generalize ((w2.setCell ⟨w.heap.size, 0, none⟩ (.int .i64 T.w)).setCell ⟨w.heap.size, 1, none⟩ (.int .i64 T.h)).setCell ⟨w.heap.size, 2, none⟩ (.slice A T.px.length c) = w3 at *
  with_reducible refine (HT.out _ (HET.out _ B3.out)).mono ?_
  rintro e w4 ⟨A', c', rfl, -, hes, -, hb⟩
  have T4 := Lib.hid (txB_grow T3.out hb)
  have B4 := Lib.hid (bstep B3.out B3.out.size hb)
  have hn4 := new_below w4 (.cells #[.int .i64 F.w, .int .i64 F.h, .slice A' F.px.length c'] 24)
  have ET := Lib.hid ((HET.out _ B4.out).up hn4)
  have EF := Lib.hid (hes.up hn4)
  have T5 := Lib.hid (txB_grow T4.out hn4)
  have F5 := Lib.hid (show (w4.alloc (.cells #[.int .i64 F.w, .int .i64 F.h, .slice A' F.px.length c'] 24)).heap[w4.heap.size]? = some (txB F A' c') from new_at1 _ _)
  have B5 := Lib.hid (bstep B4.out B4.out.size hn4)
  clear hb hes hn4 T3 B3 T4 B4 HET HT HF k0 k1 k2 f0 f1 f2
  go_wp2_with (go_at_call 11; first | ((with_reducible refine (SU.out _).mono ?_); rintro e w' ⟨rfl, rfl⟩) | ((with_reducible refine (SV.out _).mono ?_); rintro e w' ⟨rfl, rfl⟩))
  generalize w4.heap.size = g at *
  generalize w4.alloc (.cells #[.int .i64 F.w, .int .i64 F.h, .slice A' F.px.length c'] 24) = X at *
  have R1 := Lib.hid (fun x : Grow X => right_any T A c x.w)
  have R2 := Lib.hid (fun x : Grow X => rright_tex T A c x.w)
  have C1 := Lib.hid (fun x : Grow X => texel_any T A c u v HU.out HV.out x.w (ET.out.up x.below))
  have C2 := Lib.hid (fun x : Grow X => rtexel_any T A c u v HU.out HV.out x.w (ET.out.up x.below))
  have N1 := Lib.hid (fun x : Grow X => near_any T A c a b HA.out.i64 HB.out.i64 x.w (ET.out.up x.below))
  have N2 := Lib.hid (fun x : Grow X => rnear_any T A c a b HA.out HB.out x.w (ET.out.up x.below))
  have S1 := Lib.hid (fun x : Grow X => smooth_any T HOK.out A c a b HA.out HB.out x.w (ET.out.up x.below))
  have S2 := Lib.hid (fun x : Grow X => rsmooth_any T HOK.out A c a b HA.out HB.out x.w (ET.out.up x.below))
  generalize T.right = r at *
  generalize T.at u v = c1 at *
  generalize T.near a b = c2 at *
  generalize T.smooth a b = c3 at *
  have d0 := txB_cell T5.out
  have y0 : ∀ x : Grow X, x.w.cell? ⟨w.heap.size, 0, none⟩ = some (.int .i64 T.w) := fun x => x.cell d0.1
  have y1 : ∀ x : Grow X, x.w.cell? ⟨w.heap.size, 1, none⟩ = some (.int .i64 T.h) := fun x => x.cell d0.2.1
  have y2 : ∀ x : Grow X, x.w.cell? ⟨w.heap.size, 2, none⟩ = some (.slice A T.px.length c) := fun x => x.cell d0.2.2
  have ne1 := Grow.ne X
  clear d0 SU SV
  refine wp_region_grow (by kernel_rfl) (by kernel_rfl) ?_
  repeat (first | go_big_quiet_skip | go_big_quiet_step (first | (go_at_call 12; with_reducible exact Grow.calls (R1.out _)) | (go_at_call 13; with_reducible exact Grow.calls (R2.out _)) | (go_at_call 14; with_reducible exact Grow.calls (C1.out _)) | (go_at_call 15; with_reducible exact Grow.calls (C2.out _)) | (go_at_call 16; with_reducible exact Grow.calls (N1.out _)) | (go_at_call 17; with_reducible exact Grow.calls (N2.out _)) | (go_at_call 18; with_reducible exact Grow.calls (S1.out _)) | (go_at_call 19; with_reducible exact Grow.calls (S2.out _))))
  refine wpQuiet_nil ?_
  rintro _ ⟨x, rfl⟩
  have F6 := Lib.hid (txB_grow F5.out x.below)
  have E6 := Lib.hid (EF.out.up x.below)
  have B6 := Lib.hid (bstep B5.out B5.out.size x.below)
  clear y0 y1 y2 ne1 R1 R2 C1 C2 N1 N2 S1 S2 F5 EF B5 T5 ET
  generalize x.w = Z at *
  clear x
  go_wp2_with fail
  have R1 := Lib.hid (fun x : Grow Z => right_any F A' c' x.w)
  rw [HG.out] at R1
  have C1 := Lib.hid (fun x : Grow Z => texel_any F A' c' u v HU.out HV.out x.w (E6.out.up x.below))
  have C2 := Lib.hid (fun x : Grow Z => rtexel_any F A' c' u v HU.out HV.out x.w (E6.out.up x.below))
  have N1 := Lib.hid (fun x : Grow Z => near_any F A' c' a b HA.out.i64 HB.out.i64 x.w (E6.out.up x.below))
  have N2 := Lib.hid (fun x : Grow Z => rnear_any F A' c' a b HA.out HB.out x.w (E6.out.up x.below))
  have S1 := Lib.hid (fun x : Grow Z => smooth_any F HFK.out A' c' a b HA.out HB.out x.w (E6.out.up x.below))
  have S2 := Lib.hid (fun x : Grow Z => rsmooth_any F HFK.out A' c' a b HA.out HB.out x.w (E6.out.up x.below))
  generalize F.at u v = q1 at *
  generalize F.near a b = q2 at *
  generalize F.smooth a b = q3 at *
  have d0 := txB_cell F6.out
  have y0 : ∀ x : Grow Z, x.w.cell? ⟨g, 0, none⟩ = some (.int .i64 F.w) := fun x => x.cell d0.1
  have y1 : ∀ x : Grow Z, x.w.cell? ⟨g, 1, none⟩ = some (.int .i64 F.h) := fun x => x.cell d0.2.1
  have y2 : ∀ x : Grow Z, x.w.cell? ⟨g, 2, none⟩ = some (.slice A' F.px.length c') := fun x => x.cell d0.2.2
  have ne1 := Grow.ne Z
  clear d0
  refine wp_region_grow (by kernel_rfl) (by kernel_rfl) ?_
  repeat (first | go_big_quiet_skip | go_big_quiet_step (first | (go_at_call 12; with_reducible exact Grow.calls (R1.out _)) | (go_at_call 14; with_reducible exact Grow.calls (C1.out _)) | (go_at_call 15; with_reducible exact Grow.calls (C2.out _)) | (go_at_call 16; with_reducible exact Grow.calls (N1.out _)) | (go_at_call 17; with_reducible exact Grow.calls (N2.out _)) | (go_at_call 18; with_reducible exact Grow.calls (S1.out _)) | (go_at_call 19; with_reducible exact Grow.calls (S2.out _))))
  refine wpQuiet_nil ?_
  rintro _ ⟨x, rfl⟩
  have B7 := Lib.hid (bstep B6.out B6.out.size x.below)
  clear y0 y1 y2 ne1 R1 C1 C2 N1 N2 S1 S2
  generalize x.w = Y at *
  clear x
  go_wp2_with fail
  go_ret
  exact ⟨rfl, B7.out⟩
end Go.Proofs.Ytbhailpnfohomaa
