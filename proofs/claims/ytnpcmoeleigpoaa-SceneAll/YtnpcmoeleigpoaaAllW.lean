/-
  The walk of SceneAll.
-/
import Derived.Test.YtnpcmoeleigpoaaFitQ
import Derived.BigRegion
namespace Go.Proofs.Ytnpcmoeleigpoaa
open Go.RowKit
attribute [local go_sem ↓] Go.wp_at_zero Go.wp_at_succ

set_option maxRecDepth 100000 in
set_option maxHeartbeats 4000000 in
theorem all_walk (s : Sc) (w : World) (ok : s.ok) (at0 : s.at w w.heap.size) :
    Calls Try.prog 3 #[.agg #[.int .i64 s.w, .int .i64 s.h, .int .u8 s.k.r, .int .u8 s.k.g, .int .u8 s.k.b, .int .u8 s.k.a, .slice s.vA s.vs.length s.vc, .slice s.tA s.ts.length s.tc, .slice s.pA s.ps.length s.pc, .slice s.dA s.ds.length s.dc]] w fun e w' => e = .returned (.bool true) ∧ Below w.heap.size w w' := by
  have HA := Lib.hid at0
  have HK := Lib.hid ok
  clear ok at0
  go_enter Try.func3, Try.ntmps3
  go_wp2_with fail
  with_reducible refine (shown_any _).mono ?_
  rintro e w1 ⟨rfl, hb⟩
  have B1 := Lib.hid (bstep (new_below w (.cells #[.int .i64 s.w, .int .i64 s.h, .int .u8 s.k.r, .int .u8 s.k.g, .int .u8 s.k.b, .int .u8 s.k.a, .slice s.vA s.vs.length s.vc, .slice s.tA s.ts.length s.tc, .slice s.pA s.ps.length s.pc, .slice s.dA s.ds.length s.dc] 29)) (by simp) hb)
  have z : w1.heap[w.heap.size]? = some (scB s) := (hb.block _ (by simp)).trans (heap_alloc_new _ _)
  obtain ⟨z0, z1, z2, z3, z4, z5, z6, z7, z8, z9⟩ := scB_cell z
  have S1 := Lib.hid z
  have A1 := Lib.hid ((HA.out.below B1.out).more B1.out.size)
  clear hb z
  go_wp2_with fail
  with_reducible refine (small_any s _ A1.out HK.out).mono ?_
  rintro e w2 ⟨x, rfl, hp, hc, hx, hb⟩
  have B2 := Lib.hid (bstep B1.out B1.out.size hb)
  have S2 := Lib.hid ((hb.block _ (Array.getElem?_eq_some_iff.1 S1.out).1).trans S1.out)
  have HXF := Lib.hid (few_of hp (smP_few _))
  have HXK := Lib.hid (ok_of hp (smP_ok (ok_p HK.out)) hc)
  have B3 := Lib.hid (B2.out.alloc B2.out.size (.cells #[.int .i64 x.w, .int .i64 x.h, .int .u8 x.k.r, .int .u8 x.k.g, .int .u8 x.k.b, .int .u8 x.k.a, .slice x.vA x.vs.length x.vc, .slice x.tA x.ts.length x.tc, .slice x.pA x.ps.length x.pc, .slice x.dA x.ds.length x.dc] 29))
  have X3 := Lib.hid (show (w2.alloc (.cells #[.int .i64 x.w, .int .i64 x.h, .int .u8 x.k.r, .int .u8 x.k.g, .int .u8 x.k.b, .int .u8 x.k.a, .slice x.vA x.vs.length x.vc, .slice x.tA x.ts.length x.tc, .slice x.pA x.ps.length x.pc, .slice x.dA x.ds.length x.dc] 29)).heap[w2.heap.size]? = some (scB x) from heap_alloc_new _ _)
  have S3 := Lib.hid (((new_below w2 (.cells #[.int .i64 x.w, .int .i64 x.h, .int .u8 x.k.r, .int .u8 x.k.g, .int .u8 x.k.b, .int .u8 x.k.a, .slice x.vA x.vs.length x.vc, .slice x.tA x.ts.length x.tc, .slice x.pA x.ps.length x.pc, .slice x.dA x.ds.length x.dc] 29)).block _ (Array.getElem?_eq_some_iff.1 S2.out).1).trans S2.out)
  have HX3 := Lib.hid ((hx.below (new_below w2 (.cells #[.int .i64 x.w, .int .i64 x.h, .int .u8 x.k.r, .int .u8 x.k.g, .int .u8 x.k.b, .int .u8 x.k.a, .slice x.vA x.vs.length x.vc, .slice x.tA x.ts.length x.tc, .slice x.pA x.ps.length x.pc, .slice x.dA x.ds.length x.dc] 29))).more (new_below w2 (.cells #[.int .i64 x.w, .int .i64 x.h, .int .u8 x.k.r, .int .u8 x.k.g, .int .u8 x.k.b, .int .u8 x.k.a, .slice x.vA x.vs.length x.vc, .slice x.tA x.ts.length x.tc, .slice x.pA x.ps.length x.pc, .slice x.dA x.ds.length x.dc] 29)).size)
  have A3 := Lib.hid ((HA.out.below B3.out).more B3.out.size)
  have HFT := Lib.hid (show Calls Try.prog 11 #[.agg #[.int .i64 s.w, .int .i64 s.h, .int .u8 s.k.r, .int .u8 s.k.g, .int .u8 s.k.b, .int .u8 s.k.a, .slice s.vA s.vs.length s.vc, .slice s.tA s.ts.length s.tc, .slice s.pA s.ps.length s.pc, .slice s.dA s.ds.length s.dc], .int .i64 64, .int .i64 60, .int .i64 8, .int .i64 30] (w2.alloc (.cells #[.int .i64 x.w, .int .i64 x.h, .int .u8 x.k.r, .int .u8 x.k.g, .int .u8 x.k.b, .int .u8 x.k.a, .slice x.vA x.vs.length x.vc, .slice x.tA x.ts.length x.tc, .slice x.pA x.ps.length x.pc, .slice x.dA x.ds.length x.dc] 29)) (FitsR s 64 60 8 30 (w2.alloc (.cells #[.int .i64 x.w, .int .i64 x.h, .int .u8 x.k.r, .int .u8 x.k.g, .int .u8 x.k.b, .int .u8 x.k.a, .slice x.vA x.vs.length x.vc, .slice x.tA x.ts.length x.tc, .slice x.pA x.ps.length x.pc, .slice x.dA x.ds.length x.dc] 29))) from fitr_any s 64 60 8 30 (by omega) (by omega) (by omega) (by omega) (by omega) _ A3.out HK.out)
  clear z0 z1 z2 z3 z4 z5 z6 z7 z8 z9 hb hx hc hp A1 S1 S2 A3
  obtain ⟨z0, z1, z2, z3, z4, z5, z6, z7, z8, z9⟩ := scB_cell S3.out
  go_wp2_with fail
  with_reducible refine HFT.out.mono ?_
  clear z0 z1 z2 z3 z4 z5 z6 z7 z8 z9 HFT S3
  rintro e w4 ⟨f, h1, h2, h3, rfl, hp, hok, hfew, hR⟩
  have hb := hR.b
  have B4 := Lib.hid (bstep B3.out B3.out.size hb)
  have X4 := Lib.hid ((hb.block _ (Array.getElem?_eq_some_iff.1 X3.out).1).trans X3.out)
  have HX4 := Lib.hid ((HX3.out.below hb).more hb.size)
  have HFF := Lib.hid hfew
  have HFK := Lib.hid hok
  have HF0 := Lib.hid (show check f.p = 0 by rw [hp]; exact fitS_check (p := s.p) HK.out.k (by omega) (by omega) (by omega) (by omega) (by omega))
  have NB := new_below w4 (.cells #[.int .i64 f.w, .int .i64 f.h, .int .u8 f.k.r, .int .u8 f.k.g, .int .u8 f.k.b, .int .u8 f.k.a, .slice f.vA f.vs.length f.vc, .slice f.tA f.ts.length f.tc, .slice f.pA f.ps.length f.pc, .slice f.dA f.ds.length f.dc] 29)
  have B5 := Lib.hid (B4.out.alloc B4.out.size (.cells #[.int .i64 f.w, .int .i64 f.h, .int .u8 f.k.r, .int .u8 f.k.g, .int .u8 f.k.b, .int .u8 f.k.a, .slice f.vA f.vs.length f.vc, .slice f.tA f.ts.length f.tc, .slice f.pA f.ps.length f.pc, .slice f.dA f.ds.length f.dc] 29))
  have X5 := Lib.hid ((NB.block _ (Array.getElem?_eq_some_iff.1 X4.out).1).trans X4.out)
  have F5 := Lib.hid (show (w4.alloc (.cells #[.int .i64 f.w, .int .i64 f.h, .int .u8 f.k.r, .int .u8 f.k.g, .int .u8 f.k.b, .int .u8 f.k.a, .slice f.vA f.vs.length f.vc, .slice f.tA f.ts.length f.tc, .slice f.pA f.ps.length f.pc, .slice f.dA f.ds.length f.dc] 29)).heap[w4.heap.size]? = some (scB f) from heap_alloc_new _ _)
  have HX5 := Lib.hid ((HX4.out.below NB).more NB.size)
  have HF5 := Lib.hid ((hR.at.below NB).more NB.size)
  clear hb hp hok hfew hR NB B4 X4 HX4 B3 X3 HX3 B2 B1
  go_upto_region 4 with fail
  generalize w4.alloc (.cells #[.int .i64 f.w, .int .i64 f.h, .int .u8 f.k.r, .int .u8 f.k.g, .int .u8 f.k.b, .int .u8 f.k.a, .slice f.vA f.vs.length f.vc, .slice f.tA f.ts.length f.tc, .slice f.pA f.ps.length f.pc, .slice f.dA f.ds.length f.dc] 29) = U at *
  obtain ⟨cx, hcx⟩ : ∃ c, check x.p = c := ⟨_, rfl⟩
  obtain ⟨nx, hnx⟩ : ∃ c, (count x.p : Int) = c := ⟨_, rfl⟩
  obtain ⟨nf, hnf⟩ : ∃ c, (count f.p : Int) = c := ⟨_, rfl⟩
  have C1 := Lib.hid (show ∀ y : Grow U, Calls Try.prog 12 #[.agg #[.int .i64 x.w, .int .i64 x.h, .int .u8 x.k.r, .int .u8 x.k.g, .int .u8 x.k.b, .int .u8 x.k.a, .slice x.vA x.vs.length x.vc, .slice x.tA x.ts.length x.tc, .slice x.pA x.ps.length x.pc, .slice x.dA x.ds.length x.dc]] y.w (fun e w' => e = .returned (.int .i64 cx) ∧ Below y.w.heap.size y.w w') from fun y => by rw [← hcx]; exact check_scene x y.w ((HX5.out.below y.below).more y.below.size) HXK.out HXF.out)
  have C2 := Lib.hid (show ∀ y : Grow U, Calls Try.prog 13 #[.agg #[.int .i64 x.w, .int .i64 x.h, .int .u8 x.k.r, .int .u8 x.k.g, .int .u8 x.k.b, .int .u8 x.k.a, .slice x.vA x.vs.length x.vc, .slice x.tA x.ts.length x.tc, .slice x.pA x.ps.length x.pc, .slice x.dA x.ds.length x.dc]] y.w (fun e w' => e = .returned (.int .i64 cx) ∧ Below y.w.heap.size y.w w') from fun y => by rw [← hcx]; exact rcheck_scene x y.w ((HX5.out.below y.below).more y.below.size) HXK.out HXF.out)
  have C3 := Lib.hid (show ∀ y : Grow U, Calls Try.prog 14 #[.agg #[.int .i64 x.w, .int .i64 x.h, .int .u8 x.k.r, .int .u8 x.k.g, .int .u8 x.k.b, .int .u8 x.k.a, .slice x.vA x.vs.length x.vc, .slice x.tA x.ts.length x.tc, .slice x.pA x.ps.length x.pc, .slice x.dA x.ds.length x.dc]] y.w (fun e w' => e = .returned (.int .i64 nx) ∧ Below y.w.heap.size y.w w') from fun y => by rw [← hnx]; exact count_any x HXF.out y.w ((HX5.out.below y.below).more y.below.size).d)
  have C4 := Lib.hid (show ∀ y : Grow U, Calls Try.prog 15 #[.agg #[.int .i64 x.w, .int .i64 x.h, .int .u8 x.k.r, .int .u8 x.k.g, .int .u8 x.k.b, .int .u8 x.k.a, .slice x.vA x.vs.length x.vc, .slice x.tA x.ts.length x.tc, .slice x.pA x.ps.length x.pc, .slice x.dA x.ds.length x.dc]] y.w (fun e w' => e = .returned (.int .i64 nx) ∧ Below y.w.heap.size y.w w') from fun y => by rw [← hnx]; exact rcount_any x HXF.out y.w ((HX5.out.below y.below).more y.below.size).d)
  have C5 := Lib.hid (show ∀ y : Grow U, Calls Try.prog 12 #[.agg #[.int .i64 f.w, .int .i64 f.h, .int .u8 f.k.r, .int .u8 f.k.g, .int .u8 f.k.b, .int .u8 f.k.a, .slice f.vA f.vs.length f.vc, .slice f.tA f.ts.length f.tc, .slice f.pA f.ps.length f.pc, .slice f.dA f.ds.length f.dc]] y.w (fun e w' => e = .returned (.int .i64 0) ∧ Below y.w.heap.size y.w w') from fun y => by have h := check_scene f y.w ((HF5.out.below y.below).more y.below.size) HFK.out HFF.out; rw [HF0.out] at h; exact h)
  have C6 := Lib.hid (show ∀ y : Grow U, Calls Try.prog 14 #[.agg #[.int .i64 f.w, .int .i64 f.h, .int .u8 f.k.r, .int .u8 f.k.g, .int .u8 f.k.b, .int .u8 f.k.a, .slice f.vA f.vs.length f.vc, .slice f.tA f.ts.length f.tc, .slice f.pA f.ps.length f.pc, .slice f.dA f.ds.length f.dc]] y.w (fun e w' => e = .returned (.int .i64 nf) ∧ Below y.w.heap.size y.w w') from fun y => by rw [← hnf]; exact count_any f HFF.out y.w ((HF5.out.below y.below).more y.below.size).d)
  have C7 := Lib.hid (show ∀ y : Grow U, Calls Try.prog 15 #[.agg #[.int .i64 f.w, .int .i64 f.h, .int .u8 f.k.r, .int .u8 f.k.g, .int .u8 f.k.b, .int .u8 f.k.a, .slice f.vA f.vs.length f.vc, .slice f.tA f.ts.length f.tc, .slice f.pA f.ps.length f.pc, .slice f.dA f.ds.length f.dc]] y.w (fun e w' => e = .returned (.int .i64 nf) ∧ Below y.w.heap.size y.w w') from fun y => by rw [← hnf]; exact rcount_any f HFF.out y.w ((HF5.out.below y.below).more y.below.size).d)
  have g1 := fun y : Grow U => scB_cell ((y.below.block _ (Array.getElem?_eq_some_iff.1 X5.out).1).trans X5.out)
  have g2 := fun y : Grow U => scB_cell ((y.below.block _ (Array.getElem?_eq_some_iff.1 F5.out).1).trans F5.out)
  have ne1 := Grow.ne U
  clear hcx hnx hnf
  try simp only [List.append]
  refine wp_region_grow (by kernel_rfl) (by kernel_rfl) ?_
  repeat (go_big_quiet_step (with_reducible first | exact Grow.calls (C1.out _) | exact Grow.calls (C2.out _) | exact Grow.calls (C3.out _) | exact Grow.calls (C4.out _) | exact Grow.calls (C5.out _) | exact Grow.calls (C6.out _) | exact Grow.calls (C7.out _)))
  refine wpQuiet_nil ?_
  rintro _ ⟨y, rfl⟩
  go_wp2_with fail
  go_ret
  exact ⟨by simp, bstep B5.out B5.out.size y.below⟩
end Go.Proofs.Ytnpcmoeleigpoaa
