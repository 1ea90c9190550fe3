/-
  The walk of glazierlaw12.CodeAll.
-/
import Derived.Test.YticfllfelbfceaaShown
namespace Go.Proofs.Yticfllfelbfceaa
open Go.RowKit
attribute [local go_sem ↓] Go.wp_at_zero Go.wp_at_succ

theorem Es.up {α : Type} {E : Elem α} {w w' : World} {B : Nat} {A : Option Addr} {xs : List α} (h : Es E w B A xs) (hb : Below w.heap.size w w') : Es E w' w'.heap.size A xs := (h.grow hb).more hb.size
set_option maxRecDepth 100000 in
set_option maxHeartbeats 4000000 in
theorem all_walk (l : List In) (A : Option Addr) (c : Nat) (x : In) (i n : Int) (hc : l.length ≤ c) (hnil : A = none → l.length = 0) (hok : ∀ y ∈ l, y.ok) (hx : x.ok) (hi' : -2147483648 ≤ i ∧ i ≤ 2147483647) (hn : -2147483648 ≤ n ∧ n ≤ 2147483647) (w : World) (he : Es EI w w.heap.size A l) :
    Calls Try.prog 3 #[.slice A l.length c, .agg #[.int .u8 x.o, .int .u8 x.d, .int .u8 x.a, .int .u8 x.b, .int .i64 x.n], .agg #[.int .i32 i, .int .i32 n]] w fun e w' => e = .returned (.bool true) ∧ Below w.heap.size w w' := by
  have HF := Lib.hid (few_any l A c hc hnil)
  have HP := Lib.hid (show ∀ y ∈ l.take 40, y.ok from fun y hy => hok y (List.mem_of_mem_take hy))
  have HE := Lib.hid (he.take 40)
  have hlen : (l.take 40).length ≤ 1000 := by simp; omega
  have HLen := Lib.hid hlen
  obtain ⟨m, hm⟩ : ∃ m, IntKind.i32.wrap x.n = m := ⟨_, rfl⟩
  have hmb : -2147483648 ≤ m ∧ m ≤ 2147483647 := by rw [← hm, IntKind.wrap_i32]; omega
  have wi : IntKind.i64.wrap i = i := by rw [IntKind.wrap_i64]; omega
  have wn : IntKind.i64.wrap n = n := by rw [IntKind.wrap_i64]; omega
  have wm : IntKind.i64.wrap m = m := by rw [IntKind.wrap_i64]; omega
  have H1 := Lib.hid (fun w => one_any x i n hx ⟨by omega, by omega⟩ ⟨by omega, by omega⟩ w)
  have H2 := Lib.hid (fun w => rone_any x i n hx ⟨by omega, by omega⟩ ⟨by omega, by omega⟩ w)
  have H3 := Lib.hid (fun w => one_any x 3 7 hx (by decide) (by decide) w)
  have H4 := Lib.hid (fun w => rone_any x 3 7 hx (by decide) (by decide) w)
  have T1 := Lib.hid (fun w => target_any ⟨x.o, x.d, x.a, x.b, m⟩ i ⟨by omega, by omega⟩ (fun _ => ⟨hmb.1, by dsimp only; omega⟩) w)
  have T2 := Lib.hid (fun w => rtarget_any ⟨x.o, x.d, x.a, x.b, m⟩ i ⟨by omega, by omega⟩ (fun _ => ⟨hmb.1, by dsimp only; omega⟩) w)
  dsimp only at T1 T2
  generalize tgt ⟨x.o, x.d, x.a, x.b, m⟩ i = t at *
  generalize oneB x i n = r1 at *
  generalize oneB x 3 7 = r2 at *
  generalize l.take 40 = L at *
  clear hc hnil hok hx hi' hn he hmb hlen
  go_enter Try.func3, Try.ntmps3
  go_wp2_with fail
  have h0 : Below w.heap.size w ((w.alloc (inB x)).alloc (.cells #[.int .i32 i, .int .i32 n] 25)) := (new_below w _).alloc (by simp) _
  have x0 : ((w.alloc (inB x)).alloc (.cells #[.int .i32 i, .int .i32 n] 25)).heap[w.heap.size]? = some (inB x) := new_keep _ (new_at1 _ _)
  have v0 : ((w.alloc (inB x)).alloc (.cells #[.int .i32 i, .int .i32 n] 25)).heap[w.heap.size + 1]? = some (.cells #[.int .i32 i, .int .i32 n] 25) := by
    have := new_at1 (w.alloc (inB x)) (.cells #[.int .i32 i, .int .i32 n] 25)
    simpa using this
  have H0 := Lib.hid h0
  have X0 := Lib.hid x0
  have V0 := Lib.hid v0
  clear h0 x0 v0
  generalize (w.alloc (inB x)).alloc (.cells #[.int .i32 i, .int .i32 n] 25) = w0 at *
  with_reducible refine (shown_any w0).mono ?_
  rintro e w1 ⟨rfl, hb⟩
  have B1 := Lib.hid (bstep H0.out H0.out.size hb)
  have X1 := Lib.hid ((hb.block _ (Array.getElem?_eq_some_iff.1 X0.out).1).trans X0.out)
  have V1 := Lib.hid ((hb.block _ (Array.getElem?_eq_some_iff.1 V0.out).1).trans V0.out)
  clear hb H0 X0 V0
  go_wp2_with fail
  with_reducible refine (HF.out _).mono ?_
  rintro e w2 ⟨rfl, rfl⟩
  obtain ⟨c0, c1, c2, c3, c4⟩ := inB_cell X1.out
  have v1 : w1.cell? ⟨w.heap.size + 1, 0, none⟩ = some (.int .i32 i) := cell_of_row _ _ _ _ 25 (0, 0) V1.out
  have v2 : w1.cell? ⟨w.heap.size + 1, 1, none⟩ = some (.int .i32 n) := cell_of_row _ _ _ _ 25 (0, 0) V1.out
  have hlt : w.heap.size + 1 < w1.heap.size := (Array.getElem?_eq_some_iff.1 V1.out).1
  have hlt0 : w.heap.size < w1.heap.size := by omega
  clear HF
  go_wp2_with fail
  have hb0 := new_below w1 (inB ⟨x.o, x.d, x.a, x.b, m⟩)
  have BX := Lib.hid (bstep B1.out B1.out.size hb0)
  have XX := Lib.hid (new_keep (inB ⟨x.o, x.d, x.a, x.b, m⟩) X1.out)
  have YX := Lib.hid (new_at1 w1 (inB ⟨x.o, x.d, x.a, x.b, m⟩))
  have EX := Lib.hid ((HE.out.up B1.out).up hb0)
  clear hb0 HE B1 X1 V1 v1 v2 c0 c1 c2 c3 c4 hlt hlt0 wi wn wm hm
  generalize w1.heap.size = g at *
  generalize w1.alloc (inB ⟨x.o, x.d, x.a, x.b, m⟩) = X at *
  have R1 := Lib.hid (fun z : Grow X => H1.out z.w)
  have R2 := Lib.hid (fun z : Grow X => H2.out z.w)
  have R3 := Lib.hid (fun z : Grow X => H3.out z.w)
  have R4 := Lib.hid (fun z : Grow X => H4.out z.w)
  have R5 := Lib.hid (fun z : Grow X => check_any L A c HP.out z.w (EX.out.up z.below))
  have R6 := Lib.hid (fun z : Grow X => rcheck_any L A c HP.out z.w (EX.out.up z.below))
  have R7 := Lib.hid (fun z : Grow X => samples_any L A c HLen.out HP.out z.w (EX.out.up z.below))
  have R8 := Lib.hid (fun z : Grow X => rsamples_any L A c HLen.out z.w (EX.out.up z.below))
  have R9 := Lib.hid (fun z : Grow X => T1.out z.w)
  have R10 := Lib.hid (fun z : Grow X => T2.out z.w)
  generalize chk L = k at *
  generalize L.any tex = s at *
  have d0 := inB_cell XX.out
  have d1 := inB_cell YX.out
  have y0 : ∀ z : Grow X, z.w.cell? ⟨w.heap.size, 0, none⟩ = some (.int .u8 x.o) := fun z => z.cell d0.1
  have y1 : ∀ z : Grow X, z.w.cell? ⟨w.heap.size, 1, none⟩ = some (.int .u8 x.d) := fun z => z.cell d0.2.1
  have y2 : ∀ z : Grow X, z.w.cell? ⟨w.heap.size, 2, none⟩ = some (.int .u8 x.a) := fun z => z.cell d0.2.2.1
  have y3 : ∀ z : Grow X, z.w.cell? ⟨w.heap.size, 3, none⟩ = some (.int .u8 x.b) := fun z => z.cell d0.2.2.2.1
  have y4 : ∀ z : Grow X, z.w.cell? ⟨w.heap.size, 4, none⟩ = some (.int .i64 x.n) := fun z => z.cell d0.2.2.2.2
  have z0 : ∀ z : Grow X, z.w.cell? ⟨g, 0, none⟩ = some (.int .u8 x.o) := fun z => z.cell d1.1
  have z1 : ∀ z : Grow X, z.w.cell? ⟨g, 1, none⟩ = some (.int .u8 x.d) := fun z => z.cell d1.2.1
  have z2 : ∀ z : Grow X, z.w.cell? ⟨g, 2, none⟩ = some (.int .u8 x.a) := fun z => z.cell d1.2.2.1
  have z3 : ∀ z : Grow X, z.w.cell? ⟨g, 3, none⟩ = some (.int .u8 x.b) := fun z => z.cell d1.2.2.2.1
  have z4 : ∀ z : Grow X, z.w.cell? ⟨g, 4, none⟩ = some (.int .i64 m) := fun z => z.cell d1.2.2.2.2
  have ne1 := Grow.ne X
  clear d0 d1 H1 H2 H3 H4 T1 T2
  refine wp_region_grow (by kernel_rfl) (by kernel_rfl) ?_
  repeat (first | go_big_quiet_skip | go_big_quiet_step (first | (go_at_call 11; with_reducible exact Grow.calls (R1.out _)) | (go_at_call 12; with_reducible exact Grow.calls (R2.out _)) | (go_at_call 11; with_reducible exact Grow.calls (R3.out _)) | (go_at_call 12; with_reducible exact Grow.calls (R4.out _)) | (go_at_call 13; with_reducible exact Grow.calls (R5.out _)) | (go_at_call 14; with_reducible exact Grow.calls (R6.out _)) | (go_at_call 15; with_reducible exact Grow.calls (R7.out _)) | (go_at_call 16; with_reducible exact Grow.calls (R8.out _)) | (go_at_call 17; with_reducible exact Grow.calls (R9.out _)) | (go_at_call 18; with_reducible exact Grow.calls (R10.out _))))
  refine wpQuiet_nil ?_
  rintro _ ⟨z, rfl⟩
  have B7 := Lib.hid (bstep BX.out BX.out.size z.below)
  clear y0 y1 y2 y3 y4 z0 z1 z2 z3 z4 ne1 R1 R2 R3 R4 R5 R6 R7 R8 R9 R10
  generalize z.w = Z at *
  clear z
  go_wp2_with fail
  go_ret
  exact ⟨rfl, B7.out⟩
end Go.Proofs.Yticfllfelbfceaa
