/-
  The contracts of colour.Pre, of vm.Shade, and of the reference's Sat and Shade.
-/
import Derived.Test.YtehkcnmjkgelkaaRRun
import Derived.Test.YtehkcnmjkgelkaaRef
import Derived.Test.YtehkcnmjkgelkaaRTexel
import Derived.Lib.MinMax
namespace Go.Proofs.Ytehkcnmjkgelkaa
open Go.RowKit C
attribute [local go_sem ↓] Go.wp_at_zero Go.wp_at_succ

theorem div255_any (n : Int) (h0 : 0 ≤ n) (h1 : n ≤ 65025) (w : World) :
    Calls Try.prog 63 #[.int .i64 n] w fun e w' => e = .returned (.int .i64 (dv n)) ∧ w = w' := by
  have hd : (n + 127).tdiv 255 = dv n := by unfold dv; rw [Int.tdiv_eq_ediv_of_nonneg (by omega)]
  have hb := dv_bd h0 h1
  have h2 : ¬ n < 0 := by omega
  have h3 : ¬ 65025 < n := by omega
  have g : IntKind.i64.wrap (n + 127) = n + 127 := by rw [IntKind.wrap_i64]; omega
  generalize dv n = q at *
  go_enter Try.func63, Try.ntmps63
  go_wp2_with fail
  go_ret
  exact ⟨rfl, rfl⟩
theorem covered_any (p : Int) (c : Col) (g : Nat) (p0 : 0 ≤ p) (p1 : p ≤ 255) (hc : c.ok) (w : World) (hg : w.heap[g]? = some (colB c)) :
    Calls Try.prog 61 #[.int .u8 p, .pointer (some ⟨g, 0, none⟩)] w fun e w' => e = .returned (.int .u8 (dv (p * c.a))) ∧ w = w' := by
  obtain ⟨-, -, -, a0, a1⟩ := hc
  obtain ⟨-, -, -, c3⟩ := colB_cell hg
  have hm := mul_bd p0 p1 a0 a1
  have hb := dv_bd hm.1 hm.2
  obtain ⟨m, hmm⟩ : ∃ m, p * c.a = m := ⟨_, rfl⟩
  have gm : IntKind.i64.wrap (p * c.a) = m := by rw [hmm, IntKind.wrap_i64]; omega
  rw [hmm] at hm hb ⊢
  have HD := Lib.hid (div255_any m hm.1 hm.2)
  have HS := Lib.hid (fun w => sat_any (dv m) w hb.1 (by omega))
  rw [sat_same hb.2] at HS
  clear hg hm hmm
  generalize dv m = q at *
  go_enter Try.func61, Try.ntmps61
  go_wp2_with (first
    | (go_at_call 63; (with_reducible refine (HD.out _).mono ?_); rintro e w1 ⟨rfl, rfl⟩)
    | (go_at_call 62; (with_reducible refine (HS.out _).mono ?_); rintro e w1 ⟨rfl, rfl⟩))
  go_ret
  exact ⟨rfl, rfl⟩
theorem enters61 (args : Array Value) (w : World) : (callFunc 61 args).run Try.prog w = .ok (.enter 61 args) w := by go_simp
set_option maxRecDepth 100000 in
set_option maxHeartbeats 4000000 in
theorem pre_any (c : Col) (hc : c.ok) (w : World) :
    Calls Try.prog 39 #[.agg #[.int .u8 c.r, .int .u8 c.g, .int .u8 c.b, .int .u8 c.a]] w fun e w' => e = .returned (.agg #[.int .u8 (pre c).r, .int .u8 (pre c).g, .int .u8 (pre c).b, .int .u8 (pre c).a]) ∧ Below w.heap.size w w' := by
  have hmf := mk_func
  have en := enters61
  have HC := Lib.hid (fun W (h : W.heap[w.heap.size]? = some (colB c)) p p0 p1 => covered_any p c w.heap.size p0 p1 hc W h)
  have B0 := Lib.hid (show Below w.heap.size w ((w.alloc (.cells #[.int .u8 c.r, .int .u8 c.g, .int .u8 c.b, .int .u8 c.a] 38)).alloc (.cells #[.int .u8 0, .int .u8 0, .int .u8 0, .int .u8 0] 38)) from (new_below _ _).alloc (by simp) _)
  have X0 := Lib.hid (show ((w.alloc (.cells #[.int .u8 c.r, .int .u8 c.g, .int .u8 c.b, .int .u8 c.a] 38)).alloc (.cells #[.int .u8 0, .int .u8 0, .int .u8 0, .int .u8 0] 38)).heap[w.heap.size]? = some (colB c) from new_at20 w _ _)
  have X1 := Lib.hid (show ((w.alloc (.cells #[.int .u8 c.r, .int .u8 c.g, .int .u8 c.b, .int .u8 c.a] 38)).alloc (.cells #[.int .u8 0, .int .u8 0, .int .u8 0, .int .u8 0] 38)).heap[w.heap.size + 1]? = some (colB zC) from new_at2 w _ _)
  obtain ⟨⟨r0, r1⟩, ⟨g0, g1⟩, ⟨b0, b1⟩, ⟨a0, a1⟩⟩ := hc
  obtain ⟨⟨pr0, pr1⟩, ⟨pg0, pg1⟩, ⟨pb0, pb1⟩, -⟩ := pre_ok (c := c) ⟨⟨r0, r1⟩, ⟨g0, g1⟩, ⟨b0, b1⟩, ⟨a0, a1⟩⟩
  have HR := Lib.hid (fun W h => HC.out W h c.r r0 r1)
  have HG := Lib.hid (fun W h => HC.out W h c.g g0 g1)
  have HB := Lib.hid (fun W h => HC.out W h c.b b0 b1)
  clear HC
  have e0 : (pre c).r = dv (c.r * c.a) := rfl
  have e1 : (pre c).g = dv (c.g * c.a) := rfl
  have e2 : (pre c).b = dv (c.b * c.a) := rfl
  have e3 : (pre c).a = c.a := rfl
  rw [e0] at pr0 pr1
  rw [e1] at pg0 pg1
  rw [e2] at pb0 pb1
  rw [e0, e1, e2, e3]
  clear e0 e1 e2 e3
  generalize dv (c.r * c.a) = p at *
  generalize dv (c.g * c.a) = q at *
  generalize dv (c.b * c.a) = s at *
  go_enter Try.func39, Try.ntmps39
  go_wp2_with fail
  generalize (w.alloc (.cells #[.int .u8 c.r, .int .u8 c.g, .int .u8 c.b, .int .u8 c.a] 38)).alloc (.cells #[.int .u8 0, .int .u8 0, .int .u8 0, .int .u8 0] 38) = X at *
  obtain ⟨c0, c1, c2, c3⟩ := colB_cell X0.out
  have hne : w.heap.size ≠ w.heap.size + 1 := by omega
  have y0 : ∀ x : OnlyG (w.heap.size + 1) X, x.w.cell? ⟨w.heap.size, 0, none⟩ = some (.int .u8 c.r) := fun x => x.cell c0 hne
  have y1 : ∀ x : OnlyG (w.heap.size + 1) X, x.w.cell? ⟨w.heap.size, 1, none⟩ = some (.int .u8 c.g) := fun x => x.cell c1 hne
  have y2 : ∀ x : OnlyG (w.heap.size + 1) X, x.w.cell? ⟨w.heap.size, 2, none⟩ = some (.int .u8 c.b) := fun x => x.cell c2 hne
  have y3 : ∀ x : OnlyG (w.heap.size + 1) X, x.w.cell? ⟨w.heap.size, 3, none⟩ = some (.int .u8 c.a) := fun x => x.cell c3 hne
  refine wp_region_held_drew (S := fun w' => ∃ x : OnlyG (w.heap.size + 1) X, w' = x.w) (by kernel_rfl) ⟨⟨_, onlyw_drew _ _⟩, rfl⟩ (fun hS => ?_)
  refine wpAnyH_take (i := 0) (v := .func (.func 61) #[] #[.pointer (some ⟨w.heap.size, 0, none⟩)]) rfl (by kernel_rfl) (by kernel_rfl) (by kernel_rfl) (fun _ _ _ h => h) (Or.inl ⟨by rfl, fun w hw => by obtain ⟨x, rfl⟩ := hw; go_simp⟩) hS ?_
  try simp only [Act.put, List.setIfInBounds_toArray, List.set_cons_zero, List.set_cons_succ, List.getElem_toArray, List.getElem_cons_zero]
  refine wpAnyH_take (i := 1) (v := .pointer (some ⟨w.heap.size, 0, none⟩)) rfl (by kernel_rfl) (by kernel_rfl) (by kernel_rfl) (fun _ _ _ h => h) (Or.inl ⟨by rfl, fun w hw => by obtain ⟨x, rfl⟩ := hw; go_simp⟩) hS ?_
  try simp only [Act.put, List.setIfInBounds_toArray, List.set_cons_zero, List.set_cons_succ, List.getElem_toArray, List.getElem_cons_zero, List.getElem_cons_succ]
  refine wpAnyH_take (i := 2) (v := .int .u8 c.r) rfl (by kernel_rfl) (by kernel_rfl) (by kernel_rfl) (fun _ _ _ h => h) (Or.inl ⟨by rfl, fun w hw => by obtain ⟨x, rfl⟩ := hw; go_simp⟩) hS ?_
  try simp only [Act.put, List.setIfInBounds_toArray, List.set_cons_zero, List.set_cons_succ, List.getElem_toArray, List.getElem_cons_zero, List.getElem_cons_succ]
  refine wpAnyH_take (i := 4) (v := .func (.func 61) #[] #[.pointer (some ⟨w.heap.size, 0, none⟩)]) rfl (by kernel_rfl) (by kernel_rfl) (by kernel_rfl) (fun _ _ _ h => h) (Or.inl ⟨by rfl, fun w hw => by obtain ⟨x, rfl⟩ := hw; go_simp⟩) hS ?_
  try simp only [Act.put, List.setIfInBounds_toArray, List.set_cons_zero, List.set_cons_succ, List.getElem_toArray, List.getElem_cons_zero, List.getElem_cons_succ]
  refine wpAnyH_take (i := 5) (v := .pointer (some ⟨w.heap.size, 1, none⟩)) rfl (by kernel_rfl) (by kernel_rfl) (by kernel_rfl) (fun _ _ _ h => h) (Or.inl ⟨by rfl, fun w hw => by obtain ⟨x, rfl⟩ := hw; go_simp⟩) hS ?_
  try simp only [Act.put, List.setIfInBounds_toArray, List.set_cons_zero, List.set_cons_succ, List.getElem_toArray, List.getElem_cons_zero, List.getElem_cons_succ]
  refine wpAnyH_take (i := 6) (v := .int .u8 c.g) rfl (by kernel_rfl) (by kernel_rfl) (by kernel_rfl) (fun _ _ _ h => h) (Or.inl ⟨by rfl, fun w hw => by obtain ⟨x, rfl⟩ := hw; go_simp⟩) hS ?_
  try simp only [Act.put, List.setIfInBounds_toArray, List.set_cons_zero, List.set_cons_succ, List.getElem_toArray, List.getElem_cons_zero, List.getElem_cons_succ]
  refine wpAnyH_take (i := 8) (v := .func (.func 61) #[] #[.pointer (some ⟨w.heap.size, 0, none⟩)]) rfl (by kernel_rfl) (by kernel_rfl) (by kernel_rfl) (fun _ _ _ h => h) (Or.inl ⟨by rfl, fun w hw => by obtain ⟨x, rfl⟩ := hw; go_simp⟩) hS ?_
  try simp only [Act.put, List.setIfInBounds_toArray, List.set_cons_zero, List.set_cons_succ, List.getElem_toArray, List.getElem_cons_zero, List.getElem_cons_succ]
  refine wpAnyH_take (i := 9) (v := .pointer (some ⟨w.heap.size, 2, none⟩)) rfl (by kernel_rfl) (by kernel_rfl) (by kernel_rfl) (fun _ _ _ h => h) (Or.inl ⟨by rfl, fun w hw => by obtain ⟨x, rfl⟩ := hw; go_simp⟩) hS ?_
  try simp only [Act.put, List.setIfInBounds_toArray, List.set_cons_zero, List.set_cons_succ, List.getElem_toArray, List.getElem_cons_zero, List.getElem_cons_succ]
  refine wpAnyH_take (i := 10) (v := .int .u8 c.b) rfl (by kernel_rfl) (by kernel_rfl) (by kernel_rfl) (fun _ _ _ h => h) (Or.inl ⟨by rfl, fun w hw => by obtain ⟨x, rfl⟩ := hw; go_simp⟩) hS ?_
  try simp only [Act.put, List.setIfInBounds_toArray, List.set_cons_zero, List.set_cons_succ, List.getElem_toArray, List.getElem_cons_zero, List.getElem_cons_succ]
  refine wpAnyH_take (i := 12) (v := .pointer (some ⟨w.heap.size, 3, none⟩)) rfl (by kernel_rfl) (by kernel_rfl) (by kernel_rfl) (fun _ _ _ h => h) (Or.inl ⟨by rfl, fun w hw => by obtain ⟨x, rfl⟩ := hw; go_simp⟩) hS ?_
  try simp only [Act.put, List.setIfInBounds_toArray, List.set_cons_zero, List.set_cons_succ, List.getElem_toArray, List.getElem_cons_zero, List.getElem_cons_succ]
  refine wpAnyH_take (i := 13) (v := .int .u8 c.a) rfl (by kernel_rfl) (by kernel_rfl) (by kernel_rfl) (fun _ _ _ h => h) (Or.inl ⟨by rfl, fun w hw => by obtain ⟨x, rfl⟩ := hw; go_simp⟩) hS ?_
  try simp only [Act.put, List.setIfInBounds_toArray, List.set_cons_zero, List.set_cons_succ, List.getElem_toArray, List.getElem_cons_zero, List.getElem_cons_succ]
  refine wpAnyH_ready (rs := [3]) (by kernel_rfl) (by simp) ?_
  refine AllReadyH.cons rfl (fun K hK => ?_) AllReadyH.nil
  go_simp
  have hq3 := HR.out X.drew X0.out
  with_reducible refine hq3.mono ?_
  rintro e w1 ⟨rfl, rfl⟩
  clear hq3
  refine hK.out _ _ ⟨⟨_, onlyw_drew _ _⟩, rfl⟩ (fun hS => ?_)
  clear hK K
  try simp only [Act.put, List.setIfInBounds_toArray, List.set_cons_zero, List.set_cons_succ, List.getElem_toArray, List.getElem_cons_zero, List.getElem_cons_succ]
  refine wpAnyH_ready (rs := [7]) (by kernel_rfl) (by simp) ?_
  refine AllReadyH.cons rfl (fun K hK => ?_) AllReadyH.nil
  go_simp
  have hq7 := HG.out X.drew X0.out
  with_reducible refine hq7.mono ?_
  rintro e w1 ⟨rfl, rfl⟩
  clear hq7
  refine hK.out _ _ ⟨⟨_, onlyw_drew _ _⟩, rfl⟩ (fun hS => ?_)
  clear hK K
  try simp only [Act.put, List.setIfInBounds_toArray, List.set_cons_zero, List.set_cons_succ, List.getElem_toArray, List.getElem_cons_zero, List.getElem_cons_succ]
  refine wpAnyH_ready (rs := [11]) (by kernel_rfl) (by simp) ?_
  refine AllReadyH.cons rfl (fun K hK => ?_) AllReadyH.nil
  go_simp
  have hq11 := HB.out X.drew X0.out
  with_reducible refine hq11.mono ?_
  rintro e w1 ⟨rfl, rfl⟩
  clear hq11
  refine hK.out _ _ ⟨⟨_, onlyw_drew _ _⟩, rfl⟩ (fun hS => ?_)
  clear hK K
  try simp only [Act.put, List.setIfInBounds_toArray, List.set_cons_zero, List.set_cons_succ, List.getElem_toArray, List.getElem_cons_zero, List.getElem_cons_succ]
  refine wpAnyH_take (i := 14) (v := .agg #[.int .u8 p, .int .u8 q, .int .u8 s, .int .u8 c.a]) rfl (by kernel_rfl) (by kernel_rfl) (by kernel_rfl) (fun _ _ _ h => h) (Or.inl ⟨by rfl, fun w hw => by obtain ⟨x, rfl⟩ := hw; go_simp⟩) hS ?_
  try simp only [Act.put, List.setIfInBounds_toArray, List.set_cons_zero, List.set_cons_succ, List.getElem_toArray, List.getElem_cons_zero, List.getElem_cons_succ]
  obtain ⟨d0, d1, d2, d3⟩ := colB_cell X1.out
  obtain ⟨f0, f1, f2, f3⟩ := colB_free X1.out
  have N1 := show (((X.setCell ⟨w.heap.size + 1, 0, none⟩ (.int .u8 p)).setCell ⟨w.heap.size + 1, 1, none⟩ (.int .u8 q)).setCell ⟨w.heap.size + 1, 2, none⟩ (.int .u8 s) |>.setCell ⟨w.heap.size + 1, 3, none⟩ (.int .u8 c.a)).drew.heap[w.heap.size + 1]? = some (colB ⟨p, q, s, c.a⟩) from colB_set ⟨p, q, s, c.a⟩ X1.out
  have B1 := Lib.hid ((col_set X (w.heap.size + 1) w.heap.size ⟨p, q, s, c.a⟩ B0.out (by omega)).drew)
  refine wpAnyH_ready (rs := [15]) (by kernel_rfl) (by simp) ?_
  refine AllReadyH.cons rfl (fun K hK => ?_) AllReadyH.nil
  go_simp
  refine hK.out _ _ ⟨⟨_, (((((onlyw_refl (w.heap.size + 1) X).set 0 (.int .u8 p)).set 1 (.int .u8 q)).set 2 (.int .u8 s)).set 3 (.int .u8 c.a)).trans (onlyw_drew _ _)⟩, rfl⟩ (fun hS => ?_)
  clear hK K
  try simp only [Act.put, List.setIfInBounds_toArray, List.set_cons_zero, List.set_cons_succ, List.getElem_toArray, List.getElem_cons_zero, List.getElem_cons_succ]
  refine wpAnyH_done (by kernel_rfl) ?_ _
  obtain ⟨n0, n1, n2, n3⟩ := colB_cell N1
  clear y0 y1 y2 y3 hS c0 c1 c2 c3 d0 d1 d2 d3 f0 f1 f2 f3
  generalize ((((X.setCell ⟨w.heap.size + 1, 0, none⟩ (.int .u8 p)).setCell ⟨w.heap.size + 1, 1, none⟩ (.int .u8 q)).setCell ⟨w.heap.size + 1, 2, none⟩ (.int .u8 s)).setCell ⟨w.heap.size + 1, 3, none⟩ (.int .u8 c.a)).drew = Y at *
  go_wp2_with fail
  refine bodyPost_ret (v := .agg #[.int .u8 p, .int .u8 q, .int .u8 s, .int .u8 c.a]) (by simp [results, Try.results39, go_sem, *]) rfl ⟨rfl, B1.out⟩
end Go.Proofs.Ytehkcnmjkgelkaa
