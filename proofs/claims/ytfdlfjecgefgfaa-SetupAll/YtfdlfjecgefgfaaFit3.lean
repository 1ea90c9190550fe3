/-
  The contract of the statements' three vertices that may be.
-/
import Derived.Test.YtfdlfjecgefgfaaBig
import Derived.Test.YtfdlfjecgefgfaaCFit
namespace Go.Proofs.Ytfdlfjecgefgfaa
open Go.RowKit
attribute [local go_sem ↓] Go.wp_at_zero Go.wp_at_succ

def zV : C.V := ⟨0, 0, 0, 0, 0, 0, 0, 0⟩
/-- A block is written whole; all others are as they were. -/
theorem put_row3 {w : World} {g : Nat} {old : Array Value} (cs : Array Value) (hg : w.heap[g]? = some (.cells old 26 (0, 0))) : Put w (w.setRow g cs) g (.cells cs 26 (0, 0)) :=
  ⟨setRow_size w g cs, setRow_heap w g old cs 26 (0, 0) hg, fun k hk => setRow_other w g k cs hk, fun _ _ hb hB => below_setRow hb hB cs⟩
section
variable {ops : Array Oper} {rest : List Oper} {o : Oper} {k : Act} {w : World} {R : Exit → Act → World → Prop} {K : Act → World → Prop} {g : Nat} {d e f : C.V}
theorem opw_store3 {old : Array Value} (x y : Operand) (ho : o.op = .store 26 x y) (hd : o.dst = none) (hx : k.eval x = .pointer (some ⟨g, 0, none⟩)) (hy : k.eval y = .agg #[.int .i64 d.x, .int .i64 d.y, .int .i64 d.z, .int .i64 d.w, .int .i64 d.a, .int .i64 d.b, .int .i64 d.c, .int .i64 d.d, .int .i64 e.x, .int .i64 e.y, .int .i64 e.z, .int .i64 e.w, .int .i64 e.a, .int .i64 e.b, .int .i64 e.c, .int .i64 e.d, .int .i64 f.x, .int .i64 f.y, .int .i64 f.z, .int .i64 f.w, .int .i64 f.a, .int .i64 f.b, .int .i64 f.c, .int .i64 f.d])
    (hg : w.heap[g]? = some (.cells old 26 (0, 0))) (hs : old.size = 24) (h : ∀ w', Hid (Put w w' g (v3B d e f)) → K k w') : o.wp Try.prog k w K R := by
  refine wp_store_row 26 x y ho g _ hx hy 26 old hg (by kernel_rfl) (by rw [hs]; rfl) (by kernel_rfl) ?_
  rw [hd]
  exact h _ (Lib.hid (put_row3 _ hg))
theorem wp_alloc3 {p : Tmp} (ho : o.op = .alloc 26) (hd : o.dst = some p) (hw : Region.wanted o (yielded ops k.tmps) = true) (h : wpList Try.prog ops R rest (k.put (some p) (.pointer (some ⟨w.heap.size, 0, none⟩))) (w.alloc (v3B zV zV zV))) : wpList Try.prog ops R (o :: rest) k w :=
  BigFrame.wpList_want hw fun K hK => by
    have z : ∀ w', (zeroValue 26).run Try.prog w' = .ok (.agg (Array.replicate 24 (.int .i64 0))) w' := (zero_of_info (P := Try.prog) (t := 26) (n := 24) (by kernel_rfl)).1
    unfold Oper.wp execOp
    simp only [ho, Instr.alloc]
    simp [z, go_sem, hd]
    exact hK _ _ h
end

theorem results_one {fn : Func} {p : Tmp} (h : fn.results = #[.cell p 26]) (tmps : Array Value) (w : World) (g : Nat) (a b c : C.V)
    (hp : tmps.getD p undef = .pointer (some ⟨g, 0, none⟩)) (hg : w.heap[g]? = some (v3B a b c)) :
    (results fn tmps).run Try.prog w = .ok (.agg #[.int .i64 a.x, .int .i64 a.y, .int .i64 a.z, .int .i64 a.w, .int .i64 a.a, .int .i64 a.b, .int .i64 a.c, .int .i64 a.d, .int .i64 b.x, .int .i64 b.y, .int .i64 b.z, .int .i64 b.w, .int .i64 b.a, .int .i64 b.b, .int .i64 b.c, .int .i64 b.d, .int .i64 c.x, .int .i64 c.y, .int .i64 c.z, .int .i64 c.w, .int .i64 c.a, .int .i64 c.b, .int .i64 c.c, .int .i64 c.d]) w := by
  have hp' : tmps[p]?.getD undef = .pointer (some ⟨g, 0, none⟩) := by simpa using hp
  have hl := run_loadVar_row (P := Try.prog) w g 26 26 _ (0, 0) _ hg Try.underlying26 rfl (by kernel_rfl)
  simp [results, h, hp', asAddr, hl]

set_option maxRecDepth 100000 in
set_option maxHeartbeats 2000000 in
theorem fit3_any (a b c : C.V) (w : World) :
    Calls Try.prog 11 #[.agg #[.int .i64 a.x, .int .i64 a.y, .int .i64 a.z, .int .i64 a.w, .int .i64 a.a, .int .i64 a.b, .int .i64 a.c, .int .i64 a.d, .int .i64 b.x, .int .i64 b.y, .int .i64 b.z, .int .i64 b.w, .int .i64 b.a, .int .i64 b.b, .int .i64 b.c, .int .i64 b.d, .int .i64 c.x, .int .i64 c.y, .int .i64 c.z, .int .i64 c.w, .int .i64 c.a, .int .i64 c.b, .int .i64 c.c, .int .i64 c.d]] w fun e w' => e = .returned (.agg #[.int .i64 (C.fitV a).x, .int .i64 (C.fitV a).y, .int .i64 (C.fitV a).z, .int .i64 (C.fitV a).w, .int .i64 (C.fitV a).a, .int .i64 (C.fitV a).b, .int .i64 (C.fitV a).c, .int .i64 (C.fitV a).d, .int .i64 (C.fitV b).x, .int .i64 (C.fitV b).y, .int .i64 (C.fitV b).z, .int .i64 (C.fitV b).w, .int .i64 (C.fitV b).a, .int .i64 (C.fitV b).b, .int .i64 (C.fitV b).c, .int .i64 (C.fitV b).d, .int .i64 (C.fitV c).x, .int .i64 (C.fitV c).y, .int .i64 (C.fitV c).z, .int .i64 (C.fitV c).w, .int .i64 (C.fitV c).a, .int .i64 (C.fitV c).b, .int .i64 (C.fitV c).c, .int .i64 (C.fitV c).d]) ∧ Below w.heap.size w w' := by
  have HA := C.fit_any a
  have HB := C.fit_any b
  have HC := C.fit_any c
  generalize C.fitV a = d at *
  generalize C.fitV b = e at *
  generalize C.fitV c = f at *
  replace HA := Lib.hid HA
  replace HB := Lib.hid HB
  replace HC := Lib.hid HC
  go_enter Try.func11, Try.ntmps11
  go_wp2_with (refine wp_alloc3 rfl rfl rfl ?_)
  obtain ⟨X1, hX1⟩ : ∃ X1, X1 = w.alloc (.cells #[.int .i64 a.x, .int .i64 a.y, .int .i64 a.z, .int .i64 a.w, .int .i64 a.a, .int .i64 a.b, .int .i64 a.c, .int .i64 a.d, .int .i64 b.x, .int .i64 b.y, .int .i64 b.z, .int .i64 b.w, .int .i64 b.a, .int .i64 b.b, .int .i64 b.c, .int .i64 b.d, .int .i64 c.x, .int .i64 c.y, .int .i64 c.z, .int .i64 c.w, .int .i64 c.a, .int .i64 c.b, .int .i64 c.c, .int .i64 c.d] 26) := ⟨_, rfl⟩
  rw [← hX1]
  have BW := Lib.hid (show Below w.heap.size w X1 by rw [hX1]; exact (Below.refl _ _).alloc (Nat.le_refl _) _)
  have T1 := Lib.hid (show X1.heap[w.heap.size]? = some (v3B a b c) by rw [hX1]; exact new_at rfl)
  have hsz : X1.heap.size = w.heap.size + 1 := by rw [hX1]; simp
  have R3 := Lib.hid (show X1.heap.size ≤ X1.heap.size by omega)
  have R2 := Lib.hid (show w.heap.size ≤ X1.heap.size by omega)
  clear hX1
  obtain ⟨Y0, hY0⟩ : ∃ Y0, Y0 = World.drew (X1.alloc (v3B zV zV zV)) := ⟨_, rfl⟩
  have B0 := Lib.hid (show Below X1.heap.size X1 Y0 by rw [hY0]; exact ((Below.refl _ _).alloc (Nat.le_refl _) _).drew)
  have Z0 := Lib.hid (show Y0.heap[X1.heap.size]? = some (v3B zV zV zV) by rw [hY0]; exact new_at rfl)
  clear hsz
  refine wp_region_held_drew (S := fun w' => ∃ x : Grow X1, w' = x.w) (by kernel_rfl) ⟨⟨Y0, B0.out⟩, hY0.symm⟩ (fun hS => ?_)
  rw [← hY0] at hS ⊢
  clear hY0
  refine wpAnyH_take (i := 0) (v := (.pointer (some ⟨w.heap.size, 0, none⟩))) rfl (by kernel_rfl) (by kernel_rfl) (by kernel_rfl) (fun _ _ _ h => h) (Or.inl ⟨by rfl, fun w hw => by obtain ⟨x, rfl⟩ := hw; go_simp⟩) hS ?_
  try simp only [Act.put, List.setIfInBounds_toArray, List.set_cons_zero, List.set_cons_succ, List.getElem_toArray, List.getElem_cons_zero]
  refine wpAnyH_take (i := 1) (v := (.agg #[.int .i64 a.x, .int .i64 a.y, .int .i64 a.z, .int .i64 a.w, .int .i64 a.a, .int .i64 a.b, .int .i64 a.c, .int .i64 a.d])) rfl (by kernel_rfl) (by kernel_rfl) (by kernel_rfl) (fun _ _ _ h => h) (yields_vec (v := a) _ rfl rfl rfl (v3B_0 T1.out) (v3B_lt T1.out)) hS ?_
  try simp only [Act.put, List.setIfInBounds_toArray, List.set_cons_zero, List.set_cons_succ, List.getElem_toArray, List.getElem_cons_zero, List.getElem_cons_succ]
  refine wpAnyH_take (i := 3) (v := (.pointer (some ⟨w.heap.size, 8, none⟩))) rfl (by kernel_rfl) (by kernel_rfl) (by kernel_rfl) (fun _ _ _ h => h) (Or.inl ⟨by rfl, fun w hw => by obtain ⟨x, rfl⟩ := hw; go_simp⟩) hS ?_
  try simp only [Act.put, List.setIfInBounds_toArray, List.set_cons_zero, List.set_cons_succ, List.getElem_toArray, List.getElem_cons_zero, List.getElem_cons_succ]
  refine wpAnyH_take (i := 4) (v := (.agg #[.int .i64 b.x, .int .i64 b.y, .int .i64 b.z, .int .i64 b.w, .int .i64 b.a, .int .i64 b.b, .int .i64 b.c, .int .i64 b.d])) rfl (by kernel_rfl) (by kernel_rfl) (by kernel_rfl) (fun _ _ _ h => h) (yields_vec (v := b) _ rfl rfl rfl (v3B_1 T1.out) (v3B_lt T1.out)) hS ?_
  try simp only [Act.put, List.setIfInBounds_toArray, List.set_cons_zero, List.set_cons_succ, List.getElem_toArray, List.getElem_cons_zero, List.getElem_cons_succ]
  refine wpAnyH_take (i := 6) (v := (.pointer (some ⟨w.heap.size, 16, none⟩))) rfl (by kernel_rfl) (by kernel_rfl) (by kernel_rfl) (fun _ _ _ h => h) (Or.inl ⟨by rfl, fun w hw => by obtain ⟨x, rfl⟩ := hw; go_simp⟩) hS ?_
  try simp only [Act.put, List.setIfInBounds_toArray, List.set_cons_zero, List.set_cons_succ, List.getElem_toArray, List.getElem_cons_zero, List.getElem_cons_succ]
  refine wpAnyH_take (i := 7) (v := (.agg #[.int .i64 c.x, .int .i64 c.y, .int .i64 c.z, .int .i64 c.w, .int .i64 c.a, .int .i64 c.b, .int .i64 c.c, .int .i64 c.d])) rfl (by kernel_rfl) (by kernel_rfl) (by kernel_rfl) (fun _ _ _ h => h) (yields_vec (v := c) _ rfl rfl rfl (v3B_2 T1.out) (v3B_lt T1.out)) hS ?_
  try simp only [Act.put, List.setIfInBounds_toArray, List.set_cons_zero, List.set_cons_succ, List.getElem_toArray, List.getElem_cons_zero, List.getElem_cons_succ]
  refine wpAnyH_ready (rs := [2]) (by kernel_rfl) (by simp) ?_
  refine AllReadyH.cons rfl (fun K hK => ?_) AllReadyH.nil
  go_simp
  with_reducible refine (HA.out _).mono ?_
  rintro e t1 ⟨rfl, hb⟩
  have B1 := Lib.hid (bstep B0.out B0.out.size hb)
  have Z1 := Lib.hid (v3B_grow Z0.out hb)
  clear hb
  refine hK.out _ _ ⟨⟨_, B1.out⟩, rfl⟩ (fun hS => ?_)
  clear hK K
  try simp only [Act.put, List.setIfInBounds_toArray, List.set_cons_zero, List.set_cons_succ, List.getElem_toArray, List.getElem_cons_zero, List.getElem_cons_succ]
  refine wpAnyH_ready (rs := [5]) (by kernel_rfl) (by simp) ?_
  refine AllReadyH.cons rfl (fun K hK => ?_) AllReadyH.nil
  go_simp
  with_reducible refine (HB.out _).mono ?_
  rintro e t2 ⟨rfl, hb⟩
  have B2 := Lib.hid (bstep B1.out B1.out.size hb)
  have Z2 := Lib.hid (v3B_grow Z1.out hb)
  clear hb
  refine hK.out _ _ ⟨⟨_, B2.out⟩, rfl⟩ (fun hS => ?_)
  clear hK K
  try simp only [Act.put, List.setIfInBounds_toArray, List.set_cons_zero, List.set_cons_succ, List.getElem_toArray, List.getElem_cons_zero, List.getElem_cons_succ]
  refine wpAnyH_ready (rs := [8]) (by kernel_rfl) (by simp) ?_
  refine AllReadyH.cons rfl (fun K hK => ?_) AllReadyH.nil
  go_simp
  with_reducible refine (HC.out _).mono ?_
  rintro e t3 ⟨rfl, hb⟩
  have B3 := Lib.hid (bstep B2.out B2.out.size hb)
  have Z3 := Lib.hid (v3B_grow Z2.out hb)
  clear hb
  refine hK.out _ _ ⟨⟨_, B3.out⟩, rfl⟩ (fun hS => ?_)
  clear hK K
  try simp only [Act.put, List.setIfInBounds_toArray, List.set_cons_zero, List.set_cons_succ, List.getElem_toArray, List.getElem_cons_zero, List.getElem_cons_succ]
  refine wpAnyH_take (i := 9) (v := (.agg #[.int .i64 d.x, .int .i64 d.y, .int .i64 d.z, .int .i64 d.w, .int .i64 d.a, .int .i64 d.b, .int .i64 d.c, .int .i64 d.d, .int .i64 e.x, .int .i64 e.y, .int .i64 e.z, .int .i64 e.w, .int .i64 e.a, .int .i64 e.b, .int .i64 e.c, .int .i64 e.d, .int .i64 f.x, .int .i64 f.y, .int .i64 f.z, .int .i64 f.w, .int .i64 f.a, .int .i64 f.b, .int .i64 f.c, .int .i64 f.d])) rfl (by kernel_rfl) (by kernel_rfl) (by kernel_rfl) (fun _ _ _ h => h) (yields_build 26 [(0, .tmp 5), (1, .tmp 8), (2, .tmp 11)] #[.int .i64 d.x, .int .i64 d.y, .int .i64 d.z, .int .i64 d.w, .int .i64 d.a, .int .i64 d.b, .int .i64 d.c, .int .i64 d.d, .int .i64 e.x, .int .i64 e.y, .int .i64 e.z, .int .i64 e.w, .int .i64 e.a, .int .i64 e.b, .int .i64 e.c, .int .i64 e.d, .int .i64 f.x, .int .i64 f.y, .int .i64 f.z, .int .i64 f.w, .int .i64 f.a, .int .i64 f.b, .int .i64 f.c, .int .i64 f.d] rfl rfl (by kernel_rfl)) hS ?_
  try simp only [Act.put, List.setIfInBounds_toArray, List.set_cons_zero, List.set_cons_succ, List.getElem_toArray, List.getElem_cons_zero, List.getElem_cons_succ]
  refine wpAnyH_ready (rs := [10]) (by kernel_rfl) (by simp) ?_
  refine AllReadyH.cons rfl (fun K hK => ?_) AllReadyH.nil
  rw [if_pos (by rfl)]
  refine opw_store3 (d := d) (e := e) (f := f) _ _ rfl rfl rfl rfl Z3.out rfl (fun w4 P4 => ?_)
  refine hK.out _ _ ⟨⟨_, P4.out.below _ _ B3.out R3.out⟩, rfl⟩ (fun hS => ?_)
  clear hK K hS
  try simp only [Act.put, List.setIfInBounds_toArray, List.set_cons_zero, List.set_cons_succ, List.getElem_toArray, List.getElem_cons_zero, List.getElem_cons_succ]
  refine wpAnyH_done (by kernel_rfl) ?_ _
  go_wp2_with fail
  have F4 := Lib.hid P4.out.same
  refine bodyPost_ret (v := .agg #[.int .i64 d.x, .int .i64 d.y, .int .i64 d.z, .int .i64 d.w, .int .i64 d.a, .int .i64 d.b, .int .i64 d.c, .int .i64 d.d, .int .i64 e.x, .int .i64 e.y, .int .i64 e.z, .int .i64 e.w, .int .i64 e.a, .int .i64 e.b, .int .i64 e.c, .int .i64 e.d, .int .i64 f.x, .int .i64 f.y, .int .i64 f.z, .int .i64 f.w, .int .i64 f.a, .int .i64 f.b, .int .i64 f.c, .int .i64 f.d]) ?_ rfl ⟨rfl, bstep BW.out R2.out (P4.out.below _ _ B3.out R3.out)⟩
  exact results_one rfl _ _ _ d e f rfl F4.out
end Go.Proofs.Ytfdlfjecgefgfaa
