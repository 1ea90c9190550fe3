/-
  The contract of vec.Between.
-/
import Derived.Test.YtfdlfjecgefgfaaCEq
import Derived.Test.YtfdlfjecgefgfaaCFix
import Derived.Deep.CutRange
import Derived.Deep.DeepCutAuto
namespace Go.Proofs.Ytfdlfjecgefgfaa.C
open Go.RowKit
attribute [local go_sem ↓] Go.wp_at_zero Go.wp_at_succ

/-- A number between two, on a plane: d is how far the first is inside, k how far both are apart. -/
def bt (d k a b : Int) : Int := a + (b - a) * d / k
def btV (d k : Int) (u v : V) : V := ⟨bt d k u.x v.x, bt d k u.y v.y, bt d k u.z v.z, bt d k u.w v.w, bt d k u.a v.a, bt d k u.b v.b, bt d k u.c v.c, bt d k u.d v.d⟩

theorem bt_up {d k a b : Int} (h0 : 0 ≤ d) (h1 : d ≤ k) (hk : 0 < k) (h : a ≤ b) : a ≤ bt d k a b ∧ bt d k a b ≤ b := by
  have e1 : 0 ≤ (b - a) * d / k := Int.ediv_nonneg (Int.mul_nonneg (by omega) h0) (by omega)
  have e2 : (b - a) * d / k ≤ b - a := Int.ediv_le_of_le_mul hk (Int.mul_le_mul_of_nonneg_left h1 (by omega))
  unfold bt
  omega
theorem bt_down {d k a b : Int} (h0 : 0 ≤ d) (h1 : d ≤ k) (hk : 0 < k) (h : b ≤ a) : b ≤ bt d k a b ∧ bt d k a b ≤ a := by
  have e1 : b - a ≤ (b - a) * d / k := Int.le_ediv_of_mul_le hk (Int.mul_le_mul_of_nonpos_left (by omega) h1)
  have e2 : (b - a) * d / k ≤ 0 := by
    have e3 : (b - a) * d ≤ 0 := Int.mul_nonpos_of_nonpos_of_nonneg (by omega) h0
    have e4 : (b - a) * d / k ≤ 0 / k := Int.ediv_le_ediv hk e3
    simpa using e4
  unfold bt
  omega
theorem bt_in {d k a b lo hi : Int} (h0 : 0 ≤ d) (h1 : d ≤ k) (hk : 0 < k) (ha : lo ≤ a ∧ a ≤ hi) (hb : lo ≤ b ∧ b ≤ hi) : lo ≤ bt d k a b ∧ bt d k a b ≤ hi := by
  by_cases h : a ≤ b
  · have := bt_up h0 h1 hk h; omega
  · have := bt_down (b := b) h0 h1 hk (by omega : b ≤ a); omega
theorem dist_bd {p : Int} {v : V} (h : v.sm) : -5242880 ≤ dist p v ∧ dist p v ≤ 5242880 := by
  obtain ⟨hx, hy, hz, hw, -, -, -, -⟩ := h
  unfold dist
  repeat' split
  all_goals omega
/-- One number of what is between: the product fits, and so does the sum. -/
theorem step_any {a b d k n r : Int} (hn : b - a = n) (hr : bt d k a b = r) (ha : -1048576 ≤ a ∧ a ≤ 1048576) (hb : -1048576 ≤ b ∧ b ≤ 1048576) (h0 : 0 ≤ d) (h1 : d ≤ 5242880) (h2 : d < k) (h3 : k ≤ 10485760) :
    IntKind.i64.wrap (b - a) = n ∧ (∀ w, Calls Try.prog 57 #[.int .i64 n, .int .i64 d, .int .i64 k] w fun e w' => e = .returned (.tuple #[.int .i64 (r - a), .int .i64 0]) ∧ Below w.heap.size w w') ∧ IntKind.i64.wrap (a + (r - a)) = r := by
  have hin := bt_in (d := d) (k := k) h0 (by omega) (by omega) ha hb
  rw [hr] at hin
  have he : r - a = n * d / k := by rw [← hr, ← hn]; unfold bt; omega
  refine ⟨by rw [IntKind.wrap_i64]; omega, fun w => ?_, by rw [IntKind.wrap_i64]; omega⟩
  rw [he]
  have m1 : n.natAbs * d.natAbs ≤ 2097152 * 5242880 := Nat.mul_le_mul (by omega) (by omega)
  exact muldiv_any n d k (by omega) (by omega) h0 (by omega) (by omega) (by omega) (Nat.lt_of_le_of_lt m1 (by omega)) w
/-- The first j numbers of a vertex. -/
def headV (j : Nat) (v : V) : V :=
  ⟨if 0 < j then v.x else 0, if 1 < j then v.y else 0, if 2 < j then v.z else 0, if 3 < j then v.w else 0, if 4 < j then v.a else 0, if 5 < j then v.b else 0, if 6 < j then v.c else 0, if 7 < j then v.d else 0⟩

/-- What is shown once serves wherever it is met. -/
theorem share {F T : Nat → Nat → World → Prop} {G : Prop} (use : (∀ x y w, F x y w → T x y w) → G) (tail : ∀ x y w, F x y w → T x y w) : G := use tail

set_option maxHeartbeats 4000000 in
theorem between_core (u v R : V) (p D E K : Int) (hu : u.sm) (hv : v.sm) (hD : dist p u = D) (hE : dist p v = E) (hK : D - E = K) (hR : btV D K u v = R) (h0 : 0 ≤ D) (h1 : E < 0) (w : World) :
    Calls Try.prog 59 #[.agg #[.int .i64 u.x, .int .i64 u.y, .int .i64 u.z, .int .i64 u.w, .int .i64 u.a, .int .i64 u.b, .int .i64 u.c, .int .i64 u.d], .agg #[.int .i64 v.x, .int .i64 v.y, .int .i64 v.z, .int .i64 v.w, .int .i64 v.a, .int .i64 v.b, .int .i64 v.c, .int .i64 v.d], .int .i64 p] w fun e w' => e = .returned (.tuple #[.agg #[.int .i64 R.x, .int .i64 R.y, .int .i64 R.z, .int .i64 R.w, .int .i64 R.a, .int .i64 R.b, .int .i64 R.c, .int .i64 R.d], .bool true]) ∧ Below w.heap.size w w' := by
  have bD := dist_bd (p := p) hu
  have bE := dist_bd (p := p) hv
  have DU := Lib.hid (dist_any p u hu)
  have DV := Lib.hid (dist_any p v hv)
  rw [hD] at DU bD
  rw [hE] at DV bE
  have AU := Lib.hid (apart_any u)
  have AV := Lib.hid (apart_any v)
  have TG := Lib.hid (together_any R)
  have wK : IntKind.i64.wrap (D - E) = K := by rw [IntKind.wrap_i64]; omega
  have k1 : D < K := by omega
  have k2 : K ≤ 10485760 := by omega
  have HU := Lib.hid hu
  have HV := Lib.hid hv
  have HRR := Lib.hid hR
  clear hD hE hK hR hu hv
  go_enter Try.func59, Try.ntmps59
  go_wp2
  generalize hW : ((w.alloc (Obj.cells #[.int .i64 u.x, .int .i64 u.y, .int .i64 u.z, .int .i64 u.w, .int .i64 u.a, .int .i64 u.b, .int .i64 u.c, .int .i64 u.d] 25)).alloc (Obj.cells #[.int .i64 v.x, .int .i64 v.y, .int .i64 v.z, .int .i64 v.w, .int .i64 v.a, .int .i64 v.b, .int .i64 v.c, .int .i64 v.d] 25)).alloc _ = W
  have U0 : W.heap[w.heap.size]? = some (vB 25 u) := by
    rw [← hW]; exact vB_alloc _ (vB_alloc _ (new_at rfl))
  have V0 : W.heap[w.heap.size + 1]? = some (vB 25 v) := by
    rw [← hW]; exact vB_alloc _ (new_at (by simp))
  have R0 : W.heap[w.heap.size + 1 + 1]? = some (vB 25 ⟨0, 0, 0, 0, 0, 0, 0, 0⟩) := by
    rw [← hW]; exact new_at (by simp)
  have HW := Lib.hid hW
  clear hW
  have gu := fun x : Grow W => vB_cell (vB_grow U0 x.below)
  have gv := fun x : Grow W => vB_cell (vB_grow V0 x.below)
  have HU0 := Lib.hid U0
  have HV0 := Lib.hid V0
  have HR0 := Lib.hid R0
  clear U0 V0 R0
  have ne := Grow.ne W
  refine wp_region_grow (by kernel_rfl) (by kernel_rfl) ?_
  repeat (go_big_quiet_step ((go_at_call 58; with_reducible first | exact Grow.calls (DU.out _) | exact Grow.calls (DV.out _))))
  refine wpQuiet_nil ?_
  rintro _ ⟨x, rfl⟩
  have BX := Lib.hid x.below
  have ux := Lib.hid (vB_grow HU0.out x.below)
  have vx := Lib.hid (vB_grow HV0.out x.below)
  have rx := Lib.hid (vB_grow HR0.out x.below)
  generalize x.w = X at *
  clear gu gv ne x HU0 HV0 HR0
  go_wp2
  go_cut [10, 11] from 29 to 32 (fun s t wc => ∃ g1 g2, s = .pointer (some ⟨g1, 0, none⟩) ∧ t = .pointer (some ⟨g2, 0, none⟩) ∧ X.heap.size ≤ g1 ∧ X.heap.size ≤ g2 ∧ g1 ≠ g2 ∧ Below X.heap.size X wc ∧ wc.heap[g1]? = some (vB 99 u) ∧ wc.heap[g2]? = some (vB 99 v))
  case first =>
    have gu := fun x : Grow X => vB_cell (vB_grow ux.out x.below)
    have gv := fun x : Grow X => vB_cell (vB_grow vx.out x.below)
    refine wp_region_held_drew (S := fun w' => ∃ x : Grow X, w' = x.w) (by kernel_rfl) ⟨⟨_, (Below.refl _ _).drew⟩, rfl⟩ (fun hS => ?_)
    have BY := Lib.hid (show Below X.heap.size X X.drew from (Below.refl _ _).drew)
    generalize X.drew = Y at *
    refine wpAnyH_take (i := 0) (v := .agg #[.int .i64 u.x, .int .i64 u.y, .int .i64 u.z, .int .i64 u.w, .int .i64 u.a, .int .i64 u.b, .int .i64 u.c, .int .i64 u.d]) rfl (by kernel_rfl) (by kernel_rfl) (by kernel_rfl) (fun _ _ _ h => h) (Or.inl ⟨by rfl, fun w hw => by obtain ⟨x, rfl⟩ := hw; go_simp⟩) hS ?_
    simp only [Act.put, List.setIfInBounds_toArray, List.set_cons_zero, List.set_cons_succ, List.getElem_toArray, List.getElem_cons_zero]
    refine wpAnyH_take (i := 2) (v := .agg #[.int .i64 v.x, .int .i64 v.y, .int .i64 v.z, .int .i64 v.w, .int .i64 v.a, .int .i64 v.b, .int .i64 v.c, .int .i64 v.d]) rfl (by kernel_rfl) (by kernel_rfl) (by kernel_rfl) (fun _ _ _ h => h) (Or.inl ⟨by rfl, fun w hw => by obtain ⟨x, rfl⟩ := hw; go_simp⟩) hS ?_
    simp only [Act.put, List.setIfInBounds_toArray, List.set_cons_zero, List.set_cons_succ, List.getElem_toArray, List.getElem_cons_zero, List.getElem_cons_succ]
    clear gu gv hS
    refine' share (F := fun g1 g2 t => Below X.heap.size X t ∧ t.heap[g1]? = some (vB 99 ⟨0, 0, 0, 0, 0, 0, 0, 0⟩) ∧ t.heap[g2]? = some (vB 99 ⟨0, 0, 0, 0, 0, 0, 0, 0⟩) ∧ X.heap.size ≤ g1 ∧ X.heap.size ≤ g2 ∧ g1 ≠ g2) (T := _) (fun hT => ?_) ?_
    rotate_left
    · skip
      refine wpAnyH_ready (rs := [1, 4, 5]) (by kernel_rfl) (by simp) ?_
      refine AllReadyH.cons rfl (fun K hK => ?_) ?_
      · skip
        go_simp
        with_reducible refine (AU.out _).mono ?_
        rintro e t1 ⟨rfl, hb⟩
        have Bt1 := Lib.hid (bstep BY.out BY.out.size hb)
        clear hb
        refine hK.out _ _ ⟨⟨_, Bt1.out⟩, rfl⟩ (fun hS => ?_)
        clear hK K
        try simp only [Act.put, List.setIfInBounds_toArray, List.set_cons_zero, List.set_cons_succ, List.getElem_toArray, List.getElem_cons_zero, List.getElem_cons_succ]
        refine wpAnyH_ready (rs := [3, 4, 5]) (by kernel_rfl) (by simp) ?_
        refine AllReadyH.cons rfl (fun K hK => ?_) ?_
        · skip
          go_simp
          with_reducible refine (AV.out _).mono ?_
          rintro e t2 ⟨rfl, hb⟩
          have Bt2 := Lib.hid (bstep Bt1.out Bt1.out.size hb)
          clear hb
          refine hK.out _ _ ⟨⟨_, Bt2.out⟩, rfl⟩ (fun hS => ?_)
          clear hK K
          try simp only [Act.put, List.setIfInBounds_toArray, List.set_cons_zero, List.set_cons_succ, List.getElem_toArray, List.getElem_cons_zero, List.getElem_cons_succ]
          refine wpAnyH_ready (rs := [4, 5]) (by kernel_rfl) (by simp) ?_
          refine AllReadyH.cons rfl (fun K hK => ?_) ?_
          · skip
            go_simp
            refine hK.out _ _ ⟨⟨_, Bt2.out.alloc Bt2.out.size _⟩, rfl⟩ (fun hS => ?_)
            clear hK K hS
            try simp only [List.setIfInBounds_toArray, List.set_cons_zero, List.set_cons_succ]
            obtain ⟨t3, ht⟩ : ∃ t, t = t2.alloc (vB 99 ⟨0, 0, 0, 0, 0, 0, 0, 0⟩) := ⟨_, rfl⟩
            change wpAnyH _ _ _ _ _ _ _ _ (t2.alloc (vB 99 ⟨0, 0, 0, 0, 0, 0, 0, 0⟩))
            rw [← ht]
            have Bt3 := Lib.hid (show Below X.heap.size X t3 by rw [ht]; exact Bt2.out.alloc Bt2.out.size _)
            have Gt34 := Lib.hid (show t3.heap[t2.heap.size]? = some (vB 99 ⟨0, 0, 0, 0, 0, 0, 0, 0⟩) by rw [ht]; exact new_at rfl)
            have hge4 : X.heap.size ≤ t2.heap.size := Bt2.out.size
            clear ht
            refine wpAnyH_ready (rs := [5]) (by kernel_rfl) (by simp) ?_
            refine AllReadyH.cons rfl (fun K hK => ?_) ?_
            · skip
              go_simp
              refine hK.out _ _ ⟨⟨_, Bt3.out.alloc Bt3.out.size _⟩, rfl⟩ (fun hS => ?_)
              clear hK K hS
              try simp only [List.setIfInBounds_toArray, List.set_cons_zero, List.set_cons_succ]
              obtain ⟨t4, ht⟩ : ∃ t, t = t3.alloc (vB 99 ⟨0, 0, 0, 0, 0, 0, 0, 0⟩) := ⟨_, rfl⟩
              change wpAnyH _ _ _ _ _ _ _ _ (t3.alloc (vB 99 ⟨0, 0, 0, 0, 0, 0, 0, 0⟩))
              rw [← ht]
              have Bt4 := Lib.hid (show Below X.heap.size X t4 by rw [ht]; exact Bt3.out.alloc Bt3.out.size _)
              have Gt44 := Lib.hid (show t4.heap[t2.heap.size]? = some (vB 99 ⟨0, 0, 0, 0, 0, 0, 0, 0⟩) by rw [ht]; exact vB_alloc _ Gt34.out)
              have Gt45 := Lib.hid (show t4.heap[t3.heap.size]? = some (vB 99 ⟨0, 0, 0, 0, 0, 0, 0, 0⟩) by rw [ht]; exact new_at rfl)
              have hne : t2.heap.size ≠ t3.heap.size := Nat.ne_of_lt (vB_lt Gt34.out)
              have hge5 : X.heap.size ≤ t3.heap.size := Bt3.out.size
              clear ht
              obtain ⟨g1, e1⟩ : ∃ g, g = t2.heap.size := ⟨_, rfl⟩
              obtain ⟨g2, e2⟩ : ∃ g, g = t3.heap.size := ⟨_, rfl⟩
              rw [← e1, ← e2]
              exact hT g1 g2 t4 ⟨Bt4.out, by rw [e1]; exact Gt44.out, by rw [e2]; exact Gt45.out, by rw [e1]; exact hge4, by rw [e2]; exact hge5, by rw [e1, e2]; omega⟩
            exact AllReadyH.nil
          refine AllReadyH.cons rfl (fun K hK => ?_) ?_
          · skip
            go_simp
            refine hK.out _ _ ⟨⟨_, Bt2.out.alloc Bt2.out.size _⟩, rfl⟩ (fun hS => ?_)
            clear hK K hS
            try simp only [List.setIfInBounds_toArray, List.set_cons_zero, List.set_cons_succ]
            obtain ⟨t5, ht⟩ : ∃ t, t = t2.alloc (vB 99 ⟨0, 0, 0, 0, 0, 0, 0, 0⟩) := ⟨_, rfl⟩
            change wpAnyH _ _ _ _ _ _ _ _ (t2.alloc (vB 99 ⟨0, 0, 0, 0, 0, 0, 0, 0⟩))
            rw [← ht]
            have Bt5 := Lib.hid (show Below X.heap.size X t5 by rw [ht]; exact Bt2.out.alloc Bt2.out.size _)
            have Gt55 := Lib.hid (show t5.heap[t2.heap.size]? = some (vB 99 ⟨0, 0, 0, 0, 0, 0, 0, 0⟩) by rw [ht]; exact new_at rfl)
            have hge5 : X.heap.size ≤ t2.heap.size := Bt2.out.size
            clear ht
            refine wpAnyH_ready (rs := [4]) (by kernel_rfl) (by simp) ?_
            refine AllReadyH.cons rfl (fun K hK => ?_) ?_
            · skip
              go_simp
              refine hK.out _ _ ⟨⟨_, Bt5.out.alloc Bt5.out.size _⟩, rfl⟩ (fun hS => ?_)
              clear hK K hS
              try simp only [List.setIfInBounds_toArray, List.set_cons_zero, List.set_cons_succ]
              obtain ⟨t6, ht⟩ : ∃ t, t = t5.alloc (vB 99 ⟨0, 0, 0, 0, 0, 0, 0, 0⟩) := ⟨_, rfl⟩
              change wpAnyH _ _ _ _ _ _ _ _ (t5.alloc (vB 99 ⟨0, 0, 0, 0, 0, 0, 0, 0⟩))
              rw [← ht]
              have Bt6 := Lib.hid (show Below X.heap.size X t6 by rw [ht]; exact Bt5.out.alloc Bt5.out.size _)
              have Gt65 := Lib.hid (show t6.heap[t2.heap.size]? = some (vB 99 ⟨0, 0, 0, 0, 0, 0, 0, 0⟩) by rw [ht]; exact vB_alloc _ Gt55.out)
              have Gt64 := Lib.hid (show t6.heap[t5.heap.size]? = some (vB 99 ⟨0, 0, 0, 0, 0, 0, 0, 0⟩) by rw [ht]; exact new_at rfl)
              have hne : t2.heap.size ≠ t5.heap.size := Nat.ne_of_lt (vB_lt Gt55.out)
              have hge4 : X.heap.size ≤ t5.heap.size := Bt5.out.size
              clear ht
              obtain ⟨g1, e1⟩ : ∃ g, g = t5.heap.size := ⟨_, rfl⟩
              obtain ⟨g2, e2⟩ : ∃ g, g = t2.heap.size := ⟨_, rfl⟩
              rw [← e1, ← e2]
              exact hT g1 g2 t6 ⟨Bt6.out, by rw [e1]; exact Gt64.out, by rw [e2]; exact Gt65.out, by rw [e1]; exact hge4, by rw [e2]; exact hge5, by rw [e1, e2]; omega⟩
            exact AllReadyH.nil
          exact AllReadyH.nil
        refine AllReadyH.cons rfl (fun K hK => ?_) ?_
        · skip
          go_simp
          refine hK.out _ _ ⟨⟨_, Bt1.out.alloc Bt1.out.size _⟩, rfl⟩ (fun hS => ?_)
          clear hK K hS
          try simp only [List.setIfInBounds_toArray, List.set_cons_zero, List.set_cons_succ]
          obtain ⟨t7, ht⟩ : ∃ t, t = t1.alloc (vB 99 ⟨0, 0, 0, 0, 0, 0, 0, 0⟩) := ⟨_, rfl⟩
          change wpAnyH _ _ _ _ _ _ _ _ (t1.alloc (vB 99 ⟨0, 0, 0, 0, 0, 0, 0, 0⟩))
          rw [← ht]
          have Bt7 := Lib.hid (show Below X.heap.size X t7 by rw [ht]; exact Bt1.out.alloc Bt1.out.size _)
          have Gt74 := Lib.hid (show t7.heap[t1.heap.size]? = some (vB 99 ⟨0, 0, 0, 0, 0, 0, 0, 0⟩) by rw [ht]; exact new_at rfl)
          have hge4 : X.heap.size ≤ t1.heap.size := Bt1.out.size
          clear ht
          refine wpAnyH_ready (rs := [3, 5]) (by kernel_rfl) (by simp) ?_
          refine AllReadyH.cons rfl (fun K hK => ?_) ?_
          · skip
            go_simp
            with_reducible refine (AV.out _).mono ?_
            rintro e t8 ⟨rfl, hb⟩
            have Bt8 := Lib.hid (bstep Bt7.out Bt7.out.size hb)
            have Gt84 := Lib.hid (vB_grow Gt74.out hb)
            clear hb
            refine hK.out _ _ ⟨⟨_, Bt8.out⟩, rfl⟩ (fun hS => ?_)
            clear hK K
            try simp only [Act.put, List.setIfInBounds_toArray, List.set_cons_zero, List.set_cons_succ, List.getElem_toArray, List.getElem_cons_zero, List.getElem_cons_succ]
            refine wpAnyH_ready (rs := [5]) (by kernel_rfl) (by simp) ?_
            refine AllReadyH.cons rfl (fun K hK => ?_) ?_
            · skip
              go_simp
              refine hK.out _ _ ⟨⟨_, Bt8.out.alloc Bt8.out.size _⟩, rfl⟩ (fun hS => ?_)
              clear hK K hS
              try simp only [List.setIfInBounds_toArray, List.set_cons_zero, List.set_cons_succ]
              obtain ⟨t9, ht⟩ : ∃ t, t = t8.alloc (vB 99 ⟨0, 0, 0, 0, 0, 0, 0, 0⟩) := ⟨_, rfl⟩
              change wpAnyH _ _ _ _ _ _ _ _ (t8.alloc (vB 99 ⟨0, 0, 0, 0, 0, 0, 0, 0⟩))
              rw [← ht]
              have Bt9 := Lib.hid (show Below X.heap.size X t9 by rw [ht]; exact Bt8.out.alloc Bt8.out.size _)
              have Gt94 := Lib.hid (show t9.heap[t1.heap.size]? = some (vB 99 ⟨0, 0, 0, 0, 0, 0, 0, 0⟩) by rw [ht]; exact vB_alloc _ Gt84.out)
              have Gt95 := Lib.hid (show t9.heap[t8.heap.size]? = some (vB 99 ⟨0, 0, 0, 0, 0, 0, 0, 0⟩) by rw [ht]; exact new_at rfl)
              have hne : t1.heap.size ≠ t8.heap.size := Nat.ne_of_lt (vB_lt Gt84.out)
              have hge5 : X.heap.size ≤ t8.heap.size := Bt8.out.size
              clear ht
              obtain ⟨g1, e1⟩ : ∃ g, g = t1.heap.size := ⟨_, rfl⟩
              obtain ⟨g2, e2⟩ : ∃ g, g = t8.heap.size := ⟨_, rfl⟩
              rw [← e1, ← e2]
              exact hT g1 g2 t9 ⟨Bt9.out, by rw [e1]; exact Gt94.out, by rw [e2]; exact Gt95.out, by rw [e1]; exact hge4, by rw [e2]; exact hge5, by rw [e1, e2]; omega⟩
            exact AllReadyH.nil
          refine AllReadyH.cons rfl (fun K hK => ?_) ?_
          · skip
            go_simp
            refine hK.out _ _ ⟨⟨_, Bt7.out.alloc Bt7.out.size _⟩, rfl⟩ (fun hS => ?_)
            clear hK K hS
            try simp only [List.setIfInBounds_toArray, List.set_cons_zero, List.set_cons_succ]
            obtain ⟨t10, ht⟩ : ∃ t, t = t7.alloc (vB 99 ⟨0, 0, 0, 0, 0, 0, 0, 0⟩) := ⟨_, rfl⟩
            change wpAnyH _ _ _ _ _ _ _ _ (t7.alloc (vB 99 ⟨0, 0, 0, 0, 0, 0, 0, 0⟩))
            rw [← ht]
            have Bt10 := Lib.hid (show Below X.heap.size X t10 by rw [ht]; exact Bt7.out.alloc Bt7.out.size _)
            have Gt104 := Lib.hid (show t10.heap[t1.heap.size]? = some (vB 99 ⟨0, 0, 0, 0, 0, 0, 0, 0⟩) by rw [ht]; exact vB_alloc _ Gt74.out)
            have Gt105 := Lib.hid (show t10.heap[t7.heap.size]? = some (vB 99 ⟨0, 0, 0, 0, 0, 0, 0, 0⟩) by rw [ht]; exact new_at rfl)
            have hne : t1.heap.size ≠ t7.heap.size := Nat.ne_of_lt (vB_lt Gt74.out)
            have hge5 : X.heap.size ≤ t7.heap.size := Bt7.out.size
            clear ht
            refine wpAnyH_ready (rs := [3]) (by kernel_rfl) (by simp) ?_
            refine AllReadyH.cons rfl (fun K hK => ?_) ?_
            · skip
              go_simp
              with_reducible refine (AV.out _).mono ?_
              rintro e t11 ⟨rfl, hb⟩
              have Bt11 := Lib.hid (bstep Bt10.out Bt10.out.size hb)
              have Gt114 := Lib.hid (vB_grow Gt104.out hb)
              have Gt115 := Lib.hid (vB_grow Gt105.out hb)
              clear hb
              refine hK.out _ _ ⟨⟨_, Bt11.out⟩, rfl⟩ (fun hS => ?_)
              clear hK K
              try simp only [Act.put, List.setIfInBounds_toArray, List.set_cons_zero, List.set_cons_succ, List.getElem_toArray, List.getElem_cons_zero, List.getElem_cons_succ]
              obtain ⟨g1, e1⟩ : ∃ g, g = t1.heap.size := ⟨_, rfl⟩
              obtain ⟨g2, e2⟩ : ∃ g, g = t7.heap.size := ⟨_, rfl⟩
              rw [← e1, ← e2]
              exact hT g1 g2 t11 ⟨Bt11.out, by rw [e1]; exact Gt114.out, by rw [e2]; exact Gt115.out, by rw [e1]; exact hge4, by rw [e2]; exact hge5, by rw [e1, e2]; omega⟩
            exact AllReadyH.nil
          exact AllReadyH.nil
        refine AllReadyH.cons rfl (fun K hK => ?_) ?_
        · skip
          go_simp
          refine hK.out _ _ ⟨⟨_, Bt1.out.alloc Bt1.out.size _⟩, rfl⟩ (fun hS => ?_)
          clear hK K hS
          try simp only [List.setIfInBounds_toArray, List.set_cons_zero, List.set_cons_succ]
          obtain ⟨t12, ht⟩ : ∃ t, t = t1.alloc (vB 99 ⟨0, 0, 0, 0, 0, 0, 0, 0⟩) := ⟨_, rfl⟩
          change wpAnyH _ _ _ _ _ _ _ _ (t1.alloc (vB 99 ⟨0, 0, 0, 0, 0, 0, 0, 0⟩))
          rw [← ht]
          have Bt12 := Lib.hid (show Below X.heap.size X t12 by rw [ht]; exact Bt1.out.alloc Bt1.out.size _)
          have Gt125 := Lib.hid (show t12.heap[t1.heap.size]? = some (vB 99 ⟨0, 0, 0, 0, 0, 0, 0, 0⟩) by rw [ht]; exact new_at rfl)
          have hge5 : X.heap.size ≤ t1.heap.size := Bt1.out.size
          clear ht
          refine wpAnyH_ready (rs := [3, 4]) (by kernel_rfl) (by simp) ?_
          refine AllReadyH.cons rfl (fun K hK => ?_) ?_
          · skip
            go_simp
            with_reducible refine (AV.out _).mono ?_
            rintro e t13 ⟨rfl, hb⟩
            have Bt13 := Lib.hid (bstep Bt12.out Bt12.out.size hb)
            have Gt135 := Lib.hid (vB_grow Gt125.out hb)
            clear hb
            refine hK.out _ _ ⟨⟨_, Bt13.out⟩, rfl⟩ (fun hS => ?_)
            clear hK K
            try simp only [Act.put, List.setIfInBounds_toArray, List.set_cons_zero, List.set_cons_succ, List.getElem_toArray, List.getElem_cons_zero, List.getElem_cons_succ]
            refine wpAnyH_ready (rs := [4]) (by kernel_rfl) (by simp) ?_
            refine AllReadyH.cons rfl (fun K hK => ?_) ?_
            · skip
              go_simp
              refine hK.out _ _ ⟨⟨_, Bt13.out.alloc Bt13.out.size _⟩, rfl⟩ (fun hS => ?_)
              clear hK K hS
              try simp only [List.setIfInBounds_toArray, List.set_cons_zero, List.set_cons_succ]
              obtain ⟨t14, ht⟩ : ∃ t, t = t13.alloc (vB 99 ⟨0, 0, 0, 0, 0, 0, 0, 0⟩) := ⟨_, rfl⟩
              change wpAnyH _ _ _ _ _ _ _ _ (t13.alloc (vB 99 ⟨0, 0, 0, 0, 0, 0, 0, 0⟩))
              rw [← ht]
              have Bt14 := Lib.hid (show Below X.heap.size X t14 by rw [ht]; exact Bt13.out.alloc Bt13.out.size _)
              have Gt145 := Lib.hid (show t14.heap[t1.heap.size]? = some (vB 99 ⟨0, 0, 0, 0, 0, 0, 0, 0⟩) by rw [ht]; exact vB_alloc _ Gt135.out)
              have Gt144 := Lib.hid (show t14.heap[t13.heap.size]? = some (vB 99 ⟨0, 0, 0, 0, 0, 0, 0, 0⟩) by rw [ht]; exact new_at rfl)
              have hne : t1.heap.size ≠ t13.heap.size := Nat.ne_of_lt (vB_lt Gt135.out)
              have hge4 : X.heap.size ≤ t13.heap.size := Bt13.out.size
              clear ht
              obtain ⟨g1, e1⟩ : ∃ g, g = t13.heap.size := ⟨_, rfl⟩
              obtain ⟨g2, e2⟩ : ∃ g, g = t1.heap.size := ⟨_, rfl⟩
              rw [← e1, ← e2]
              exact hT g1 g2 t14 ⟨Bt14.out, by rw [e1]; exact Gt144.out, by rw [e2]; exact Gt145.out, by rw [e1]; exact hge4, by rw [e2]; exact hge5, by rw [e1, e2]; omega⟩
            exact AllReadyH.nil
          refine AllReadyH.cons rfl (fun K hK => ?_) ?_
          · skip
            go_simp
            refine hK.out _ _ ⟨⟨_, Bt12.out.alloc Bt12.out.size _⟩, rfl⟩ (fun hS => ?_)
            clear hK K hS
            try simp only [List.setIfInBounds_toArray, List.set_cons_zero, List.set_cons_succ]
            obtain ⟨t15, ht⟩ : ∃ t, t = t12.alloc (vB 99 ⟨0, 0, 0, 0, 0, 0, 0, 0⟩) := ⟨_, rfl⟩
            change wpAnyH _ _ _ _ _ _ _ _ (t12.alloc (vB 99 ⟨0, 0, 0, 0, 0, 0, 0, 0⟩))
            rw [← ht]
            have Bt15 := Lib.hid (show Below X.heap.size X t15 by rw [ht]; exact Bt12.out.alloc Bt12.out.size _)
            have Gt155 := Lib.hid (show t15.heap[t1.heap.size]? = some (vB 99 ⟨0, 0, 0, 0, 0, 0, 0, 0⟩) by rw [ht]; exact vB_alloc _ Gt125.out)
            have Gt154 := Lib.hid (show t15.heap[t12.heap.size]? = some (vB 99 ⟨0, 0, 0, 0, 0, 0, 0, 0⟩) by rw [ht]; exact new_at rfl)
            have hne : t1.heap.size ≠ t12.heap.size := Nat.ne_of_lt (vB_lt Gt125.out)
            have hge4 : X.heap.size ≤ t12.heap.size := Bt12.out.size
            clear ht
            refine wpAnyH_ready (rs := [3]) (by kernel_rfl) (by simp) ?_
            refine AllReadyH.cons rfl (fun K hK => ?_) ?_
            · skip
              go_simp
              with_reducible refine (AV.out _).mono ?_
              rintro e t16 ⟨rfl, hb⟩
              have Bt16 := Lib.hid (bstep Bt15.out Bt15.out.size hb)
              have Gt165 := Lib.hid (vB_grow Gt155.out hb)
              have Gt164 := Lib.hid (vB_grow Gt154.out hb)
              clear hb
              refine hK.out _ _ ⟨⟨_, Bt16.out⟩, rfl⟩ (fun hS => ?_)
              clear hK K
              try simp only [Act.put, List.setIfInBounds_toArray, List.set_cons_zero, List.set_cons_succ, List.getElem_toArray, List.getElem_cons_zero, List.getElem_cons_succ]
              obtain ⟨g1, e1⟩ : ∃ g, g = t12.heap.size := ⟨_, rfl⟩
              obtain ⟨g2, e2⟩ : ∃ g, g = t1.heap.size := ⟨_, rfl⟩
              rw [← e1, ← e2]
              exact hT g1 g2 t16 ⟨Bt16.out, by rw [e1]; exact Gt164.out, by rw [e2]; exact Gt165.out, by rw [e1]; exact hge4, by rw [e2]; exact hge5, by rw [e1, e2]; omega⟩
            exact AllReadyH.nil
          exact AllReadyH.nil
        exact AllReadyH.nil
      refine AllReadyH.cons rfl (fun K hK => ?_) ?_
      · skip
        go_simp
        refine hK.out _ _ ⟨⟨_, BY.out.alloc BY.out.size _⟩, rfl⟩ (fun hS => ?_)
        clear hK K hS
        try simp only [List.setIfInBounds_toArray, List.set_cons_zero, List.set_cons_succ]
        obtain ⟨t17, ht⟩ : ∃ t, t = Y.alloc (vB 99 ⟨0, 0, 0, 0, 0, 0, 0, 0⟩) := ⟨_, rfl⟩
        change wpAnyH _ _ _ _ _ _ _ _ (Y.alloc (vB 99 ⟨0, 0, 0, 0, 0, 0, 0, 0⟩))
        rw [← ht]
        have Bt17 := Lib.hid (show Below X.heap.size X t17 by rw [ht]; exact BY.out.alloc BY.out.size _)
        have Gt174 := Lib.hid (show t17.heap[Y.heap.size]? = some (vB 99 ⟨0, 0, 0, 0, 0, 0, 0, 0⟩) by rw [ht]; exact new_at rfl)
        have hge4 : X.heap.size ≤ Y.heap.size := BY.out.size
        clear ht
        refine wpAnyH_ready (rs := [1, 5]) (by kernel_rfl) (by simp) ?_
        refine AllReadyH.cons rfl (fun K hK => ?_) ?_
        · skip
          go_simp
          with_reducible refine (AU.out _).mono ?_
          rintro e t18 ⟨rfl, hb⟩
          have Bt18 := Lib.hid (bstep Bt17.out Bt17.out.size hb)
          have Gt184 := Lib.hid (vB_grow Gt174.out hb)
          clear hb
          refine hK.out _ _ ⟨⟨_, Bt18.out⟩, rfl⟩ (fun hS => ?_)
          clear hK K
          try simp only [Act.put, List.setIfInBounds_toArray, List.set_cons_zero, List.set_cons_succ, List.getElem_toArray, List.getElem_cons_zero, List.getElem_cons_succ]
          refine wpAnyH_ready (rs := [3, 5]) (by kernel_rfl) (by simp) ?_
          refine AllReadyH.cons rfl (fun K hK => ?_) ?_
          · skip
            go_simp
            with_reducible refine (AV.out _).mono ?_
            rintro e t19 ⟨rfl, hb⟩
            have Bt19 := Lib.hid (bstep Bt18.out Bt18.out.size hb)
            have Gt194 := Lib.hid (vB_grow Gt184.out hb)
            clear hb
            refine hK.out _ _ ⟨⟨_, Bt19.out⟩, rfl⟩ (fun hS => ?_)
            clear hK K
            try simp only [Act.put, List.setIfInBounds_toArray, List.set_cons_zero, List.set_cons_succ, List.getElem_toArray, List.getElem_cons_zero, List.getElem_cons_succ]
            refine wpAnyH_ready (rs := [5]) (by kernel_rfl) (by simp) ?_
            refine AllReadyH.cons rfl (fun K hK => ?_) ?_
            · skip
              go_simp
              refine hK.out _ _ ⟨⟨_, Bt19.out.alloc Bt19.out.size _⟩, rfl⟩ (fun hS => ?_)
              clear hK K hS
              try simp only [List.setIfInBounds_toArray, List.set_cons_zero, List.set_cons_succ]
              obtain ⟨t20, ht⟩ : ∃ t, t = t19.alloc (vB 99 ⟨0, 0, 0, 0, 0, 0, 0, 0⟩) := ⟨_, rfl⟩
              change wpAnyH _ _ _ _ _ _ _ _ (t19.alloc (vB 99 ⟨0, 0, 0, 0, 0, 0, 0, 0⟩))
              rw [← ht]
              have Bt20 := Lib.hid (show Below X.heap.size X t20 by rw [ht]; exact Bt19.out.alloc Bt19.out.size _)
              have Gt204 := Lib.hid (show t20.heap[Y.heap.size]? = some (vB 99 ⟨0, 0, 0, 0, 0, 0, 0, 0⟩) by rw [ht]; exact vB_alloc _ Gt194.out)
              have Gt205 := Lib.hid (show t20.heap[t19.heap.size]? = some (vB 99 ⟨0, 0, 0, 0, 0, 0, 0, 0⟩) by rw [ht]; exact new_at rfl)
              have hne : Y.heap.size ≠ t19.heap.size := Nat.ne_of_lt (vB_lt Gt194.out)
              have hge5 : X.heap.size ≤ t19.heap.size := Bt19.out.size
              clear ht
              obtain ⟨g1, e1⟩ : ∃ g, g = Y.heap.size := ⟨_, rfl⟩
              obtain ⟨g2, e2⟩ : ∃ g, g = t19.heap.size := ⟨_, rfl⟩
              rw [← e1, ← e2]
              exact hT g1 g2 t20 ⟨Bt20.out, by rw [e1]; exact Gt204.out, by rw [e2]; exact Gt205.out, by rw [e1]; exact hge4, by rw [e2]; exact hge5, by rw [e1, e2]; omega⟩
            exact AllReadyH.nil
          refine AllReadyH.cons rfl (fun K hK => ?_) ?_
          · skip
            go_simp
            refine hK.out _ _ ⟨⟨_, Bt18.out.alloc Bt18.out.size _⟩, rfl⟩ (fun hS => ?_)
            clear hK K hS
            try simp only [List.setIfInBounds_toArray, List.set_cons_zero, List.set_cons_succ]
            obtain ⟨t21, ht⟩ : ∃ t, t = t18.alloc (vB 99 ⟨0, 0, 0, 0, 0, 0, 0, 0⟩) := ⟨_, rfl⟩
            change wpAnyH _ _ _ _ _ _ _ _ (t18.alloc (vB 99 ⟨0, 0, 0, 0, 0, 0, 0, 0⟩))
            rw [← ht]
            have Bt21 := Lib.hid (show Below X.heap.size X t21 by rw [ht]; exact Bt18.out.alloc Bt18.out.size _)
            have Gt214 := Lib.hid (show t21.heap[Y.heap.size]? = some (vB 99 ⟨0, 0, 0, 0, 0, 0, 0, 0⟩) by rw [ht]; exact vB_alloc _ Gt184.out)
            have Gt215 := Lib.hid (show t21.heap[t18.heap.size]? = some (vB 99 ⟨0, 0, 0, 0, 0, 0, 0, 0⟩) by rw [ht]; exact new_at rfl)
            have hne : Y.heap.size ≠ t18.heap.size := Nat.ne_of_lt (vB_lt Gt184.out)
            have hge5 : X.heap.size ≤ t18.heap.size := Bt18.out.size
            clear ht
            refine wpAnyH_ready (rs := [3]) (by kernel_rfl) (by simp) ?_
            refine AllReadyH.cons rfl (fun K hK => ?_) ?_
            · skip
              go_simp
              with_reducible refine (AV.out _).mono ?_
              rintro e t22 ⟨rfl, hb⟩
              have Bt22 := Lib.hid (bstep Bt21.out Bt21.out.size hb)
              have Gt224 := Lib.hid (vB_grow Gt214.out hb)
              have Gt225 := Lib.hid (vB_grow Gt215.out hb)
              clear hb
              refine hK.out _ _ ⟨⟨_, Bt22.out⟩, rfl⟩ (fun hS => ?_)
              clear hK K
              try simp only [Act.put, List.setIfInBounds_toArray, List.set_cons_zero, List.set_cons_succ, List.getElem_toArray, List.getElem_cons_zero, List.getElem_cons_succ]
              obtain ⟨g1, e1⟩ : ∃ g, g = Y.heap.size := ⟨_, rfl⟩
              obtain ⟨g2, e2⟩ : ∃ g, g = t18.heap.size := ⟨_, rfl⟩
              rw [← e1, ← e2]
              exact hT g1 g2 t22 ⟨Bt22.out, by rw [e1]; exact Gt224.out, by rw [e2]; exact Gt225.out, by rw [e1]; exact hge4, by rw [e2]; exact hge5, by rw [e1, e2]; omega⟩
            exact AllReadyH.nil
          exact AllReadyH.nil
        refine AllReadyH.cons rfl (fun K hK => ?_) ?_
        · skip
          go_simp
          refine hK.out _ _ ⟨⟨_, Bt17.out.alloc Bt17.out.size _⟩, rfl⟩ (fun hS => ?_)
          clear hK K hS
          try simp only [List.setIfInBounds_toArray, List.set_cons_zero, List.set_cons_succ]
          obtain ⟨t23, ht⟩ : ∃ t, t = t17.alloc (vB 99 ⟨0, 0, 0, 0, 0, 0, 0, 0⟩) := ⟨_, rfl⟩
          change wpAnyH _ _ _ _ _ _ _ _ (t17.alloc (vB 99 ⟨0, 0, 0, 0, 0, 0, 0, 0⟩))
          rw [← ht]
          have Bt23 := Lib.hid (show Below X.heap.size X t23 by rw [ht]; exact Bt17.out.alloc Bt17.out.size _)
          have Gt234 := Lib.hid (show t23.heap[Y.heap.size]? = some (vB 99 ⟨0, 0, 0, 0, 0, 0, 0, 0⟩) by rw [ht]; exact vB_alloc _ Gt174.out)
          have Gt235 := Lib.hid (show t23.heap[t17.heap.size]? = some (vB 99 ⟨0, 0, 0, 0, 0, 0, 0, 0⟩) by rw [ht]; exact new_at rfl)
          have hne : Y.heap.size ≠ t17.heap.size := Nat.ne_of_lt (vB_lt Gt174.out)
          have hge5 : X.heap.size ≤ t17.heap.size := Bt17.out.size
          clear ht
          refine wpAnyH_ready (rs := [1]) (by kernel_rfl) (by simp) ?_
          refine AllReadyH.cons rfl (fun K hK => ?_) ?_
          · skip
            go_simp
            with_reducible refine (AU.out _).mono ?_
            rintro e t24 ⟨rfl, hb⟩
            have Bt24 := Lib.hid (bstep Bt23.out Bt23.out.size hb)
            have Gt244 := Lib.hid (vB_grow Gt234.out hb)
            have Gt245 := Lib.hid (vB_grow Gt235.out hb)
            clear hb
            refine hK.out _ _ ⟨⟨_, Bt24.out⟩, rfl⟩ (fun hS => ?_)
            clear hK K
            try simp only [Act.put, List.setIfInBounds_toArray, List.set_cons_zero, List.set_cons_succ, List.getElem_toArray, List.getElem_cons_zero, List.getElem_cons_succ]
            refine wpAnyH_ready (rs := [3]) (by kernel_rfl) (by simp) ?_
            refine AllReadyH.cons rfl (fun K hK => ?_) ?_
            · skip
              go_simp
              with_reducible refine (AV.out _).mono ?_
              rintro e t25 ⟨rfl, hb⟩
              have Bt25 := Lib.hid (bstep Bt24.out Bt24.out.size hb)
              have Gt254 := Lib.hid (vB_grow Gt244.out hb)
              have Gt255 := Lib.hid (vB_grow Gt245.out hb)
              clear hb
              refine hK.out _ _ ⟨⟨_, Bt25.out⟩, rfl⟩ (fun hS => ?_)
              clear hK K
              try simp only [Act.put, List.setIfInBounds_toArray, List.set_cons_zero, List.set_cons_succ, List.getElem_toArray, List.getElem_cons_zero, List.getElem_cons_succ]
              obtain ⟨g1, e1⟩ : ∃ g, g = Y.heap.size := ⟨_, rfl⟩
              obtain ⟨g2, e2⟩ : ∃ g, g = t17.heap.size := ⟨_, rfl⟩
              rw [← e1, ← e2]
              exact hT g1 g2 t25 ⟨Bt25.out, by rw [e1]; exact Gt254.out, by rw [e2]; exact Gt255.out, by rw [e1]; exact hge4, by rw [e2]; exact hge5, by rw [e1, e2]; omega⟩
            exact AllReadyH.nil
          exact AllReadyH.nil
        exact AllReadyH.nil
      refine AllReadyH.cons rfl (fun K hK => ?_) ?_
      · skip
        go_simp
        refine hK.out _ _ ⟨⟨_, BY.out.alloc BY.out.size _⟩, rfl⟩ (fun hS => ?_)
        clear hK K hS
        try simp only [List.setIfInBounds_toArray, List.set_cons_zero, List.set_cons_succ]
        obtain ⟨t26, ht⟩ : ∃ t, t = Y.alloc (vB 99 ⟨0, 0, 0, 0, 0, 0, 0, 0⟩) := ⟨_, rfl⟩
        change wpAnyH _ _ _ _ _ _ _ _ (Y.alloc (vB 99 ⟨0, 0, 0, 0, 0, 0, 0, 0⟩))
        rw [← ht]
        have Bt26 := Lib.hid (show Below X.heap.size X t26 by rw [ht]; exact BY.out.alloc BY.out.size _)
        have Gt265 := Lib.hid (show t26.heap[Y.heap.size]? = some (vB 99 ⟨0, 0, 0, 0, 0, 0, 0, 0⟩) by rw [ht]; exact new_at rfl)
        have hge5 : X.heap.size ≤ Y.heap.size := BY.out.size
        clear ht
        refine wpAnyH_ready (rs := [1, 4]) (by kernel_rfl) (by simp) ?_
        refine AllReadyH.cons rfl (fun K hK => ?_) ?_
        · skip
          go_simp
          with_reducible refine (AU.out _).mono ?_
          rintro e t27 ⟨rfl, hb⟩
          have Bt27 := Lib.hid (bstep Bt26.out Bt26.out.size hb)
          have Gt275 := Lib.hid (vB_grow Gt265.out hb)
          clear hb
          refine hK.out _ _ ⟨⟨_, Bt27.out⟩, rfl⟩ (fun hS => ?_)
          clear hK K
          try simp only [Act.put, List.setIfInBounds_toArray, List.set_cons_zero, List.set_cons_succ, List.getElem_toArray, List.getElem_cons_zero, List.getElem_cons_succ]
          refine wpAnyH_ready (rs := [3, 4]) (by kernel_rfl) (by simp) ?_
          refine AllReadyH.cons rfl (fun K hK => ?_) ?_
          · skip
            go_simp
            with_reducible refine (AV.out _).mono ?_
            rintro e t28 ⟨rfl, hb⟩
            have Bt28 := Lib.hid (bstep Bt27.out Bt27.out.size hb)
            have Gt285 := Lib.hid (vB_grow Gt275.out hb)
            clear hb
            refine hK.out _ _ ⟨⟨_, Bt28.out⟩, rfl⟩ (fun hS => ?_)
            clear hK K
            try simp only [Act.put, List.setIfInBounds_toArray, List.set_cons_zero, List.set_cons_succ, List.getElem_toArray, List.getElem_cons_zero, List.getElem_cons_succ]
            refine wpAnyH_ready (rs := [4]) (by kernel_rfl) (by simp) ?_
            refine AllReadyH.cons rfl (fun K hK => ?_) ?_
            · skip
              go_simp
              refine hK.out _ _ ⟨⟨_, Bt28.out.alloc Bt28.out.size _⟩, rfl⟩ (fun hS => ?_)
              clear hK K hS
              try simp only [List.setIfInBounds_toArray, List.set_cons_zero, List.set_cons_succ]
              obtain ⟨t29, ht⟩ : ∃ t, t = t28.alloc (vB 99 ⟨0, 0, 0, 0, 0, 0, 0, 0⟩) := ⟨_, rfl⟩
              change wpAnyH _ _ _ _ _ _ _ _ (t28.alloc (vB 99 ⟨0, 0, 0, 0, 0, 0, 0, 0⟩))
              rw [← ht]
              have Bt29 := Lib.hid (show Below X.heap.size X t29 by rw [ht]; exact Bt28.out.alloc Bt28.out.size _)
              have Gt295 := Lib.hid (show t29.heap[Y.heap.size]? = some (vB 99 ⟨0, 0, 0, 0, 0, 0, 0, 0⟩) by rw [ht]; exact vB_alloc _ Gt285.out)
              have Gt294 := Lib.hid (show t29.heap[t28.heap.size]? = some (vB 99 ⟨0, 0, 0, 0, 0, 0, 0, 0⟩) by rw [ht]; exact new_at rfl)
              have hne : Y.heap.size ≠ t28.heap.size := Nat.ne_of_lt (vB_lt Gt285.out)
              have hge4 : X.heap.size ≤ t28.heap.size := Bt28.out.size
              clear ht
              obtain ⟨g1, e1⟩ : ∃ g, g = t28.heap.size := ⟨_, rfl⟩
              obtain ⟨g2, e2⟩ : ∃ g, g = Y.heap.size := ⟨_, rfl⟩
              rw [← e1, ← e2]
              exact hT g1 g2 t29 ⟨Bt29.out, by rw [e1]; exact Gt294.out, by rw [e2]; exact Gt295.out, by rw [e1]; exact hge4, by rw [e2]; exact hge5, by rw [e1, e2]; omega⟩
            exact AllReadyH.nil
          refine AllReadyH.cons rfl (fun K hK => ?_) ?_
          · skip
            go_simp
            refine hK.out _ _ ⟨⟨_, Bt27.out.alloc Bt27.out.size _⟩, rfl⟩ (fun hS => ?_)
            clear hK K hS
            try simp only [List.setIfInBounds_toArray, List.set_cons_zero, List.set_cons_succ]
            obtain ⟨t30, ht⟩ : ∃ t, t = t27.alloc (vB 99 ⟨0, 0, 0, 0, 0, 0, 0, 0⟩) := ⟨_, rfl⟩
            change wpAnyH _ _ _ _ _ _ _ _ (t27.alloc (vB 99 ⟨0, 0, 0, 0, 0, 0, 0, 0⟩))
            rw [← ht]
            have Bt30 := Lib.hid (show Below X.heap.size X t30 by rw [ht]; exact Bt27.out.alloc Bt27.out.size _)
            have Gt305 := Lib.hid (show t30.heap[Y.heap.size]? = some (vB 99 ⟨0, 0, 0, 0, 0, 0, 0, 0⟩) by rw [ht]; exact vB_alloc _ Gt275.out)
            have Gt304 := Lib.hid (show t30.heap[t27.heap.size]? = some (vB 99 ⟨0, 0, 0, 0, 0, 0, 0, 0⟩) by rw [ht]; exact new_at rfl)
            have hne : Y.heap.size ≠ t27.heap.size := Nat.ne_of_lt (vB_lt Gt275.out)
            have hge4 : X.heap.size ≤ t27.heap.size := Bt27.out.size
            clear ht
            refine wpAnyH_ready (rs := [3]) (by kernel_rfl) (by simp) ?_
            refine AllReadyH.cons rfl (fun K hK => ?_) ?_
            · skip
              go_simp
              with_reducible refine (AV.out _).mono ?_
              rintro e t31 ⟨rfl, hb⟩
              have Bt31 := Lib.hid (bstep Bt30.out Bt30.out.size hb)
              have Gt315 := Lib.hid (vB_grow Gt305.out hb)
              have Gt314 := Lib.hid (vB_grow Gt304.out hb)
              clear hb
              refine hK.out _ _ ⟨⟨_, Bt31.out⟩, rfl⟩ (fun hS => ?_)
              clear hK K
              try simp only [Act.put, List.setIfInBounds_toArray, List.set_cons_zero, List.set_cons_succ, List.getElem_toArray, List.getElem_cons_zero, List.getElem_cons_succ]
              obtain ⟨g1, e1⟩ : ∃ g, g = t27.heap.size := ⟨_, rfl⟩
              obtain ⟨g2, e2⟩ : ∃ g, g = Y.heap.size := ⟨_, rfl⟩
              rw [← e1, ← e2]
              exact hT g1 g2 t31 ⟨Bt31.out, by rw [e1]; exact Gt314.out, by rw [e2]; exact Gt315.out, by rw [e1]; exact hge4, by rw [e2]; exact hge5, by rw [e1, e2]; omega⟩
            exact AllReadyH.nil
          exact AllReadyH.nil
        refine AllReadyH.cons rfl (fun K hK => ?_) ?_
        · skip
          go_simp
          refine hK.out _ _ ⟨⟨_, Bt26.out.alloc Bt26.out.size _⟩, rfl⟩ (fun hS => ?_)
          clear hK K hS
          try simp only [List.setIfInBounds_toArray, List.set_cons_zero, List.set_cons_succ]
          obtain ⟨t32, ht⟩ : ∃ t, t = t26.alloc (vB 99 ⟨0, 0, 0, 0, 0, 0, 0, 0⟩) := ⟨_, rfl⟩
          change wpAnyH _ _ _ _ _ _ _ _ (t26.alloc (vB 99 ⟨0, 0, 0, 0, 0, 0, 0, 0⟩))
          rw [← ht]
          have Bt32 := Lib.hid (show Below X.heap.size X t32 by rw [ht]; exact Bt26.out.alloc Bt26.out.size _)
          have Gt325 := Lib.hid (show t32.heap[Y.heap.size]? = some (vB 99 ⟨0, 0, 0, 0, 0, 0, 0, 0⟩) by rw [ht]; exact vB_alloc _ Gt265.out)
          have Gt324 := Lib.hid (show t32.heap[t26.heap.size]? = some (vB 99 ⟨0, 0, 0, 0, 0, 0, 0, 0⟩) by rw [ht]; exact new_at rfl)
          have hne : Y.heap.size ≠ t26.heap.size := Nat.ne_of_lt (vB_lt Gt265.out)
          have hge4 : X.heap.size ≤ t26.heap.size := Bt26.out.size
          clear ht
          refine wpAnyH_ready (rs := [1]) (by kernel_rfl) (by simp) ?_
          refine AllReadyH.cons rfl (fun K hK => ?_) ?_
          · skip
            go_simp
            with_reducible refine (AU.out _).mono ?_
            rintro e t33 ⟨rfl, hb⟩
            have Bt33 := Lib.hid (bstep Bt32.out Bt32.out.size hb)
            have Gt335 := Lib.hid (vB_grow Gt325.out hb)
            have Gt334 := Lib.hid (vB_grow Gt324.out hb)
            clear hb
            refine hK.out _ _ ⟨⟨_, Bt33.out⟩, rfl⟩ (fun hS => ?_)
            clear hK K
            try simp only [Act.put, List.setIfInBounds_toArray, List.set_cons_zero, List.set_cons_succ, List.getElem_toArray, List.getElem_cons_zero, List.getElem_cons_succ]
            refine wpAnyH_ready (rs := [3]) (by kernel_rfl) (by simp) ?_
            refine AllReadyH.cons rfl (fun K hK => ?_) ?_
            · skip
              go_simp
              with_reducible refine (AV.out _).mono ?_
              rintro e t34 ⟨rfl, hb⟩
              have Bt34 := Lib.hid (bstep Bt33.out Bt33.out.size hb)
              have Gt345 := Lib.hid (vB_grow Gt335.out hb)
              have Gt344 := Lib.hid (vB_grow Gt334.out hb)
              clear hb
              refine hK.out _ _ ⟨⟨_, Bt34.out⟩, rfl⟩ (fun hS => ?_)
              clear hK K
              try simp only [Act.put, List.setIfInBounds_toArray, List.set_cons_zero, List.set_cons_succ, List.getElem_toArray, List.getElem_cons_zero, List.getElem_cons_succ]
              obtain ⟨g1, e1⟩ : ∃ g, g = t26.heap.size := ⟨_, rfl⟩
              obtain ⟨g2, e2⟩ : ∃ g, g = Y.heap.size := ⟨_, rfl⟩
              rw [← e1, ← e2]
              exact hT g1 g2 t34 ⟨Bt34.out, by rw [e1]; exact Gt344.out, by rw [e2]; exact Gt345.out, by rw [e1]; exact hge4, by rw [e2]; exact hge5, by rw [e1, e2]; omega⟩
            exact AllReadyH.nil
          exact AllReadyH.nil
        exact AllReadyH.nil
      exact AllReadyH.nil
    · rintro g1 g2 t ⟨B, G1, G2, l1, l2, ne⟩
      have HB := Lib.hid B
      have HG1 := Lib.hid G1
      have HG2 := Lib.hid G2
      clear B G1 G2
      obtain ⟨c0, c1, c2, c3, c4, c5, c6, c7⟩ := vB_cell HG1.out
      obtain ⟨f0, f1, f2, f3, f4, f5, f6, f7⟩ := vB_free HG1.out
      refine wpAnyH_ready (rs := [6]) (by kernel_rfl) (by simp) ?_
      refine AllReadyH.cons rfl (fun K hK => ?_) AllReadyH.nil
      go_simp
      refine hK.out _ _ ⟨⟨_, set8_below u HB.out l1⟩, rfl⟩ (fun hS => ?_)
      clear hK K hS c0 c1 c2 c3 c4 c5 c6 c7 f0 f1 f2 f3 f4 f5 f6 f7
      obtain ⟨s, hs⟩ : ∃ s, s = set8 t g1 u := ⟨_, rfl⟩
      change wpAnyH _ _ _ _ _ _ _ _ (set8 t g1 u)
      rw [← hs]
      have KB := Lib.hid (show Below X.heap.size X s by rw [hs]; exact set8_below u HB.out l1)
      have KG1 := Lib.hid (show s.heap[g1]? = some (vB 99 u) by rw [hs]; exact set8_same u HG1.out)
      have KG2 := Lib.hid (show s.heap[g2]? = some (vB 99 ⟨0, 0, 0, 0, 0, 0, 0, 0⟩) by rw [hs]; exact set8_other u HG2.out ne)
      clear hs HB HG1 HG2
      obtain ⟨c0, c1, c2, c3, c4, c5, c6, c7⟩ := vB_cell KG2.out
      obtain ⟨f0, f1, f2, f3, f4, f5, f6, f7⟩ := vB_free KG2.out
      try simp only [List.setIfInBounds_toArray, List.set_cons_zero, List.set_cons_succ]
      refine wpAnyH_ready (rs := [7]) (by kernel_rfl) (by simp) ?_
      refine AllReadyH.cons rfl (fun K hK => ?_) AllReadyH.nil
      go_simp
      refine hK.out _ _ ⟨⟨_, set8_below v KB.out l2⟩, rfl⟩ (fun hS => ?_)
      clear hK K hS c0 c1 c2 c3 c4 c5 c6 c7 f0 f1 f2 f3 f4 f5 f6 f7
      obtain ⟨r, hr⟩ : ∃ r, r = set8 s g2 v := ⟨_, rfl⟩
      change wpAnyH _ _ _ _ _ _ _ _ (set8 s g2 v)
      rw [← hr]
      have JB := Lib.hid (show Below X.heap.size X r by rw [hr]; exact set8_below v KB.out l2)
      have JG1 := Lib.hid (show r.heap[g1]? = some (vB 99 u) by rw [hr]; exact set8_other v KG1.out (Ne.symm ne))
      have JG2 := Lib.hid (show r.heap[g2]? = some (vB 99 v) by rw [hr]; exact set8_same v KG2.out)
      clear hr KB KG1 KG2
      refine wpAnyH_done (by kernel_rfl) ?_ _
      go_wp2_with fail
      go_meet
      exact ⟨g1, g2, rfl, rfl, l1, l2, ne, JB.out, JG1.out, JG2.out⟩
  case rest =>
    obtain ⟨g1, g2, rfl, rfl, l1, l2, ne, JB, JG1, JG2⟩ := hcut
    have HJB := Lib.hid JB
    have HJ1 := Lib.hid JG1
    have HJ2 := Lib.hid JG2
    have z1 := vB_lt JG1
    have z2 := vB_lt JG2
    clear JB JG1 JG2
    go_wp2
    go_loopw [33] (fun i wr => ∃ j : Nat, j ≤ 8 ∧ i = .int .i64 j ∧ Below X.heap.size X wr ∧ wr.heap[g1]? = some (vB 99 u) ∧ wr.heap[g2]? = some (vB 99 v) ∧ wr.heap[wc.heap.size]? = some (vB 99 (headV j R)))
      (fun i _ => 8 - (intOf i).toNat)
    case atStart => exact ⟨0, by omega, rfl, HJB.out.alloc HJB.out.size _, vB_alloc _ HJ1.out, vB_alloc _ HJ2.out, new_at rfl⟩
    case round =>
      obtain ⟨j, hj, rfl, hbel, q1, q2, q3⟩ := hrel
      have HBE := Lib.hid hbel
      have H1 := Lib.hid q1
      have H2 := Lib.hid q2
      have H3 := Lib.hid q3
      have hz := HJB.out.size
      clear hbel q1 q2 q3
      rcases (show j = 0 ∨ j = 1 ∨ j = 2 ∨ j = 3 ∨ j = 4 ∨ j = 5 ∨ j = 6 ∨ j = 7 ∨ j = 8 by omega) with rfl | rfl | rfl | rfl | rfl | rfl | rfl | rfl | rfl
      · have gu : ∀ x : Grow wr, x.w.cell? ⟨g1, 0, none⟩ = some (.int .i64 u.x) := fun x => x.cell ((vB_cell H1.out).1)
        have gv : ∀ x : Grow wr, x.w.cell? ⟨g2, 0, none⟩ = some (.int .i64 v.x) := fun x => x.cell ((vB_cell H2.out).1)
        obtain ⟨n, hn⟩ : ∃ n, v.x - u.x = n := ⟨_, rfl⟩
        obtain ⟨wn, MD, wr'⟩ := step_any hn (show bt D K u.x v.x = R.x from congrArg V.x HRR.out) HU.out.x HV.out.x h0 bD.2 k1 k2
        have HMD := Lib.hid MD
        clear hn MD
        obtain ⟨t, ht⟩ : ∃ t, t = R.x - u.x := ⟨_, rfl⟩
        rw [← ht] at wr' HMD
        clear ht
        go_wp2
        have ne1 := Grow.ne wr
        refine wp_region_grow (by kernel_rfl) (by kernel_rfl) ?_
        repeat (go_big_quiet_step ((go_at_call 57; with_reducible exact Grow.calls (HMD.out _))))
        refine wpQuiet_nil ?_
        rintro _ ⟨x, rfl⟩
        have BX1 := Lib.hid (bstep HBE.out HBE.out.size x.below)
        have L1 := Lib.hid (vB_grow H1.out x.below)
        have L2 := Lib.hid (vB_grow H2.out x.below)
        have L3 := Lib.hid (vB_grow H3.out x.below)
        generalize x.w = Y at *
        clear gu gv ne1 x HBE H1 H2 H3 HMD
        have c1 : Y.cell? ⟨g1, 0, none⟩ = some (.int .i64 u.x) := (vB_cell L1.out).1
        have c3 : Y.cell? ⟨wc.heap.size, 0, none⟩ = some (.int .i64 0) := (vB_cell L3.out).1
        have f3 : Y.frozen? ⟨wc.heap.size, 0, none⟩ = false := (vB_free L3.out).1
        go_wp2
        go_roundw
        case rel => exact ⟨1, by omega, by go_num, BX1.out.setCell (by simpa using hz) _, vB_other _ L1.out (by omega), vB_other _ L2.out (by omega), vB_set0 _ L3.out⟩
        case measure => simp [intOf]
      · have gu : ∀ x : Grow wr, x.w.cell? ⟨g1, 1, none⟩ = some (.int .i64 u.y) := fun x => x.cell ((vB_cell H1.out).2.1)
        have gv : ∀ x : Grow wr, x.w.cell? ⟨g2, 1, none⟩ = some (.int .i64 v.y) := fun x => x.cell ((vB_cell H2.out).2.1)
        obtain ⟨n, hn⟩ : ∃ n, v.y - u.y = n := ⟨_, rfl⟩
        obtain ⟨wn, MD, wr'⟩ := step_any hn (show bt D K u.y v.y = R.y from congrArg V.y HRR.out) HU.out.y HV.out.y h0 bD.2 k1 k2
        have HMD := Lib.hid MD
        clear hn MD
        obtain ⟨t, ht⟩ : ∃ t, t = R.y - u.y := ⟨_, rfl⟩
        rw [← ht] at wr' HMD
        clear ht
        go_wp2
        have ne1 := Grow.ne wr
        refine wp_region_grow (by kernel_rfl) (by kernel_rfl) ?_
        repeat (go_big_quiet_step ((go_at_call 57; with_reducible exact Grow.calls (HMD.out _))))
        refine wpQuiet_nil ?_
        rintro _ ⟨x, rfl⟩
        have BX1 := Lib.hid (bstep HBE.out HBE.out.size x.below)
        have L1 := Lib.hid (vB_grow H1.out x.below)
        have L2 := Lib.hid (vB_grow H2.out x.below)
        have L3 := Lib.hid (vB_grow H3.out x.below)
        generalize x.w = Y at *
        clear gu gv ne1 x HBE H1 H2 H3 HMD
        have c1 : Y.cell? ⟨g1, 1, none⟩ = some (.int .i64 u.y) := (vB_cell L1.out).2.1
        have c3 : Y.cell? ⟨wc.heap.size, 1, none⟩ = some (.int .i64 0) := (vB_cell L3.out).2.1
        have f3 : Y.frozen? ⟨wc.heap.size, 1, none⟩ = false := (vB_free L3.out).2.1
        go_wp2
        go_roundw
        case rel => exact ⟨2, by omega, by go_num, BX1.out.setCell (by simpa using hz) _, vB_other _ L1.out (by omega), vB_other _ L2.out (by omega), vB_set1 _ L3.out⟩
        case measure => simp [intOf]
      · have gu : ∀ x : Grow wr, x.w.cell? ⟨g1, 2, none⟩ = some (.int .i64 u.z) := fun x => x.cell ((vB_cell H1.out).2.2.1)
        have gv : ∀ x : Grow wr, x.w.cell? ⟨g2, 2, none⟩ = some (.int .i64 v.z) := fun x => x.cell ((vB_cell H2.out).2.2.1)
        obtain ⟨n, hn⟩ : ∃ n, v.z - u.z = n := ⟨_, rfl⟩
        obtain ⟨wn, MD, wr'⟩ := step_any hn (show bt D K u.z v.z = R.z from congrArg V.z HRR.out) HU.out.z HV.out.z h0 bD.2 k1 k2
        have HMD := Lib.hid MD
        clear hn MD
        obtain ⟨t, ht⟩ : ∃ t, t = R.z - u.z := ⟨_, rfl⟩
        rw [← ht] at wr' HMD
        clear ht
        go_wp2
        have ne1 := Grow.ne wr
        refine wp_region_grow (by kernel_rfl) (by kernel_rfl) ?_
        repeat (go_big_quiet_step ((go_at_call 57; with_reducible exact Grow.calls (HMD.out _))))
        refine wpQuiet_nil ?_
        rintro _ ⟨x, rfl⟩
        have BX1 := Lib.hid (bstep HBE.out HBE.out.size x.below)
        have L1 := Lib.hid (vB_grow H1.out x.below)
        have L2 := Lib.hid (vB_grow H2.out x.below)
        have L3 := Lib.hid (vB_grow H3.out x.below)
        generalize x.w = Y at *
        clear gu gv ne1 x HBE H1 H2 H3 HMD
        have c1 : Y.cell? ⟨g1, 2, none⟩ = some (.int .i64 u.z) := (vB_cell L1.out).2.2.1
        have c3 : Y.cell? ⟨wc.heap.size, 2, none⟩ = some (.int .i64 0) := (vB_cell L3.out).2.2.1
        have f3 : Y.frozen? ⟨wc.heap.size, 2, none⟩ = false := (vB_free L3.out).2.2.1
        go_wp2
        go_roundw
        case rel => exact ⟨3, by omega, by go_num, BX1.out.setCell (by simpa using hz) _, vB_other _ L1.out (by omega), vB_other _ L2.out (by omega), vB_set2 _ L3.out⟩
        case measure => simp [intOf]
      · have gu : ∀ x : Grow wr, x.w.cell? ⟨g1, 3, none⟩ = some (.int .i64 u.w) := fun x => x.cell ((vB_cell H1.out).2.2.2.1)
        have gv : ∀ x : Grow wr, x.w.cell? ⟨g2, 3, none⟩ = some (.int .i64 v.w) := fun x => x.cell ((vB_cell H2.out).2.2.2.1)
        obtain ⟨n, hn⟩ : ∃ n, v.w - u.w = n := ⟨_, rfl⟩
        obtain ⟨wn, MD, wr'⟩ := step_any hn (show bt D K u.w v.w = R.w from congrArg V.w HRR.out) HU.out.w HV.out.w h0 bD.2 k1 k2
        have HMD := Lib.hid MD
        clear hn MD
        obtain ⟨t, ht⟩ : ∃ t, t = R.w - u.w := ⟨_, rfl⟩
        rw [← ht] at wr' HMD
        clear ht
        go_wp2
        have ne1 := Grow.ne wr
        refine wp_region_grow (by kernel_rfl) (by kernel_rfl) ?_
        repeat (go_big_quiet_step ((go_at_call 57; with_reducible exact Grow.calls (HMD.out _))))
        refine wpQuiet_nil ?_
        rintro _ ⟨x, rfl⟩
        have BX1 := Lib.hid (bstep HBE.out HBE.out.size x.below)
        have L1 := Lib.hid (vB_grow H1.out x.below)
        have L2 := Lib.hid (vB_grow H2.out x.below)
        have L3 := Lib.hid (vB_grow H3.out x.below)
        generalize x.w = Y at *
        clear gu gv ne1 x HBE H1 H2 H3 HMD
        have c1 : Y.cell? ⟨g1, 3, none⟩ = some (.int .i64 u.w) := (vB_cell L1.out).2.2.2.1
        have c3 : Y.cell? ⟨wc.heap.size, 3, none⟩ = some (.int .i64 0) := (vB_cell L3.out).2.2.2.1
        have f3 : Y.frozen? ⟨wc.heap.size, 3, none⟩ = false := (vB_free L3.out).2.2.2.1
        go_wp2
        go_roundw
        case rel => exact ⟨4, by omega, by go_num, BX1.out.setCell (by simpa using hz) _, vB_other _ L1.out (by omega), vB_other _ L2.out (by omega), vB_set3 _ L3.out⟩
        case measure => simp [intOf]
      · have gu : ∀ x : Grow wr, x.w.cell? ⟨g1, 4, none⟩ = some (.int .i64 u.a) := fun x => x.cell ((vB_cell H1.out).2.2.2.2.1)
        have gv : ∀ x : Grow wr, x.w.cell? ⟨g2, 4, none⟩ = some (.int .i64 v.a) := fun x => x.cell ((vB_cell H2.out).2.2.2.2.1)
        obtain ⟨n, hn⟩ : ∃ n, v.a - u.a = n := ⟨_, rfl⟩
        obtain ⟨wn, MD, wr'⟩ := step_any hn (show bt D K u.a v.a = R.a from congrArg V.a HRR.out) HU.out.a HV.out.a h0 bD.2 k1 k2
        have HMD := Lib.hid MD
        clear hn MD
        obtain ⟨t, ht⟩ : ∃ t, t = R.a - u.a := ⟨_, rfl⟩
        rw [← ht] at wr' HMD
        clear ht
        go_wp2
        have ne1 := Grow.ne wr
        refine wp_region_grow (by kernel_rfl) (by kernel_rfl) ?_
        repeat (go_big_quiet_step ((go_at_call 57; with_reducible exact Grow.calls (HMD.out _))))
        refine wpQuiet_nil ?_
        rintro _ ⟨x, rfl⟩
        have BX1 := Lib.hid (bstep HBE.out HBE.out.size x.below)
        have L1 := Lib.hid (vB_grow H1.out x.below)
        have L2 := Lib.hid (vB_grow H2.out x.below)
        have L3 := Lib.hid (vB_grow H3.out x.below)
        generalize x.w = Y at *
        clear gu gv ne1 x HBE H1 H2 H3 HMD
        have c1 : Y.cell? ⟨g1, 4, none⟩ = some (.int .i64 u.a) := (vB_cell L1.out).2.2.2.2.1
        have c3 : Y.cell? ⟨wc.heap.size, 4, none⟩ = some (.int .i64 0) := (vB_cell L3.out).2.2.2.2.1
        have f3 : Y.frozen? ⟨wc.heap.size, 4, none⟩ = false := (vB_free L3.out).2.2.2.2.1
        go_wp2
        go_roundw
        case rel => exact ⟨5, by omega, by go_num, BX1.out.setCell (by simpa using hz) _, vB_other _ L1.out (by omega), vB_other _ L2.out (by omega), vB_set4 _ L3.out⟩
        case measure => simp [intOf]
      · have gu : ∀ x : Grow wr, x.w.cell? ⟨g1, 5, none⟩ = some (.int .i64 u.b) := fun x => x.cell ((vB_cell H1.out).2.2.2.2.2.1)
        have gv : ∀ x : Grow wr, x.w.cell? ⟨g2, 5, none⟩ = some (.int .i64 v.b) := fun x => x.cell ((vB_cell H2.out).2.2.2.2.2.1)
        obtain ⟨n, hn⟩ : ∃ n, v.b - u.b = n := ⟨_, rfl⟩
        obtain ⟨wn, MD, wr'⟩ := step_any hn (show bt D K u.b v.b = R.b from congrArg V.b HRR.out) HU.out.b HV.out.b h0 bD.2 k1 k2
        have HMD := Lib.hid MD
        clear hn MD
        obtain ⟨t, ht⟩ : ∃ t, t = R.b - u.b := ⟨_, rfl⟩
        rw [← ht] at wr' HMD
        clear ht
        go_wp2
        have ne1 := Grow.ne wr
        refine wp_region_grow (by kernel_rfl) (by kernel_rfl) ?_
        repeat (go_big_quiet_step ((go_at_call 57; with_reducible exact Grow.calls (HMD.out _))))
        refine wpQuiet_nil ?_
        rintro _ ⟨x, rfl⟩
        have BX1 := Lib.hid (bstep HBE.out HBE.out.size x.below)
        have L1 := Lib.hid (vB_grow H1.out x.below)
        have L2 := Lib.hid (vB_grow H2.out x.below)
        have L3 := Lib.hid (vB_grow H3.out x.below)
        generalize x.w = Y at *
        clear gu gv ne1 x HBE H1 H2 H3 HMD
        have c1 : Y.cell? ⟨g1, 5, none⟩ = some (.int .i64 u.b) := (vB_cell L1.out).2.2.2.2.2.1
        have c3 : Y.cell? ⟨wc.heap.size, 5, none⟩ = some (.int .i64 0) := (vB_cell L3.out).2.2.2.2.2.1
        have f3 : Y.frozen? ⟨wc.heap.size, 5, none⟩ = false := (vB_free L3.out).2.2.2.2.2.1
        go_wp2
        go_roundw
        case rel => exact ⟨6, by omega, by go_num, BX1.out.setCell (by simpa using hz) _, vB_other _ L1.out (by omega), vB_other _ L2.out (by omega), vB_set5 _ L3.out⟩
        case measure => simp [intOf]
      · have gu : ∀ x : Grow wr, x.w.cell? ⟨g1, 6, none⟩ = some (.int .i64 u.c) := fun x => x.cell ((vB_cell H1.out).2.2.2.2.2.2.1)
        have gv : ∀ x : Grow wr, x.w.cell? ⟨g2, 6, none⟩ = some (.int .i64 v.c) := fun x => x.cell ((vB_cell H2.out).2.2.2.2.2.2.1)
        obtain ⟨n, hn⟩ : ∃ n, v.c - u.c = n := ⟨_, rfl⟩
        obtain ⟨wn, MD, wr'⟩ := step_any hn (show bt D K u.c v.c = R.c from congrArg V.c HRR.out) HU.out.c HV.out.c h0 bD.2 k1 k2
        have HMD := Lib.hid MD
        clear hn MD
        obtain ⟨t, ht⟩ : ∃ t, t = R.c - u.c := ⟨_, rfl⟩
        rw [← ht] at wr' HMD
        clear ht
        go_wp2
        have ne1 := Grow.ne wr
        refine wp_region_grow (by kernel_rfl) (by kernel_rfl) ?_
        repeat (go_big_quiet_step ((go_at_call 57; with_reducible exact Grow.calls (HMD.out _))))
        refine wpQuiet_nil ?_
        rintro _ ⟨x, rfl⟩
        have BX1 := Lib.hid (bstep HBE.out HBE.out.size x.below)
        have L1 := Lib.hid (vB_grow H1.out x.below)
        have L2 := Lib.hid (vB_grow H2.out x.below)
        have L3 := Lib.hid (vB_grow H3.out x.below)
        generalize x.w = Y at *
        clear gu gv ne1 x HBE H1 H2 H3 HMD
        have c1 : Y.cell? ⟨g1, 6, none⟩ = some (.int .i64 u.c) := (vB_cell L1.out).2.2.2.2.2.2.1
        have c3 : Y.cell? ⟨wc.heap.size, 6, none⟩ = some (.int .i64 0) := (vB_cell L3.out).2.2.2.2.2.2.1
        have f3 : Y.frozen? ⟨wc.heap.size, 6, none⟩ = false := (vB_free L3.out).2.2.2.2.2.2.1
        go_wp2
        go_roundw
        case rel => exact ⟨7, by omega, by go_num, BX1.out.setCell (by simpa using hz) _, vB_other _ L1.out (by omega), vB_other _ L2.out (by omega), vB_set6 _ L3.out⟩
        case measure => simp [intOf]
      · have gu : ∀ x : Grow wr, x.w.cell? ⟨g1, 7, none⟩ = some (.int .i64 u.d) := fun x => x.cell ((vB_cell H1.out).2.2.2.2.2.2.2)
        have gv : ∀ x : Grow wr, x.w.cell? ⟨g2, 7, none⟩ = some (.int .i64 v.d) := fun x => x.cell ((vB_cell H2.out).2.2.2.2.2.2.2)
        obtain ⟨n, hn⟩ : ∃ n, v.d - u.d = n := ⟨_, rfl⟩
        obtain ⟨wn, MD, wr'⟩ := step_any hn (show bt D K u.d v.d = R.d from congrArg V.d HRR.out) HU.out.d HV.out.d h0 bD.2 k1 k2
        have HMD := Lib.hid MD
        clear hn MD
        obtain ⟨t, ht⟩ : ∃ t, t = R.d - u.d := ⟨_, rfl⟩
        rw [← ht] at wr' HMD
        clear ht
        go_wp2
        have ne1 := Grow.ne wr
        refine wp_region_grow (by kernel_rfl) (by kernel_rfl) ?_
        repeat (go_big_quiet_step ((go_at_call 57; with_reducible exact Grow.calls (HMD.out _))))
        refine wpQuiet_nil ?_
        rintro _ ⟨x, rfl⟩
        have BX1 := Lib.hid (bstep HBE.out HBE.out.size x.below)
        have L1 := Lib.hid (vB_grow H1.out x.below)
        have L2 := Lib.hid (vB_grow H2.out x.below)
        have L3 := Lib.hid (vB_grow H3.out x.below)
        generalize x.w = Y at *
        clear gu gv ne1 x HBE H1 H2 H3 HMD
        have c1 : Y.cell? ⟨g1, 7, none⟩ = some (.int .i64 u.d) := (vB_cell L1.out).2.2.2.2.2.2.2
        have c3 : Y.cell? ⟨wc.heap.size, 7, none⟩ = some (.int .i64 0) := (vB_cell L3.out).2.2.2.2.2.2.2
        have f3 : Y.frozen? ⟨wc.heap.size, 7, none⟩ = false := (vB_free L3.out).2.2.2.2.2.2.2
        go_wp2
        go_roundw
        case rel => exact ⟨8, by omega, by go_num, BX1.out.setCell (by simpa using hz) _, vB_other _ L1.out (by omega), vB_other _ L2.out (by omega), by have h := vB_set7 R.d L3.out; exact h⟩
        case measure => simp [intOf]
      · obtain ⟨c0, c1, c2, c3, c4, c5, c6, c7⟩ : (wr.cell? ⟨wc.heap.size, 0, none⟩ = some (.int .i64 R.x) ∧ wr.cell? ⟨wc.heap.size, 1, none⟩ = some (.int .i64 R.y) ∧ wr.cell? ⟨wc.heap.size, 2, none⟩ = some (.int .i64 R.z) ∧ wr.cell? ⟨wc.heap.size, 3, none⟩ = some (.int .i64 R.w) ∧ wr.cell? ⟨wc.heap.size, 4, none⟩ = some (.int .i64 R.a) ∧ wr.cell? ⟨wc.heap.size, 5, none⟩ = some (.int .i64 R.b) ∧ wr.cell? ⟨wc.heap.size, 6, none⟩ = some (.int .i64 R.c) ∧ wr.cell? ⟨wc.heap.size, 7, none⟩ = some (.int .i64 R.d)) := vB_cell H3.out
        have r0 : wr.heap[w.heap.size + 1 + 1]? = some (vB 25 ⟨0, 0, 0, 0, 0, 0, 0, 0⟩) := (HBE.out.block _ (vB_lt rx.out)).trans rx.out
        have HR0 := Lib.hid r0
        clear r0
        go_wp2_with fail
        with_reducible refine (TG.out _).mono ?_
        rintro e Y ⟨rfl, hb⟩
        have L0 := Lib.hid (vB_grow HR0.out hb)
        have BB := Lib.hid (bstep HBE.out HBE.out.size hb)
        clear hb c0 c1 c2 c3 c4 c5 c6 c7
        obtain ⟨d0, d1, d2, d3, d4, d5, d6, d7⟩ := vB_cell L0.out
        obtain ⟨f0, f1, f2, f3, f4, f5, f6, f7⟩ := vB_free L0.out
        go_wp2
        obtain ⟨r0, r1, r2, r3, r4, r5, r6, r7⟩ := vB_cell (set8_same R L0.out)
        simp only [set8] at r0 r1 r2 r3 r4 r5 r6 r7
        refine bodyPost_ret (v := .tuple #[.agg #[.int .i64 R.x, .int .i64 R.y, .int .i64 R.z, .int .i64 R.w, .int .i64 R.a, .int .i64 R.b, .int .i64 R.c, .int .i64 R.d], .bool true]) (by simp [results, Try.results59, go_sem, r0, r1, r2, r3, r4, r5, r6, r7]) rfl ⟨rfl, ?_⟩
        have k0 : Below w.heap.size w W := by rw [← HW.out]; exact (((Below.refl _ _).alloc (Nat.le_refl _) _).alloc (by simp) _).alloc (by simp; omega) _
        have k3 := bstep k0 k0.size BX.out
        exact set8_below R (bstep k3 k3.size BB.out) (by omega)

theorem between_yes (u v : V) (p : Int) (hu : u.sm) (hv : v.sm) (h0 : 0 ≤ dist p u) (h1 : dist p v < 0) (w : World) :
    Calls Try.prog 59 #[.agg #[.int .i64 u.x, .int .i64 u.y, .int .i64 u.z, .int .i64 u.w, .int .i64 u.a, .int .i64 u.b, .int .i64 u.c, .int .i64 u.d], .agg #[.int .i64 v.x, .int .i64 v.y, .int .i64 v.z, .int .i64 v.w, .int .i64 v.a, .int .i64 v.b, .int .i64 v.c, .int .i64 v.d], .int .i64 p] w fun e w' => e = .returned (.tuple #[.agg #[.int .i64 (btV (dist p u) (dist p u - dist p v) u v).x, .int .i64 (btV (dist p u) (dist p u - dist p v) u v).y, .int .i64 (btV (dist p u) (dist p u - dist p v) u v).z, .int .i64 (btV (dist p u) (dist p u - dist p v) u v).w, .int .i64 (btV (dist p u) (dist p u - dist p v) u v).a, .int .i64 (btV (dist p u) (dist p u - dist p v) u v).b, .int .i64 (btV (dist p u) (dist p u - dist p v) u v).c, .int .i64 (btV (dist p u) (dist p u - dist p v) u v).d], .bool true]) ∧ Below w.heap.size w w' :=
  between_core u v _ p _ _ _ hu hv rfl rfl rfl rfl h0 h1 w

set_option maxHeartbeats 1000000 in
theorem between_no (u v : V) (p : Int) (hu : u.sm) (hv : v.sm) (h : ¬ (0 ≤ dist p u ∧ dist p v < 0)) (w : World) :
    Calls Try.prog 59 #[.agg #[.int .i64 u.x, .int .i64 u.y, .int .i64 u.z, .int .i64 u.w, .int .i64 u.a, .int .i64 u.b, .int .i64 u.c, .int .i64 u.d], .agg #[.int .i64 v.x, .int .i64 v.y, .int .i64 v.z, .int .i64 v.w, .int .i64 v.a, .int .i64 v.b, .int .i64 v.c, .int .i64 v.d], .int .i64 p] w fun e w' => e = .returned (.tuple #[.agg #[.int .i64 0, .int .i64 0, .int .i64 0, .int .i64 0, .int .i64 0, .int .i64 0, .int .i64 0, .int .i64 0], .bool false]) ∧ Below w.heap.size w w' := by
  have DU := Lib.hid (dist_any p u hu)
  have DV := Lib.hid (dist_any p v hv)
  generalize dist p u = D at *
  generalize dist p v = E at *
  go_enter Try.func59, Try.ntmps59
  go_wp2
  generalize hW : ((w.alloc (Obj.cells #[.int .i64 u.x, .int .i64 u.y, .int .i64 u.z, .int .i64 u.w, .int .i64 u.a, .int .i64 u.b, .int .i64 u.c, .int .i64 u.d] 25)).alloc (Obj.cells #[.int .i64 v.x, .int .i64 v.y, .int .i64 v.z, .int .i64 v.w, .int .i64 v.a, .int .i64 v.b, .int .i64 v.c, .int .i64 v.d] 25)).alloc _ = W
  have U0 : W.heap[w.heap.size]? = some (vB 25 u) := by
    rw [← hW]; exact vB_alloc _ (vB_alloc _ (new_at rfl))
  have V0 : W.heap[w.heap.size + 1]? = some (vB 25 v) := by
    rw [← hW]; exact vB_alloc _ (new_at (by simp))
  have R0 : W.heap[w.heap.size + 1 + 1]? = some (vB 25 ⟨0, 0, 0, 0, 0, 0, 0, 0⟩) := by
    rw [← hW]; exact new_at (by simp)
  have HW := Lib.hid hW
  clear hW
  have gu := fun x : Grow W => vB_cell (vB_grow U0 x.below)
  have gv := fun x : Grow W => vB_cell (vB_grow V0 x.below)
  have HR0 := Lib.hid R0
  clear U0 V0 R0
  have ne := Grow.ne W
  refine wp_region_grow (by kernel_rfl) (by kernel_rfl) ?_
  repeat (go_big_quiet_step ((go_at_call 58; with_reducible first | exact Grow.calls (DU.out _) | exact Grow.calls (DV.out _))))
  refine wpQuiet_nil ?_
  rintro _ ⟨x, rfl⟩
  have BX := Lib.hid x.below
  have rx := Lib.hid (vB_grow HR0.out x.below)
  generalize x.w = X at *
  clear gu gv ne x HR0
  obtain ⟨d0, d1, d2, d3, d4, d5, d6, d7⟩ := vB_cell rx.out
  obtain ⟨f0, f1, f2, f3, f4, f5, f6, f7⟩ := vB_free rx.out
  go_wp2
  all_goals
    obtain ⟨r0, r1, r2, r3, r4, r5, r6, r7⟩ := vB_cell (set8_same ⟨0, 0, 0, 0, 0, 0, 0, 0⟩ rx.out)
    simp only [set8] at r0 r1 r2 r3 r4 r5 r6 r7
    refine bodyPost_ret (v := .tuple #[.agg #[.int .i64 0, .int .i64 0, .int .i64 0, .int .i64 0, .int .i64 0, .int .i64 0, .int .i64 0, .int .i64 0], .bool false]) (by simp [results, Try.results59, go_sem, r0, r1, r2, r3, r4, r5, r6, r7]) rfl ⟨rfl, ?_⟩
    have k0 : Below w.heap.size w W := by rw [← HW.out]; exact (((Below.refl _ _).alloc (Nat.le_refl _) _).alloc (by simp) _).alloc (by simp; omega) _
    exact set8_below ⟨0, 0, 0, 0, 0, 0, 0, 0⟩ (bstep k0 k0.size BX.out) (by omega)
end Go.Proofs.Ytfdlfjecgefgfaa.C
