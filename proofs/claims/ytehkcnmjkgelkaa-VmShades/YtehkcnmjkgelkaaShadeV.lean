/-
  The contracts of vm.Shade, and of the reference's Shade.
-/
import Derived.Test.YtehkcnmjkgelkaaShadeP
namespace Go.Proofs.Ytehkcnmjkgelkaa
open Go.RowKit C
attribute [local go_sem ↓] Go.wp_at_zero Go.wp_at_succ

/-- A number held within a byte. -/
def cl (n : Int) : Int := min (max n 0) 255
theorem cl_in (n : Int) : 0 ≤ cl n ∧ cl n ≤ 255 := by unfold cl; omega
def clC (L : List Int) : Col := ⟨cl (L.getD 0 0), cl (L.getD 1 0), cl (L.getD 2 0), cl (L.getD 3 0)⟩
theorem clC_ok (L : List Int) : (clC L).ok := ⟨cl_in _, cl_in _, cl_in _, cl_in _⟩
/-- What Shade tells: the colour, how many instructions were done, the error. -/
def shadeQ (l : List In) (t : Tx) (R : List Int) : Col × Nat × Int := if (runQ l t R).2.2 = 0 then (pre (clC (runQ l t R).1), (runQ l t R).2.1, 0) else (zC, 0, (runQ l t R).2.2)
def shadeV (x : Col × Nat × Int) : Value := .tuple #[.agg #[.int .u8 x.1.r, .int .u8 x.1.g, .int .u8 x.1.b, .int .u8 x.1.a], .int .i64 x.2.1, .int .i64 x.2.2]
theorem shadeQ_ok (l : List In) (t : Tx) (R : List Int) : (shadeQ l t R).1.ok ∧ (shadeQ l t R).1.right := by
  unfold shadeQ
  split
  · exact ⟨pre_ok (clC_ok _), pre_right (clC_ok _)⟩
  · exact ⟨zC_ok, (by decide : (0 : Int) ≤ 0), (by decide : (0 : Int) ≤ 0), (by decide : (0 : Int) ≤ 0)⟩
theorem part_any (i : Nat) (hi : i < 8) (g : Nat) (L : List Int) (hL : L.length = 8) (w : World) (hg : w.heap[g]? = some (RB L)) :
    Calls Try.prog 38 #[.int .i64 i, .pointer (some ⟨g, 0, none⟩)] w fun e w' => e = .returned (.int .u8 (cl (L.getD i 0))) ∧ w = w' := by
  have hc := RB_cell hg (k := i) (by omega)
  have hb := cl_in (L.getD i 0)
  obtain ⟨n, hn⟩ : ∃ n, L.getD i 0 = n := ⟨_, rfl⟩
  rw [hn] at hc hb ⊢
  have e : cl n = min (max n 0) 255 := rfl
  have g1 : IntKind.u8.wrap (min (max n 0) 255) = cl n := by rw [← e, IntKind.wrap_u8]; omega
  clear e hg hn
  generalize cl n = m at *
  go_enter Try.func38, Try.ntmps38
  go_wp2_with fail
  go_ret
  exact ⟨rfl, rfl⟩
theorem enters38 (args : Array Value) (w : World) : (callFunc 38 args).run Try.prog w = .ok (.enter 38 args) w := by go_simp
theorem rsat_any (n : Int) (w : World) : Calls Try.prog 41 #[.int .i64 n] w fun e w' => e = .returned (.int .u8 (cl n)) ∧ w = w' := by
  have hc : (n < 0 ∧ cl n = 0) ∨ (¬ n < 0 ∧ 255 < n ∧ cl n = 255) ∨ (¬ n < 0 ∧ ¬ 255 < n ∧ cl n = n) := by unfold cl; omega
  rcases hc with ⟨h, e⟩ | ⟨h, h2, e⟩ | ⟨h, h2, e⟩
  · rw [e]
    clear e
    go_enter Try.func41, Try.ntmps41
    go_wp2_with fail
    go_ret
    exact ⟨rfl, rfl⟩
  · rw [e]
    clear e
    go_enter Try.func41, Try.ntmps41
    go_wp2_with fail
    go_ret
    exact ⟨rfl, rfl⟩
  · rw [e]
    clear e
    go_enter Try.func41, Try.ntmps41
    go_wp2_with fail
    go_ret
    exact ⟨rfl, rfl⟩

set_option maxRecDepth 100000 in
set_option maxHeartbeats 4000000 in
theorem shade_any (l : List In) (A : Option Addr) (c : Nat) (t : Tx) (B : Option Addr) (k : Nat) (a0 a1 a2 a3 x y : Int) (hok : ∀ x ∈ l, x.ok) (ht : t.ok) (w : World) (he : Es EI w w.heap.size A l) (hp : Es EC w w.heap.size B t.px) :
    Calls Try.prog 15 #[.slice A l.length c, .agg #[.int .i64 t.w, .int .i64 t.h, .slice B t.px.length k], .agg #[.int .i64 a0, .int .i64 a1, .int .i64 a2, .int .i64 a3], .int .i64 x, .int .i64 y] w fun e w' => e = .returned (shadeV (shadeQ l t [a0, a1, a2, a3, x, y, 0, 0])) ∧ Below w.heap.size w w' := by
  have hmf := mk_func
  have en := enters38
  obtain ⟨l0, l1, l2, l3, l4, l5, l6, l7, s, e, hq⟩ := runQ_parts l t [a0, a1, a2, a3, x, y, 0, 0] rfl
  have hr := fun W (h1 : Es EI W W.heap.size A l) (h2 : Es EC W W.heap.size B t.px) => run_any l A c t B k a0 a1 a2 a3 x y 0 0 hok ht W h1 h2
  rw [hq] at hr
  simp only [runV, regC, List.map_cons, List.map_nil] at hr
  have HR := Lib.hid hr
  have hsq : shadeQ l t [a0, a1, a2, a3, x, y, 0, 0] = if e = 0 then (pre (clC [l0, l1, l2, l3, l4, l5, l6, l7]), s, 0) else (zC, 0, e) := by unfold shadeQ; rw [hq]
  obtain ⟨Q, hQ⟩ : ∃ Q, shadeQ l t [a0, a1, a2, a3, x, y, 0, 0] = Q := ⟨_, rfl⟩
  rw [hQ] at hsq ⊢
  have HSQ := Lib.hid hsq
  have HB3 := Lib.hid (show Below w.heap.size w (((w.alloc (.cells #[.int .i64 t.w, .int .i64 t.h, .slice B t.px.length k] 25)).alloc (.cells #[.int .i64 a0, .int .i64 a1, .int .i64 a2, .int .i64 a3] 36)).alloc (.cells #[.int .u8 0, .int .u8 0, .int .u8 0, .int .u8 0] 38)) from ((new_below _ _).alloc (by simp) _).alloc (by simp; omega) _)
  have X2 := Lib.hid (show (((w.alloc (.cells #[.int .i64 t.w, .int .i64 t.h, .slice B t.px.length k] 25)).alloc (.cells #[.int .i64 a0, .int .i64 a1, .int .i64 a2, .int .i64 a3] 36)).alloc (.cells #[.int .u8 0, .int .u8 0, .int .u8 0, .int .u8 0] 38)).heap[w.heap.size + 1 + 1]? = some (colB zC) from new_at3 w _ _ _)
  have HE := Lib.hid (he.up HB3.out)
  have HP := Lib.hid (hp.up HB3.out)
  clear hr hq hsq hQ he hp hok ht
  go_enter Try.func15, Try.ntmps15
  go_upto_region 2 with (go_at_call 11; (with_reducible refine (HR.out _ HE.out HP.out).mono ?_); rintro z T ⟨rfl, hb⟩; have BT := Lib.hid (bstep HB3.out HB3.out.size hb); have Z2 := Lib.hid ((hb.block _ (by simp <;> omega)).trans X2.out); clear hb)
  have B1 := Lib.hid (bstep BT.out BT.out.size (new_below T (RB [l0, l1, l2, l3, l4, l5, l6, l7])))
  have R1 := Lib.hid (new_at1 T (RB [l0, l1, l2, l3, l4, l5, l6, l7]))
  have Z1 := Lib.hid (new_keep (RB [l0, l1, l2, l3, l4, l5, l6, l7]) Z2.out)
  clear HR HE HP HB3 X2 BT Z2
  change Code.wp _ _ _ _ (T.alloc (RB [l0, l1, l2, l3, l4, l5, l6, l7]))
  generalize T.alloc (RB [l0, l1, l2, l3, l4, l5, l6, l7]) = U at *
  generalize T.heap.size = rb at *
  obtain ⟨c0, c1, c2, c3⟩ := colB_cell Z1.out
  obtain ⟨f0, f1, f2, f3⟩ := colB_free Z1.out
  rcases Classical.em (e = 0) with e0 | e0
  · subst e0
    have hsq := HSQ.out
    rw [if_pos rfl] at hsq
    have hcl := clC_ok [l0, l1, l2, l3, l4, l5, l6, l7]
    obtain ⟨cc, hcc⟩ : ∃ cc, clC [l0, l1, l2, l3, l4, l5, l6, l7] = cc := ⟨_, rfl⟩
    have h0 : cl l0 = cc.r := by rw [← hcc]; rfl
    have h1 : cl l1 = cc.g := by rw [← hcc]; rfl
    have h2 : cl l2 = cc.b := by rw [← hcc]; rfl
    have h3 : cl l3 = cc.a := by rw [← hcc]; rfl
    rw [hcc] at hcl hsq
    obtain rfl := hsq
    clear hcc HSQ
    have HP0 := Lib.hid (show Calls Try.prog 38 #[.int .i64 0, .pointer (some ⟨rb, 0, none⟩)] U fun e w' => e = .returned (.int .u8 cc.r) ∧ U = w' by rw [← h0]; exact part_any 0 (by decide) rb [l0, l1, l2, l3, l4, l5, l6, l7] rfl U R1.out)
    have HP1 := Lib.hid (show Calls Try.prog 38 #[.int .i64 1, .pointer (some ⟨rb, 0, none⟩)] U fun e w' => e = .returned (.int .u8 cc.g) ∧ U = w' by rw [← h1]; exact part_any 1 (by decide) rb [l0, l1, l2, l3, l4, l5, l6, l7] rfl U R1.out)
    have HP2 := Lib.hid (show Calls Try.prog 38 #[.int .i64 2, .pointer (some ⟨rb, 0, none⟩)] U fun e w' => e = .returned (.int .u8 cc.b) ∧ U = w' by rw [← h2]; exact part_any 2 (by decide) rb [l0, l1, l2, l3, l4, l5, l6, l7] rfl U R1.out)
    have HP3 := Lib.hid (show Calls Try.prog 38 #[.int .i64 3, .pointer (some ⟨rb, 0, none⟩)] U fun e w' => e = .returned (.int .u8 cc.a) ∧ U = w' by rw [← h3]; exact part_any 3 (by decide) rb [l0, l1, l2, l3, l4, l5, l6, l7] rfl U R1.out)
    have HPR := Lib.hid (pre_any cc hcl U)
    clear h0 h1 h2 h3 hcl c0 c1 c2 c3 f0 f1 f2 f3
    go_wp2_with (first
      | (go_at_call 38; (first | (with_reducible refine (HP0.out).mono ?_) | (with_reducible refine (HP1.out).mono ?_) | (with_reducible refine (HP2.out).mono ?_) | (with_reducible refine (HP3.out).mono ?_)); rintro z w1 ⟨rfl, rfl⟩)
      | (go_at_call 39; (with_reducible refine (HPR.out).mono ?_); rintro z W ⟨rfl, hb⟩; have BW := Lib.hid (bstep B1.out B1.out.size hb); have ZF := Lib.hid ((hb.block _ (Array.getElem?_eq_some_iff.1 Z1.out).1).trans Z1.out); obtain ⟨c0, c1, c2, c3⟩ := colB_cell ZF.out; obtain ⟨f0, f1, f2, f3⟩ := colB_free ZF.out; clear hb))
    have N1 := colB_set (pre cc) ZF.out
    have BF := Lib.hid (col_set W (w.heap.size + 1 + 1) w.heap.size (pre cc) BW.out (by omega))
    clear ZF BW
    clear c0 c1 c2 c3 f0 f1 f2 f3 HP0 HP1 HP2 HP3 HPR hmf en
    revert N1 BF
    generalize (((W.setCell ⟨w.heap.size + 1 + 1, 0, none⟩ (.int .u8 (pre cc).r)).setCell ⟨w.heap.size + 1 + 1, 1, none⟩ (.int .u8 (pre cc).g)).setCell ⟨w.heap.size + 1 + 1, 2, none⟩ (.int .u8 (pre cc).b)).setCell ⟨w.heap.size + 1 + 1, 3, none⟩ (.int .u8 (pre cc).a) = Y
    intro N1 BF
    obtain ⟨n0, n1, n2, n3⟩ := colB_cell N1
    refine bodyPost_ret (v := .tuple #[.agg #[.int .u8 (pre cc).r, .int .u8 (pre cc).g, .int .u8 (pre cc).b, .int .u8 (pre cc).a], .int .i64 s, .int .i64 0]) (by simp [results, Try.results15, go_sem, *]) rfl ⟨rfl, BF.out⟩
  · have hsq := HSQ.out
    rw [if_neg e0] at hsq
    obtain rfl := hsq
    clear HSQ
    have e1 : (e == 0) = false := by simpa using e0
    go_wp2_with fail
    have N1 := colB_set zC Z1.out
    have BF := Lib.hid (col_set U (w.heap.size + 1 + 1) w.heap.size zC B1.out (by omega))
    clear c0 c1 c2 c3 f0 f1 f2 f3 e0 e1 Z1 R1 B1 hmf en
    unfold zC at N1 BF
    revert N1 BF
    generalize (((U.setCell ⟨w.heap.size + 1 + 1, 0, none⟩ (.int .u8 0)).setCell ⟨w.heap.size + 1 + 1, 1, none⟩ (.int .u8 0)).setCell ⟨w.heap.size + 1 + 1, 2, none⟩ (.int .u8 0)).setCell ⟨w.heap.size + 1 + 1, 3, none⟩ (.int .u8 0) = Y
    intro N1 BF
    obtain ⟨n0, n1, n2, n3⟩ := colB_cell N1
    refine bodyPost_ret (v := .tuple #[.agg #[.int .u8 0, .int .u8 0, .int .u8 0, .int .u8 0], .int .i64 0, .int .i64 e]) (by simp [results, Try.results15, go_sem, *]) rfl ⟨rfl, BF.out⟩

set_option maxRecDepth 100000 in
set_option maxHeartbeats 4000000 in
theorem rshade_any (l : List In) (A : Option Addr) (c : Nat) (t : Tx) (B : Option Addr) (k : Nat) (a0 a1 a2 a3 x y : Int) (hok : ∀ x ∈ l, x.ok) (ht : t.ok) (hr8 : ∀ v ∈ [a0, a1, a2, a3, x, y, 0, 0], I64 v) (w : World) (he : Es EI w w.heap.size A l) (hp : Es EC w w.heap.size B t.px) :
    Calls Try.prog 16 #[.slice A l.length c, .agg #[.int .i64 t.w, .int .i64 t.h, .slice B t.px.length k], .agg #[.int .i64 a0, .int .i64 a1, .int .i64 a2, .int .i64 a3], .int .i64 x, .int .i64 y] w fun e w' => e = .returned (shadeV (shadeQ l t [a0, a1, a2, a3, x, y, 0, 0])) ∧ Below w.heap.size w w' := by
  obtain ⟨l0, l1, l2, l3, l4, l5, l6, l7, s, e, hq⟩ := runQ_parts l t [a0, a1, a2, a3, x, y, 0, 0] rfl
  have hr := fun W (h1 : Es EI W W.heap.size A l) (h2 : Es EC W W.heap.size B t.px) => rrun_any l A c t B k a0 a1 a2 a3 x y 0 0 hok ht hr8 W h1 h2
  rw [hq] at hr
  simp only [runV, regC, List.map_cons, List.map_nil] at hr
  have HR := Lib.hid hr
  have hsq : shadeQ l t [a0, a1, a2, a3, x, y, 0, 0] = if e = 0 then (pre (clC [l0, l1, l2, l3, l4, l5, l6, l7]), s, 0) else (zC, 0, e) := by unfold shadeQ; rw [hq]
  obtain ⟨Q, hQ⟩ : ∃ Q, shadeQ l t [a0, a1, a2, a3, x, y, 0, 0] = Q := ⟨_, rfl⟩
  rw [hQ] at hsq ⊢
  have HSQ := Lib.hid hsq
  have HB3 := Lib.hid (show Below w.heap.size w (((w.alloc (.cells #[.int .i64 t.w, .int .i64 t.h, .slice B t.px.length k] 25)).alloc (.cells #[.int .i64 a0, .int .i64 a1, .int .i64 a2, .int .i64 a3] 36)).alloc (.cells #[.int .u8 0, .int .u8 0, .int .u8 0, .int .u8 0] 38)) from ((new_below _ _).alloc (by simp) _).alloc (by simp; omega) _)
  have X2 := Lib.hid (show (((w.alloc (.cells #[.int .i64 t.w, .int .i64 t.h, .slice B t.px.length k] 25)).alloc (.cells #[.int .i64 a0, .int .i64 a1, .int .i64 a2, .int .i64 a3] 36)).alloc (.cells #[.int .u8 0, .int .u8 0, .int .u8 0, .int .u8 0] 38)).heap[w.heap.size + 1 + 1]? = some (colB zC) from new_at3 w _ _ _)
  have HE := Lib.hid (he.up HB3.out)
  have HP := Lib.hid (hp.up HB3.out)
  clear hr hq hsq hQ he hp hok ht
  go_enter Try.func16, Try.ntmps16
  go_upto_region 2 with (go_at_call 12; (with_reducible refine (HR.out _ HE.out HP.out).mono ?_); rintro z T ⟨rfl, hb⟩; have BT := Lib.hid (bstep HB3.out HB3.out.size hb); have Z2 := Lib.hid ((hb.block _ (by simp <;> omega)).trans X2.out); have RBNE := Lib.hid (show T.heap.size ≠ w.heap.size + 1 + 1 by have := hb.size; simp at this; omega); clear hb)
  have B1 := Lib.hid (bstep BT.out BT.out.size (new_below T (RB [l0, l1, l2, l3, l4, l5, l6, l7])))
  have R1 := Lib.hid (new_at1 T (RB [l0, l1, l2, l3, l4, l5, l6, l7]))
  have Z1 := Lib.hid (new_keep (RB [l0, l1, l2, l3, l4, l5, l6, l7]) Z2.out)
  clear HR HE HP HB3 X2 BT Z2
  change Code.wp _ _ _ _ (T.alloc (RB [l0, l1, l2, l3, l4, l5, l6, l7]))
  generalize T.alloc (RB [l0, l1, l2, l3, l4, l5, l6, l7]) = U at *
  generalize T.heap.size = rb at *
  obtain ⟨c0, c1, c2, c3⟩ := colB_cell Z1.out
  obtain ⟨f0, f1, f2, f3⟩ := colB_free Z1.out
  rcases Classical.em (e = 0) with e0 | e0
  · subst e0
    have hsq := HSQ.out
    rw [if_pos rfl] at hsq
    have hcl := clC_ok [l0, l1, l2, l3, l4, l5, l6, l7]
    obtain ⟨cc, hcc⟩ : ∃ cc, clC [l0, l1, l2, l3, l4, l5, l6, l7] = cc := ⟨_, rfl⟩
    have h0 : cl l0 = cc.r := by rw [← hcc]; rfl
    have h1 : cl l1 = cc.g := by rw [← hcc]; rfl
    have h2 : cl l2 = cc.b := by rw [← hcc]; rfl
    have h3 : cl l3 = cc.a := by rw [← hcc]; rfl
    rw [hcc] at hcl hsq
    obtain rfl := hsq
    clear hcc HSQ
    have hP := rpre_col cc U.drew hcl
    have HS0 := Lib.hid (show Calls Try.prog 41 #[.int .i64 l0] U.drew fun e w' => e = .returned (.int .u8 cc.r) ∧ U.drew = w' by rw [← h0]; exact rsat_any l0 _)
    have HS1 := Lib.hid (show Calls Try.prog 41 #[.int .i64 l1] U.drew fun e w' => e = .returned (.int .u8 cc.g) ∧ U.drew = w' by rw [← h1]; exact rsat_any l1 _)
    have HS2 := Lib.hid (show Calls Try.prog 41 #[.int .i64 l2] U.drew fun e w' => e = .returned (.int .u8 cc.b) ∧ U.drew = w' by rw [← h2]; exact rsat_any l2 _)
    have HS3 := Lib.hid (show Calls Try.prog 41 #[.int .i64 l3] U.drew fun e w' => e = .returned (.int .u8 cc.a) ∧ U.drew = w' by rw [← h3]; exact rsat_any l3 _)
    have HPR := Lib.hid hP
    clear h0 h1 h2 h3 hcl hP c0 c1 c2 c3 f0 f1 f2 f3
    go_wp2_with fail
    obtain ⟨q0, q1, q2, q3, -, -, -, -⟩ := RB_cells R1.out
    have hrn : rb ≠ w.heap.size + 1 + 1 := RBNE.out
    have y0 : ∀ x : OnlyG (w.heap.size + 1 + 1) U, x.w.cell? ⟨rb, 0, none⟩ = some (.int .i64 l0) := fun x => x.cell q0 hrn
    have y1 : ∀ x : OnlyG (w.heap.size + 1 + 1) U, x.w.cell? ⟨rb, 1, none⟩ = some (.int .i64 l1) := fun x => x.cell q1 hrn
    have y2 : ∀ x : OnlyG (w.heap.size + 1 + 1) U, x.w.cell? ⟨rb, 2, none⟩ = some (.int .i64 l2) := fun x => x.cell q2 hrn
    have y3 : ∀ x : OnlyG (w.heap.size + 1 + 1) U, x.w.cell? ⟨rb, 3, none⟩ = some (.int .i64 l3) := fun x => x.cell q3 hrn
    refine wp_region_held_drew (S := fun w' => ∃ x : OnlyG (w.heap.size + 1 + 1) U, w' = x.w) (by kernel_rfl) ⟨⟨_, onlyw_drew _ _⟩, rfl⟩ (fun hS => ?_)
    refine wpAnyH_take (i := 0) (v := .pointer (some ⟨rb, 0, none⟩)) rfl (by kernel_rfl) (by kernel_rfl) (by kernel_rfl) (fun _ _ _ h => h) (Or.inl ⟨by rfl, fun w hw => by obtain ⟨x, rfl⟩ := hw; go_simp⟩) hS ?_
    try simp only [Act.put, List.setIfInBounds_toArray, List.set_cons_zero, List.set_cons_succ, List.getElem_toArray, List.getElem_cons_zero]
    refine wpAnyH_take (i := 1) (v := .int .i64 l0) rfl (by kernel_rfl) (by kernel_rfl) (by kernel_rfl) (fun _ _ _ h => h) (Or.inl ⟨by rfl, fun w hw => by obtain ⟨x, rfl⟩ := hw; go_simp⟩) hS ?_
    try simp only [Act.put, List.setIfInBounds_toArray, List.set_cons_zero, List.set_cons_succ, List.getElem_toArray, List.getElem_cons_zero, List.getElem_cons_succ]
    refine wpAnyH_take (i := 3) (v := .pointer (some ⟨rb, 1, none⟩)) rfl (by kernel_rfl) (by kernel_rfl) (by kernel_rfl) (fun _ _ _ h => h) (Or.inl ⟨by rfl, fun w hw => by obtain ⟨x, rfl⟩ := hw; go_simp⟩) hS ?_
    try simp only [Act.put, List.setIfInBounds_toArray, List.set_cons_zero, List.set_cons_succ, List.getElem_toArray, List.getElem_cons_zero, List.getElem_cons_succ]
    refine wpAnyH_take (i := 4) (v := .int .i64 l1) rfl (by kernel_rfl) (by kernel_rfl) (by kernel_rfl) (fun _ _ _ h => h) (Or.inl ⟨by rfl, fun w hw => by obtain ⟨x, rfl⟩ := hw; go_simp⟩) hS ?_
    try simp only [Act.put, List.setIfInBounds_toArray, List.set_cons_zero, List.set_cons_succ, List.getElem_toArray, List.getElem_cons_zero, List.getElem_cons_succ]
    refine wpAnyH_take (i := 6) (v := .pointer (some ⟨rb, 2, none⟩)) rfl (by kernel_rfl) (by kernel_rfl) (by kernel_rfl) (fun _ _ _ h => h) (Or.inl ⟨by rfl, fun w hw => by obtain ⟨x, rfl⟩ := hw; go_simp⟩) hS ?_
    try simp only [Act.put, List.setIfInBounds_toArray, List.set_cons_zero, List.set_cons_succ, List.getElem_toArray, List.getElem_cons_zero, List.getElem_cons_succ]
    refine wpAnyH_take (i := 7) (v := .int .i64 l2) rfl (by kernel_rfl) (by kernel_rfl) (by kernel_rfl) (fun _ _ _ h => h) (Or.inl ⟨by rfl, fun w hw => by obtain ⟨x, rfl⟩ := hw; go_simp⟩) hS ?_
    try simp only [Act.put, List.setIfInBounds_toArray, List.set_cons_zero, List.set_cons_succ, List.getElem_toArray, List.getElem_cons_zero, List.getElem_cons_succ]
    refine wpAnyH_take (i := 9) (v := .pointer (some ⟨rb, 3, none⟩)) rfl (by kernel_rfl) (by kernel_rfl) (by kernel_rfl) (fun _ _ _ h => h) (Or.inl ⟨by rfl, fun w hw => by obtain ⟨x, rfl⟩ := hw; go_simp⟩) hS ?_
    try simp only [Act.put, List.setIfInBounds_toArray, List.set_cons_zero, List.set_cons_succ, List.getElem_toArray, List.getElem_cons_zero, List.getElem_cons_succ]
    refine wpAnyH_take (i := 10) (v := .int .i64 l3) rfl (by kernel_rfl) (by kernel_rfl) (by kernel_rfl) (fun _ _ _ h => h) (Or.inl ⟨by rfl, fun w hw => by obtain ⟨x, rfl⟩ := hw; go_simp⟩) hS ?_
    try simp only [Act.put, List.setIfInBounds_toArray, List.set_cons_zero, List.set_cons_succ, List.getElem_toArray, List.getElem_cons_zero, List.getElem_cons_succ]
    refine wpAnyH_take (i := 14) (v := .int .i64 s) rfl (by kernel_rfl) (by kernel_rfl) (by kernel_rfl) (fun _ _ _ h => h) (Or.inl ⟨by rfl, fun w hw => by obtain ⟨x, rfl⟩ := hw; go_simp⟩) hS ?_
    try simp only [Act.put, List.setIfInBounds_toArray, List.set_cons_zero, List.set_cons_succ, List.getElem_toArray, List.getElem_cons_zero, List.getElem_cons_succ]
    refine wpAnyH_ready (rs := [2]) (by kernel_rfl) (by simp) ?_
    refine AllReadyH.cons rfl (fun K hK => ?_) AllReadyH.nil
    go_simp
    with_reducible refine (HS0.out).mono ?_
    rintro z w1 ⟨rfl, rfl⟩
    refine hK.out _ _ ⟨⟨_, onlyw_drew _ _⟩, rfl⟩ (fun hS => ?_)
    clear hK K
    try simp only [Act.put, List.setIfInBounds_toArray, List.set_cons_zero, List.set_cons_succ, List.getElem_toArray, List.getElem_cons_zero, List.getElem_cons_succ]
    refine wpAnyH_ready (rs := [5]) (by kernel_rfl) (by simp) ?_
    refine AllReadyH.cons rfl (fun K hK => ?_) AllReadyH.nil
    go_simp
    with_reducible refine (HS1.out).mono ?_
    rintro z w1 ⟨rfl, rfl⟩
    refine hK.out _ _ ⟨⟨_, onlyw_drew _ _⟩, rfl⟩ (fun hS => ?_)
    clear hK K
    try simp only [Act.put, List.setIfInBounds_toArray, List.set_cons_zero, List.set_cons_succ, List.getElem_toArray, List.getElem_cons_zero, List.getElem_cons_succ]
    refine wpAnyH_ready (rs := [8]) (by kernel_rfl) (by simp) ?_
    refine AllReadyH.cons rfl (fun K hK => ?_) AllReadyH.nil
    go_simp
    with_reducible refine (HS2.out).mono ?_
    rintro z w1 ⟨rfl, rfl⟩
    refine hK.out _ _ ⟨⟨_, onlyw_drew _ _⟩, rfl⟩ (fun hS => ?_)
    clear hK K
    try simp only [Act.put, List.setIfInBounds_toArray, List.set_cons_zero, List.set_cons_succ, List.getElem_toArray, List.getElem_cons_zero, List.getElem_cons_succ]
    refine wpAnyH_ready (rs := [11]) (by kernel_rfl) (by simp) ?_
    refine AllReadyH.cons rfl (fun K hK => ?_) AllReadyH.nil
    go_simp
    with_reducible refine (HS3.out).mono ?_
    rintro z w1 ⟨rfl, rfl⟩
    refine hK.out _ _ ⟨⟨_, onlyw_drew _ _⟩, rfl⟩ (fun hS => ?_)
    clear hK K
    try simp only [Act.put, List.setIfInBounds_toArray, List.set_cons_zero, List.set_cons_succ, List.getElem_toArray, List.getElem_cons_zero, List.getElem_cons_succ]
    refine wpAnyH_take (i := 12) (v := .agg #[.int .u8 cc.r, .int .u8 cc.g, .int .u8 cc.b, .int .u8 cc.a]) rfl (by kernel_rfl) (by kernel_rfl) (by kernel_rfl) (fun _ _ _ h => h) (Or.inl ⟨by rfl, fun w hw => by obtain ⟨x, rfl⟩ := hw; go_simp⟩) hS ?_
    try simp only [Act.put, List.setIfInBounds_toArray, List.set_cons_zero, List.set_cons_succ, List.getElem_toArray, List.getElem_cons_zero, List.getElem_cons_succ]
    refine wpAnyH_ready (rs := [13]) (by kernel_rfl) (by simp) ?_
    refine AllReadyH.cons rfl (fun K hK => ?_) AllReadyH.nil
    go_simp
    with_reducible refine (HPR.out).mono ?_
    rintro z W ⟨rfl, hb⟩
    have BW := Lib.hid (bstep (B1.out.drew) (B1.out.drew).size hb)
    have ZF := Lib.hid (show W.heap[w.heap.size + 1 + 1]? = some (colB zC) from (hb.block _ (Array.getElem?_eq_some_iff.1 Z1.out).1).trans Z1.out)
    have OW := Lib.hid ((onlyw_drew (w.heap.size + 1 + 1) U).trans (onlyw_of hb (Nat.le_of_lt (Array.getElem?_eq_some_iff.1 Z1.out).1)))
    clear hb
    refine hK.out _ _ ⟨⟨_, OW.out⟩, rfl⟩ (fun hS => ?_)
    clear hK K
    try simp only [Act.put, List.setIfInBounds_toArray, List.set_cons_zero, List.set_cons_succ, List.getElem_toArray, List.getElem_cons_zero, List.getElem_cons_succ]
    obtain ⟨c0, c1, c2, c3⟩ := colB_cell ZF.out
    obtain ⟨f0, f1, f2, f3⟩ := colB_free ZF.out
    refine wpAnyH_ready (rs := [15]) (by kernel_rfl) (by simp) ?_
    refine AllReadyH.cons rfl (fun K hK => ?_) AllReadyH.nil
    go_simp
    refine hK.out _ _ ⟨⟨_, ((((OW.out.set 0 (.int .u8 (pre cc).r)).set 1 (.int .u8 (pre cc).g)).set 2 (.int .u8 (pre cc).b)).set 3 (.int .u8 (pre cc).a))⟩, rfl⟩ (fun hS => ?_)
    clear hK K
    try simp only [Act.put, List.setIfInBounds_toArray, List.set_cons_zero, List.set_cons_succ, List.getElem_toArray, List.getElem_cons_zero, List.getElem_cons_succ]
    refine wpAnyH_take (i := 16) (v := .int .i64 s) rfl (by kernel_rfl) (by kernel_rfl) (by kernel_rfl) (fun _ _ _ h => h) (Or.inl ⟨by rfl, fun w hw => by obtain ⟨x, rfl⟩ := hw; go_simp⟩) hS ?_
    try simp only [Act.put, List.setIfInBounds_toArray, List.set_cons_zero, List.set_cons_succ, List.getElem_toArray, List.getElem_cons_zero, List.getElem_cons_succ]
    refine wpAnyH_take (i := 17) (v := .int .i64 0) rfl (by kernel_rfl) (by kernel_rfl) (by kernel_rfl) (fun _ _ _ h => h) (Or.inl ⟨by rfl, fun w hw => by obtain ⟨x, rfl⟩ := hw; go_simp⟩) hS ?_
    try simp only [Act.put, List.setIfInBounds_toArray, List.set_cons_zero, List.set_cons_succ, List.getElem_toArray, List.getElem_cons_zero, List.getElem_cons_succ]
    refine wpAnyH_done (by kernel_rfl) ?_ _
    have N1 := colB_set (pre cc) ZF.out
    have BF := Lib.hid (col_set W (w.heap.size + 1 + 1) w.heap.size (pre cc) BW.out (by omega))
    clear ZF BW
    clear c0 c1 c2 c3 f0 f1 f2 f3 HS0 HS1 HS2 HS3 HPR y0 y1 y2 y3 hS q0 q1 q2 q3 OW
    revert N1 BF
    generalize (((W.setCell ⟨w.heap.size + 1 + 1, 0, none⟩ (.int .u8 (pre cc).r)).setCell ⟨w.heap.size + 1 + 1, 1, none⟩ (.int .u8 (pre cc).g)).setCell ⟨w.heap.size + 1 + 1, 2, none⟩ (.int .u8 (pre cc).b)).setCell ⟨w.heap.size + 1 + 1, 3, none⟩ (.int .u8 (pre cc).a) = Y
    intro N1 BF
    go_wp2_with fail
    obtain ⟨n0, n1, n2, n3⟩ := colB_cell N1
    refine bodyPost_ret (v := .tuple #[.agg #[.int .u8 (pre cc).r, .int .u8 (pre cc).g, .int .u8 (pre cc).b, .int .u8 (pre cc).a], .int .i64 s, .int .i64 0]) (by simp [results, Try.results16, go_sem, *]) rfl ⟨rfl, BF.out⟩
  · have hsq := HSQ.out
    rw [if_neg e0] at hsq
    obtain rfl := hsq
    clear HSQ
    have e1 : (e == 0) = false := by simpa using e0
    go_wp2_with fail
    have N1 := colB_set zC Z1.out
    have BF := Lib.hid (col_set U (w.heap.size + 1 + 1) w.heap.size zC B1.out (by omega))
    clear c0 c1 c2 c3 f0 f1 f2 f3 e0 e1 Z1 R1 B1
    unfold zC at N1 BF
    revert N1 BF
    generalize (((U.setCell ⟨w.heap.size + 1 + 1, 0, none⟩ (.int .u8 0)).setCell ⟨w.heap.size + 1 + 1, 1, none⟩ (.int .u8 0)).setCell ⟨w.heap.size + 1 + 1, 2, none⟩ (.int .u8 0)).setCell ⟨w.heap.size + 1 + 1, 3, none⟩ (.int .u8 0) = Y
    intro N1 BF
    obtain ⟨n0, n1, n2, n3⟩ := colB_cell N1
    refine bodyPost_ret (v := .tuple #[.agg #[.int .u8 0, .int .u8 0, .int .u8 0, .int .u8 0], .int .i64 0, .int .i64 e]) (by simp [results, Try.results16, go_sem, *]) rfl ⟨rfl, BF.out⟩
end Go.Proofs.Ytehkcnmjkgelkaa
