/-
  The contract of the reference's Depth.
-/
import Derived.Test.YtiijpehchifheaaRAt
namespace Go.Proofs.Ytiijpehchifheaa
open Go.RowKit
attribute [local go_sem ↓] Go.wp_at_zero Go.wp_at_succ
attribute [local go_sem high] run_min3 run_max3

theorem rcentre_bel (n k : Int) (hn : Pxl n) (hk : 16 * n + 8 = k) (w : World) :
    Calls Try.prog 29 #[.int .i64 n] w fun e w' => e = .returned (.int .i64 k) ∧ Below w.heap.size w w' :=
  (rcentre_any n k (by have := hn.1; omega) (by have := hn.2; omega) hk w).mono fun e w' (h : e = _ ∧ w = w') => show e = _ ∧ Below w.heap.size w w' from ⟨h.1, h.2 ▸ Below.refl _ _⟩

theorem rdepth_none (a b c : P) (x y : Int) (ha : a.sm) (hb : b.sm) (hc : c.sm) (hs : area a b c ≤ 0) (w : World) :
    Calls Try.prog 15 #[.agg #[.int .i64 a.x, .int .i64 a.y, .int .i64 a.z, .int .i64 a.a, .int .i64 a.b, .int .i64 a.c, .int .i64 a.d, .int .i64 b.x, .int .i64 b.y, .int .i64 b.z, .int .i64 b.a, .int .i64 b.b, .int .i64 b.c, .int .i64 b.d, .int .i64 c.x, .int .i64 c.y, .int .i64 c.z, .int .i64 c.a, .int .i64 c.b, .int .i64 c.c, .int .i64 c.d], .int .i64 x, .int .i64 y] w fun e w' => e = .returned (.int .i64 0) ∧ Below w.heap.size w w' := by
  have HK := Lib.hid fun o => ((Below.refl w.heap.size w).alloc (Nat.le_refl _) o)
  have HA := Lib.hid (rarea_any a b c ha hb hc)
  generalize area a b c = s at *
  clear ha hb hc
  go_enter Try.func15, Try.ntmps15
  go_wp2_with (refine wp_loadT _ rfl rfl rfl (new_at rfl) ?_)
  with_reducible refine (HA.out _).mono ?_
  rintro e w1 ⟨rfl, hb⟩
  have K1 := Lib.hid (bstep (HK.out _) (by simp) hb)
  clear hb
  go_wp2
  go_ret
  exact ⟨rfl, K1.out⟩

set_option maxRecDepth 100000 in
set_option maxHeartbeats 2000000 in
theorem rdepth_some (a b c : P) (x y X Y v d : Int) (ha : a.sm) (hb : b.sm) (hc : c.sm) (hs : 0 < area a b c)
    (C1 : Hid (∀ w, Calls Try.prog 29 #[.int .i64 x] w fun e w' => e = .returned (.int .i64 X) ∧ Below w.heap.size w w'))
    (C2 : Hid (∀ w, Calls Try.prog 29 #[.int .i64 y] w fun e w' => e = .returned (.int .i64 Y) ∧ Below w.heap.size w w'))
    (CA : Hid (∀ w, Calls Try.prog 13 #[.agg #[.int .i64 a.x, .int .i64 a.y, .int .i64 a.z, .int .i64 a.a, .int .i64 a.b, .int .i64 a.c, .int .i64 a.d, .int .i64 b.x, .int .i64 b.y, .int .i64 b.z, .int .i64 b.a, .int .i64 b.b, .int .i64 b.c, .int .i64 b.d, .int .i64 c.x, .int .i64 c.y, .int .i64 c.z, .int .i64 c.a, .int .i64 c.b, .int .i64 c.c, .int .i64 c.d], .agg #[.int .i64 a.z, .int .i64 b.z, .int .i64 c.z], .int .i64 X, .int .i64 Y] w fun e w' => e = .returned (.int .i64 v) ∧ Below w.heap.size w w'))
    (hd : hld v a.z b.z c.z = d) (w : World) :
    Calls Try.prog 15 #[.agg #[.int .i64 a.x, .int .i64 a.y, .int .i64 a.z, .int .i64 a.a, .int .i64 a.b, .int .i64 a.c, .int .i64 a.d, .int .i64 b.x, .int .i64 b.y, .int .i64 b.z, .int .i64 b.a, .int .i64 b.b, .int .i64 b.c, .int .i64 b.d, .int .i64 c.x, .int .i64 c.y, .int .i64 c.z, .int .i64 c.a, .int .i64 c.b, .int .i64 c.c, .int .i64 c.d], .int .i64 x, .int .i64 y] w fun e w' => e = .returned (.int .i64 d) ∧ Below w.heap.size w w' := by
  have HK := Lib.hid fun o => ((Below.refl w.heap.size w).alloc (Nat.le_refl _) o)
  have HA := Lib.hid (rarea_any a b c ha hb hc)
  have HD := Lib.hid (show (v < min a.z (min b.z c.z) ∧ min a.z (min b.z c.z) = d) ∨ (¬ v < min a.z (min b.z c.z) ∧ max a.z (max b.z c.z) < v ∧ max a.z (max b.z c.z) = d) ∨ (¬ v < min a.z (min b.z c.z) ∧ ¬ max a.z (max b.z c.z) < v ∧ v = d) by
    unfold hld at hd
    omega)
  clear hd
  generalize area a b c = s at *
  clear ha hb hc
  go_enter Try.func15, Try.ntmps15
  go_wp2_with (refine wp_loadT _ rfl rfl rfl (new_at rfl) ?_)
  with_reducible refine (HA.out _).mono ?_
  rintro e w1 ⟨rfl, hb⟩
  have K1 := Lib.hid (bstep (HK.out _) (by simp) hb)
  have T1 := Lib.hid (show w1.heap[w.heap.size]? = some (tB a b c) from tB_grow (new_at rfl) hb)
  clear hb
  go_wp2_with fail
  have g1 := fun x : Grow w1 => tB_cell (tB_grow T1.out x.below)
  have ne1 := Grow.ne w1
  refine wp_region_grow (by kernel_rfl) (by kernel_rfl) ?_
  repeat (first | (refine quiet_loadT _ rfl rfl rfl T1.out ?_; simp only [Act.put, List.setIfInBounds_toArray, List.set_cons_zero, List.set_cons_succ]) | (go_big_quiet_step (with_reducible first | exact Grow.calls (C1.out _) | exact Grow.calls (C2.out _) | exact Grow.calls (CA.out _))))
  refine wpQuiet_nil ?_
  rintro _ ⟨t, rfl⟩
  have K2 := Lib.hid (bstep K1.out K1.out.size t.below)
  have T2 := Lib.hid (tB_grow T1.out t.below)
  generalize t.w = w2 at *
  clear g1 ne1 t K1 T1
  obtain ⟨⟨c0, c1, c2, c3, c4, c5, c6⟩, ⟨c7, c8, c9, c10, c11, c12, c13⟩, ⟨c14, c15, c16, c17, c18, c19, c20⟩⟩ := tB_cell T2.out
  rcases HD.out with ⟨h, rfl⟩ | ⟨h, h', rfl⟩ | ⟨h, h', rfl⟩
  all_goals
    go_wp2
    go_ret
    exact ⟨rfl, K2.out⟩

theorem rdepth_any (a b c : P) (x y d : Int) (ha : a.ok) (hb : b.ok) (hc : c.ok) (hl : -1073741824 ≤ a.z ∧ a.z ≤ 1073741824) (hm : -1073741824 ≤ b.z ∧ b.z ≤ 1073741824) (hn : -1073741824 ≤ c.z ∧ c.z ≤ 1073741824) (hx : Pxl x) (hy : Pxl y) (hd : dep a b c x y = d) (w : World) :
    Calls Try.prog 15 #[.agg #[.int .i64 a.x, .int .i64 a.y, .int .i64 a.z, .int .i64 a.a, .int .i64 a.b, .int .i64 a.c, .int .i64 a.d, .int .i64 b.x, .int .i64 b.y, .int .i64 b.z, .int .i64 b.a, .int .i64 b.b, .int .i64 b.c, .int .i64 b.d, .int .i64 c.x, .int .i64 c.y, .int .i64 c.z, .int .i64 c.a, .int .i64 c.b, .int .i64 c.c, .int .i64 c.d], .int .i64 x, .int .i64 y] w fun e w' => e = .returned (.int .i64 d) ∧ Below w.heap.size w w' := by
  subst hd
  rcases Int.lt_or_le 0 (area a b c) with h | h
  · refine rdepth_some a b c x y (16 * x + 8) (16 * y + 8) (num a b c a.z b.z c.z (16 * x + 8) (16 * y + 8)) _ ha.sm hb.sm hc.sm h ?_ ?_ ?_ ?_ w
    · exact Lib.hid (fun w => rcentre_bel x _ hx rfl w)
    · exact Lib.hid (fun w => rcentre_bel y _ hy rfl w)
    · exact Lib.hid (fun w => rat_any a b c _ _ _ _ _ _ ha hb hc hl hm hn hx.in14 hy.in14 rfl w)
    · exact (dep_pos h).symm
  · have e : dep a b c x y = 0 := by unfold dep; rw [if_pos h]
    rw [e]
    exact rdepth_none a b c x y ha.sm hb.sm hc.sm h w
end Go.Proofs.Ytiijpehchifheaa
