/-
  PlaneTurns' walk.
-/
import Derived.Test.YtiijpehchifheaaPure
import Derived.Test.YtiijpehchifheaaTw
import Derived.Test.YtiijpehchifheaaEq4
namespace Go.Proofs.Ytiijpehchifheaa
open Go.RowKit
attribute [local go_sem ↓] Go.wp_at_zero Go.wp_at_succ
attribute [local go_sem high] eqlAA
attribute [local go_sem] guardA sameA_self

def barep (v : P) : P := {v with a := 0, b := 0, c := 0, d := 0}
def flatp (v : P) : P := {v with z := 0}
theorem tB_bare0 {w : World} {g : Nat} {a b c : P} (h : w.heap[g]? = some (tB a b c)) : ((((w.setCell ⟨g, 3, none⟩ (.int .i64 0)).setCell ⟨g, 4, none⟩ (.int .i64 0)).setCell ⟨g, 5, none⟩ (.int .i64 0)).setCell ⟨g, 6, none⟩ (.int .i64 0)).heap[g]? = some (tB (barep a) b c) := by
  have h0 := heap_setCell_same w g 3 _ _ (.int .i64 0) h
  have h1 := heap_setCell_same _ g 4 _ _ (.int .i64 0) h0
  have h2 := heap_setCell_same _ g 5 _ _ (.int .i64 0) h1
  exact (heap_setCell_same _ g 6 _ _ (.int .i64 0) h2).trans (by kernel_rfl)
theorem tB_flat0 {w : World} {g : Nat} {a b c : P} (h : w.heap[g]? = some (tB a b c)) : (w.setCell ⟨g, 2, none⟩ (.int .i64 0)).heap[g]? = some (tB (flatp a) b c) := (heap_setCell_same w g 2 _ _ (.int .i64 0) h).trans (by kernel_rfl)
theorem tB_bare1 {w : World} {g : Nat} {a b c : P} (h : w.heap[g]? = some (tB a b c)) : ((((w.setCell ⟨g, 10, none⟩ (.int .i64 0)).setCell ⟨g, 11, none⟩ (.int .i64 0)).setCell ⟨g, 12, none⟩ (.int .i64 0)).setCell ⟨g, 13, none⟩ (.int .i64 0)).heap[g]? = some (tB a (barep b) c) := by
  have h0 := heap_setCell_same w g 10 _ _ (.int .i64 0) h
  have h1 := heap_setCell_same _ g 11 _ _ (.int .i64 0) h0
  have h2 := heap_setCell_same _ g 12 _ _ (.int .i64 0) h1
  exact (heap_setCell_same _ g 13 _ _ (.int .i64 0) h2).trans (by kernel_rfl)
theorem tB_flat1 {w : World} {g : Nat} {a b c : P} (h : w.heap[g]? = some (tB a b c)) : (w.setCell ⟨g, 9, none⟩ (.int .i64 0)).heap[g]? = some (tB a (flatp b) c) := (heap_setCell_same w g 9 _ _ (.int .i64 0) h).trans (by kernel_rfl)
theorem tB_bare2 {w : World} {g : Nat} {a b c : P} (h : w.heap[g]? = some (tB a b c)) : ((((w.setCell ⟨g, 17, none⟩ (.int .i64 0)).setCell ⟨g, 18, none⟩ (.int .i64 0)).setCell ⟨g, 19, none⟩ (.int .i64 0)).setCell ⟨g, 20, none⟩ (.int .i64 0)).heap[g]? = some (tB a b (barep c)) := by
  have h0 := heap_setCell_same w g 17 _ _ (.int .i64 0) h
  have h1 := heap_setCell_same _ g 18 _ _ (.int .i64 0) h0
  have h2 := heap_setCell_same _ g 19 _ _ (.int .i64 0) h1
  exact (heap_setCell_same _ g 20 _ _ (.int .i64 0) h2).trans (by kernel_rfl)
theorem tB_flat2 {w : World} {g : Nat} {a b c : P} (h : w.heap[g]? = some (tB a b c)) : (w.setCell ⟨g, 16, none⟩ (.int .i64 0)).heap[g]? = some (tB a b (flatp c)) := (heap_setCell_same w g 16 _ _ (.int .i64 0) h).trans (by kernel_rfl)
theorem oth {w : World} {g k o : Nat} {v : Value} (h : g ≠ k) : (w.setCell ⟨k, o, none⟩ v).heap[g]? = w.heap[g]? := heap_setCell_other _ _ _ _ (by simpa using h)
theorem zero_ask : Ask 0 := by constructor <;> decide
theorem barep_good {v : P} (h : v.good) : (barep v).good := ⟨⟨h.ok.x, h.ok.y⟩, h.z, ⟨zero_ask, zero_ask, zero_ask, zero_ask⟩⟩
theorem flatp_good {v : P} (h : v.good) : (flatp v).good := ⟨⟨h.ok.x, h.ok.y⟩, zero_ask, ⟨h.att.a, h.att.b, h.att.c, h.att.d⟩⟩
theorem barep_here (v : P) : (barep v).here v := ⟨rfl, rfl⟩
theorem flatp_here (v : P) : (flatp v).here v := ⟨rfl, rfl⟩
theorem num_zero (a b c : P) (x y : Int) : num a b c 0 0 0 x y = 0 := by
  rcases Int.lt_or_le 0 (area a b c) with h | h
  · exact num_same h 0 x y
  · exact num_neg h
theorem dep_bare (a b c : P) (x y : Int) : dep (barep a) (barep b) (barep c) x y = dep a b c x y := by
  unfold dep
  rw [area_here (barep_here a) (barep_here b) (barep_here c), num_here (barep_here a) (barep_here b) (barep_here c)]
  rfl
theorem dep_flatp (a b c : P) (x y : Int) : dep (flatp a) (flatp b) (flatp c) x y = 0 := by
  rcases Int.lt_or_le 0 (area (flatp a) (flatp b) (flatp c)) with h | h
  · exact dep_flat h 0 rfl rfl rfl
  · unfold dep
    rw [if_pos h]

set_option maxRecDepth 100000 in
set_option maxHeartbeats 4000000 in
theorem turns_walk (a b c : P) (e f : Int) (w : World) :
    Calls Try.prog 6 #[.agg #[.int .i64 a.x, .int .i64 a.y, .int .i64 a.z, .int .i64 a.a, .int .i64 a.b, .int .i64 a.c, .int .i64 a.d, .int .i64 b.x, .int .i64 b.y, .int .i64 b.z, .int .i64 b.a, .int .i64 b.b, .int .i64 b.c, .int .i64 b.d, .int .i64 c.x, .int .i64 c.y, .int .i64 c.z, .int .i64 c.a, .int .i64 c.b, .int .i64 c.c, .int .i64 c.d], .agg #[.int .i64 e, .int .i64 f]] w fun e w' => e = .returned (.bool true) ∧ Below w.heap.size w w' := by
  have HS := Lib.hid shown_any
  have HT := Lib.hid (three_any a b c)
  obtain ⟨u1, h1⟩ : ∃ u, smallP a = u := ⟨_, rfl⟩
  obtain ⟨u2, h2⟩ : ∃ u, smallP b = u := ⟨_, rfl⟩
  obtain ⟨u3, h3⟩ : ∃ u, smallP c = u := ⟨_, rfl⟩
  rw [h1, h2, h3] at HT
  have g1 : u1.good := h1 ▸ smallP_good a
  have g2 : u2.good := h2 ▸ smallP_good b
  have g3 : u3.good := h3 ▸ smallP_good c
  clear h1 h2 h3
  have hx := tmod_bd e 513 (by decide)
  have hy := tmod_bd f 513 (by decide)
  obtain ⟨x, ex⟩ : ∃ x, e.tmod 513 = x := ⟨_, rfl⟩
  obtain ⟨y, ey⟩ : ∃ y, f.tmod 513 = y := ⟨_, rfl⟩
  rw [ex] at hx
  rw [ey] at hy
  replace hx : Pxl x := by unfold Pxl; omega
  replace hy : Pxl y := by unfold Pxl; omega
  obtain ⟨d, hd⟩ : ∃ d, dep u1 u2 u3 x y = d := ⟨_, rfl⟩
  obtain ⟨p, hp⟩ : ∃ p, num u1 u2 u3 u1.a u2.a u3.a (16 * x + 8) (16 * y + 8) = p := ⟨_, rfl⟩
  obtain ⟨q, hq⟩ : ∃ p, num u1 u2 u3 u1.b u2.b u3.b (16 * x + 8) (16 * y + 8) = p := ⟨_, rfl⟩
  obtain ⟨r, hr⟩ : ∃ p, num u1 u2 u3 u1.c u2.c u3.c (16 * x + 8) (16 * y + 8) = p := ⟨_, rfl⟩
  obtain ⟨s, hs⟩ : ∃ p, num u1 u2 u3 u1.d u2.d u3.d (16 * x + 8) (16 * y + 8) = p := ⟨_, rfl⟩
  have D0 := Lib.hid (depth_any u1 u2 u3 x y d g1.ok g2.ok g3.ok g1.z g2.z g3.z hx hy hd)
  have D1 := Lib.hid (depth_any u2 u3 u1 x y d g2.ok g3.ok g1.ok g2.z g3.z g1.z hx hy (by rw [dep_next]; exact hd))
  have D2 := Lib.hid (depth_any (barep u1) (barep u2) (barep u3) x y d (barep_good g1).ok (barep_good g2).ok (barep_good g3).ok (barep_good g1).z (barep_good g2).z (barep_good g3).z hx hy (by rw [dep_bare]; exact hd))
  have D3 := Lib.hid (depth_any (flatp u1) (flatp u2) (flatp u3) x y 0 (flatp_good g1).ok (flatp_good g2).ok (flatp_good g3).ok (flatp_good g1).z (flatp_good g2).z (flatp_good g3).z hx hy (dep_flatp _ _ _ _ _))
  have A0 := Lib.hid (attrs_any u1 u2 u3 x y p q r s g1.ok g2.ok g3.ok g1.att g2.att g3.att hx hy hp hq hr hs)
  have A1 := Lib.hid (attrs_any u2 u3 u1 x y p q r s g2.ok g3.ok g1.ok g2.att g3.att g1.att hx hy (by rw [num_next]; exact hp) (by rw [num_next]; exact hq) (by rw [num_next]; exact hr) (by rw [num_next]; exact hs))
  have A2 := Lib.hid (attrs_any (flatp u1) (flatp u2) (flatp u3) x y p q r s (flatp_good g1).ok (flatp_good g2).ok (flatp_good g3).ok (flatp_good g1).att (flatp_good g2).att (flatp_good g3).att hx hy ((num_here (flatp_here u1) (flatp_here u2) (flatp_here u3) _ _ _ _ _).trans hp) ((num_here (flatp_here u1) (flatp_here u2) (flatp_here u3) _ _ _ _ _).trans hq) ((num_here (flatp_here u1) (flatp_here u2) (flatp_here u3) _ _ _ _ _).trans hr) ((num_here (flatp_here u1) (flatp_here u2) (flatp_here u3) _ _ _ _ _).trans hs))
  have A3 := Lib.hid (attrs_any (barep u1) (barep u2) (barep u3) x y 0 0 0 0 (barep_good g1).ok (barep_good g2).ok (barep_good g3).ok (barep_good g1).att (barep_good g2).att (barep_good g3).att hx hy (num_zero _ _ _ _ _) (num_zero _ _ _ _ _) (num_zero _ _ _ _ _) (num_zero _ _ _ _ _))
  clear g1 g2 g3 hx hy hd hp hq hr hs
  have v1 : IntKind.i64.wrap 1 = 1 := by decide
  have v2 : IntKind.i64.wrap 2 = 2 := by decide
  have v3 : IntKind.i64.wrap 3 = 3 := by decide
  go_enter Try.func6, Try.ntmps6
  go_wp2_with fail
  obtain ⟨w0, hX⟩ : ∃ X, X = ((w.alloc (Obj.cells #[.int .i64 a.x, .int .i64 a.y, .int .i64 a.z, .int .i64 a.a, .int .i64 a.b, .int .i64 a.c, .int .i64 a.d, .int .i64 b.x, .int .i64 b.y, .int .i64 b.z, .int .i64 b.a, .int .i64 b.b, .int .i64 b.c, .int .i64 b.d, .int .i64 c.x, .int .i64 c.y, .int .i64 c.z, .int .i64 c.a, .int .i64 c.b, .int .i64 c.c, .int .i64 c.d] 25)).alloc (Obj.cells #[.int .i64 e, .int .i64 f] 27)) := ⟨_, rfl⟩
  rw [← hX]
  have K0 := Lib.hid (show Below w.heap.size w w0 by rw [hX]; exact (((Below.refl w.heap.size w).alloc (Nat.le_refl _) _).alloc (by simp) _))
  have T0 := Lib.hid (show w0.heap[w.heap.size]? = some (tB a b c) by rw [hX]; exact tB_alloc _ (new_at rfl))
  have E0 := Lib.hid (show w0.heap[w.heap.size + 1]? = some (twB e f) by rw [hX]; exact new_at (by simp))
  clear hX
  with_reducible refine (HS.out _).mono ?_
  rintro e w1 ⟨rfl, hb⟩
  have K1 := Lib.hid (bstep K0.out K0.out.size hb)
  have T1 := Lib.hid (show w1.heap[w.heap.size]? = some (tB a b c) from tB_grow T0.out hb)
  have E1 := Lib.hid (show w1.heap[w.heap.size + 1]? = some (twB e f) from twB_grow E0.out hb)
  clear T0 E0
  clear hb
  go_wp2_with (first | (refine wp_loadT _ rfl rfl rfl T1.out ?_))
  with_reducible refine (HT.out _).mono ?_
  rintro e w2 ⟨rfl, hb⟩
  have K2 := Lib.hid (bstep K1.out K1.out.size hb)
  have T2 := Lib.hid (show w2.heap[w.heap.size]? = some (tB a b c) from tB_grow T1.out hb)
  have E2 := Lib.hid (show w2.heap[w.heap.size + 1]? = some (twB e f) from twB_grow E1.out hb)
  clear T1 E1
  clear hb
  clear T2
  obtain ⟨cE0, cE1⟩ := twB_cell E2.out
  have lE := twB_lt E2.out
  go_wp2_with (first | (refine wp_newT (a := u1) (b := u2) (c := u3) _ rfl rfl rfl rfl rfl rfl rfl rfl ?_) | (refine wp_buildT (a := u2) (b := u3) (c := u1) _ _ _ rfl rfl rfl rfl rfl ?_) | (refine wp_newT (a := u2) (b := u3) (c := u1) _ rfl rfl rfl rfl rfl rfl rfl rfl ?_) | (refine wp_loadT _ rfl rfl rfl (show _ = some (tB u1 u2 u3) from tB_alloc _ (new_at rfl)) ?_) | (refine wp_loadT _ rfl rfl rfl (show _ = some (tB u1 u2 u3) from tB_alloc _ (tB_alloc _ (new_at rfl))) ?_))
  obtain ⟨Y0, hY⟩ : ∃ Y, Y = (((w2.alloc (Obj.cells #[.int .i64 u1.x, .int .i64 u1.y, .int .i64 u1.z, .int .i64 u1.a, .int .i64 u1.b, .int .i64 u1.c, .int .i64 u1.d, .int .i64 u2.x, .int .i64 u2.y, .int .i64 u2.z, .int .i64 u2.a, .int .i64 u2.b, .int .i64 u2.c, .int .i64 u2.d, .int .i64 u3.x, .int .i64 u3.y, .int .i64 u3.z, .int .i64 u3.a, .int .i64 u3.b, .int .i64 u3.c, .int .i64 u3.d] 25)).alloc (Obj.cells #[.int .i64 u2.x, .int .i64 u2.y, .int .i64 u2.z, .int .i64 u2.a, .int .i64 u2.b, .int .i64 u2.c, .int .i64 u2.d, .int .i64 u3.x, .int .i64 u3.y, .int .i64 u3.z, .int .i64 u3.a, .int .i64 u3.b, .int .i64 u3.c, .int .i64 u3.d, .int .i64 u1.x, .int .i64 u1.y, .int .i64 u1.z, .int .i64 u1.a, .int .i64 u1.b, .int .i64 u1.c, .int .i64 u1.d] 25)).alloc (Obj.cells #[.int .i64 u1.x, .int .i64 u1.y, .int .i64 u1.z, .int .i64 u1.a, .int .i64 u1.b, .int .i64 u1.c, .int .i64 u1.d, .int .i64 u2.x, .int .i64 u2.y, .int .i64 u2.z, .int .i64 u2.a, .int .i64 u2.b, .int .i64 u2.c, .int .i64 u2.d, .int .i64 u3.x, .int .i64 u3.y, .int .i64 u3.z, .int .i64 u3.a, .int .i64 u3.b, .int .i64 u3.c, .int .i64 u3.d] 25)).alloc (Obj.cells #[.int .i64 u1.x, .int .i64 u1.y, .int .i64 u1.z, .int .i64 u1.a, .int .i64 u1.b, .int .i64 u1.c, .int .i64 u1.d, .int .i64 u2.x, .int .i64 u2.y, .int .i64 u2.z, .int .i64 u2.a, .int .i64 u2.b, .int .i64 u2.c, .int .i64 u2.d, .int .i64 u3.x, .int .i64 u3.y, .int .i64 u3.z, .int .i64 u3.a, .int .i64 u3.b, .int .i64 u3.c, .int .i64 u3.d] 25) := ⟨_, rfl⟩
  rw [← hY]
  have KY0 := Lib.hid (show Below w.heap.size w Y0 by rw [hY]; exact (((K2.out.alloc K2.out.size _).alloc (by have := K2.out.size; simp; omega) _).alloc (by have := K2.out.size; simp; omega) _).alloc (by have := K2.out.size; simp; omega) _)
  have TY0 := Lib.hid (show Y0.heap[w2.heap.size]? = some (tB u1 u2 u3) by rw [hY]; exact tB_alloc _ (tB_alloc _ (tB_alloc _ (new_at rfl))))
  have NY0 := Lib.hid (show Y0.heap[w2.heap.size + 1]? = some (tB u2 u3 u1) by rw [hY]; exact tB_alloc _ (tB_alloc _ (new_at (by simp))))
  have BY0 := Lib.hid (show Y0.heap[w2.heap.size + 1 + 1]? = some (tB u1 u2 u3) by rw [hY]; exact tB_alloc _ (new_at (by simp)))
  have FY0 := Lib.hid (show Y0.heap[w2.heap.size + 1 + 1 + 1]? = some (tB u1 u2 u3) by rw [hY]; exact new_at (by simp))
  have lw := K2.out.size
  obtain ⟨gt, hgt⟩ : ∃ g, w2.heap.size = g := ⟨_, rfl⟩
  obtain ⟨gn, hgn⟩ : ∃ g, gt + 1 = g := ⟨_, rfl⟩
  obtain ⟨gb, hgb⟩ : ∃ g, gn + 1 = g := ⟨_, rfl⟩
  obtain ⟨gf, hgf⟩ : ∃ g, gb + 1 = g := ⟨_, rfl⟩
  rw [hgt] at TY0 NY0 BY0 FY0 lw
  rw [hgn] at NY0 BY0 FY0
  rw [hgb] at BY0 FY0
  rw [hgf] at FY0
  simp only [hgt, hgn, hgb, hgf]
  have n1 : gt ≠ gb := by omega
  have n2 : gt ≠ gf := by omega
  have n3 : gn ≠ gb := by omega
  have n4 : gn ≠ gf := by omega
  have n5 : gb ≠ gf := by omega
  have n5' := n5.symm
  have cb := Lib.hid (show w.heap.size ≤ gb by omega)
  have cf := Lib.hid (show w.heap.size ≤ gf by omega)
  clear cE0 cE1 lE
  clear hY K2 E2 hgt hgn hgb hgf lw
  refine wp_loop_rounds 4 ?_
  rw [rounds_succ]
  obtain ⟨⟨c0, c1, c2, c3, c4, c5, c6⟩, ⟨c7, c8, c9, c10, c11, c12, c13⟩, ⟨c14, c15, c16, c17, c18, c19, c20⟩⟩ := tB_cell BY0.out
  obtain ⟨⟨d0, d1, d2, d3, d4, d5, d6⟩, ⟨d7, d8, d9, d10, d11, d12, d13⟩, ⟨d14, d15, d16, d17, d18, d19, d20⟩⟩ := tB_cell FY0.out
  have fb3 := tB_free BY0.out 3
  have fb4 := tB_free BY0.out 4
  have fb5 := tB_free BY0.out 5
  have fb6 := tB_free BY0.out 6
  have ff := tB_free FY0.out 2
  go_wp2
  obtain ⟨Y1, hY⟩ : ∃ Y, Y = (((((Y0.setCell ⟨gb, 3, none⟩ (.int .i64 0)).setCell ⟨gb, 4, none⟩ (.int .i64 0)).setCell ⟨gb, 5, none⟩ (.int .i64 0)).setCell ⟨gb, 6, none⟩ (.int .i64 0)).setCell ⟨gf, 2, none⟩ (.int .i64 0)) := ⟨_, rfl⟩
  rw [← hY]
  have KY1 := Lib.hid (show Below w.heap.size w Y1 by rw [hY]; exact ((((KY0.out.setCell cb.out _).setCell cb.out _).setCell cb.out _).setCell cb.out _).setCell cf.out _)
  have TY1 := Lib.hid (show Y1.heap[gt]? = some (tB u1 u2 u3) by rw [hY]; exact (oth n2).trans ((oth n1).trans ((oth n1).trans ((oth n1).trans ((oth n1).trans TY0.out)))))
  have NY1 := Lib.hid (show Y1.heap[gn]? = some (tB u2 u3 u1) by rw [hY]; exact (oth n4).trans ((oth n3).trans ((oth n3).trans ((oth n3).trans ((oth n3).trans NY0.out)))))
  have BY1 := Lib.hid (show Y1.heap[gb]? = some (tB (barep u1) u2 u3) by rw [hY]; exact (oth n5).trans (tB_bare0 BY0.out))
  have FY1 := Lib.hid (show Y1.heap[gf]? = some (tB (flatp u1) u2 u3) by rw [hY]; exact tB_flat0 ((oth n5').trans ((oth n5').trans ((oth n5').trans ((oth n5').trans FY0.out)))))
  clear hY c0 c1 c2 c3 c4 c5 c6 c7 c8 c9 c10 c11 c12 c13 c14 c15 c16 c17 c18 c19 c20 d0 d1 d2 d3 d4 d5 d6 d7 d8 d9 d10 d11 d12 d13 d14 d15 d16 d17 d18 d19 d20 fb3 fb4 fb5 fb6 ff KY0 TY0 NY0 BY0 FY0
  rw [rounds_succ]
  obtain ⟨⟨c0, c1, c2, c3, c4, c5, c6⟩, ⟨c7, c8, c9, c10, c11, c12, c13⟩, ⟨c14, c15, c16, c17, c18, c19, c20⟩⟩ := tB_cell BY1.out
  obtain ⟨⟨d0, d1, d2, d3, d4, d5, d6⟩, ⟨d7, d8, d9, d10, d11, d12, d13⟩, ⟨d14, d15, d16, d17, d18, d19, d20⟩⟩ := tB_cell FY1.out
  have fb3 := tB_free BY1.out 10
  have fb4 := tB_free BY1.out 11
  have fb5 := tB_free BY1.out 12
  have fb6 := tB_free BY1.out 13
  have ff := tB_free FY1.out 9
  go_wp2
  obtain ⟨Y2, hY⟩ : ∃ Y, Y = (((((Y1.setCell ⟨gb, 10, none⟩ (.int .i64 0)).setCell ⟨gb, 11, none⟩ (.int .i64 0)).setCell ⟨gb, 12, none⟩ (.int .i64 0)).setCell ⟨gb, 13, none⟩ (.int .i64 0)).setCell ⟨gf, 9, none⟩ (.int .i64 0)) := ⟨_, rfl⟩
  rw [← hY]
  have KY2 := Lib.hid (show Below w.heap.size w Y2 by rw [hY]; exact ((((KY1.out.setCell cb.out _).setCell cb.out _).setCell cb.out _).setCell cb.out _).setCell cf.out _)
  have TY2 := Lib.hid (show Y2.heap[gt]? = some (tB u1 u2 u3) by rw [hY]; exact (oth n2).trans ((oth n1).trans ((oth n1).trans ((oth n1).trans ((oth n1).trans TY1.out)))))
  have NY2 := Lib.hid (show Y2.heap[gn]? = some (tB u2 u3 u1) by rw [hY]; exact (oth n4).trans ((oth n3).trans ((oth n3).trans ((oth n3).trans ((oth n3).trans NY1.out)))))
  have BY2 := Lib.hid (show Y2.heap[gb]? = some (tB (barep u1) (barep u2) u3) by rw [hY]; exact (oth n5).trans (tB_bare1 BY1.out))
  have FY2 := Lib.hid (show Y2.heap[gf]? = some (tB (flatp u1) (flatp u2) u3) by rw [hY]; exact tB_flat1 ((oth n5').trans ((oth n5').trans ((oth n5').trans ((oth n5').trans FY1.out)))))
  clear hY c0 c1 c2 c3 c4 c5 c6 c7 c8 c9 c10 c11 c12 c13 c14 c15 c16 c17 c18 c19 c20 d0 d1 d2 d3 d4 d5 d6 d7 d8 d9 d10 d11 d12 d13 d14 d15 d16 d17 d18 d19 d20 fb3 fb4 fb5 fb6 ff KY1 TY1 NY1 BY1 FY1
  rw [rounds_succ]
  obtain ⟨⟨c0, c1, c2, c3, c4, c5, c6⟩, ⟨c7, c8, c9, c10, c11, c12, c13⟩, ⟨c14, c15, c16, c17, c18, c19, c20⟩⟩ := tB_cell BY2.out
  obtain ⟨⟨d0, d1, d2, d3, d4, d5, d6⟩, ⟨d7, d8, d9, d10, d11, d12, d13⟩, ⟨d14, d15, d16, d17, d18, d19, d20⟩⟩ := tB_cell FY2.out
  have fb3 := tB_free BY2.out 17
  have fb4 := tB_free BY2.out 18
  have fb5 := tB_free BY2.out 19
  have fb6 := tB_free BY2.out 20
  have ff := tB_free FY2.out 16
  go_wp2
  obtain ⟨Y3, hY⟩ : ∃ Y, Y = (((((Y2.setCell ⟨gb, 17, none⟩ (.int .i64 0)).setCell ⟨gb, 18, none⟩ (.int .i64 0)).setCell ⟨gb, 19, none⟩ (.int .i64 0)).setCell ⟨gb, 20, none⟩ (.int .i64 0)).setCell ⟨gf, 16, none⟩ (.int .i64 0)) := ⟨_, rfl⟩
  rw [← hY]
  have KY3 := Lib.hid (show Below w.heap.size w Y3 by rw [hY]; exact ((((KY2.out.setCell cb.out _).setCell cb.out _).setCell cb.out _).setCell cb.out _).setCell cf.out _)
  have TY3 := Lib.hid (show Y3.heap[gt]? = some (tB u1 u2 u3) by rw [hY]; exact (oth n2).trans ((oth n1).trans ((oth n1).trans ((oth n1).trans ((oth n1).trans TY2.out)))))
  have NY3 := Lib.hid (show Y3.heap[gn]? = some (tB u2 u3 u1) by rw [hY]; exact (oth n4).trans ((oth n3).trans ((oth n3).trans ((oth n3).trans ((oth n3).trans NY2.out)))))
  have BY3 := Lib.hid (show Y3.heap[gb]? = some (tB (barep u1) (barep u2) (barep u3)) by rw [hY]; exact (oth n5).trans (tB_bare2 BY2.out))
  have FY3 := Lib.hid (show Y3.heap[gf]? = some (tB (flatp u1) (flatp u2) (flatp u3)) by rw [hY]; exact tB_flat2 ((oth n5').trans ((oth n5').trans ((oth n5').trans ((oth n5').trans FY2.out)))))
  clear hY c0 c1 c2 c3 c4 c5 c6 c7 c8 c9 c10 c11 c12 c13 c14 c15 c16 c17 c18 c19 c20 d0 d1 d2 d3 d4 d5 d6 d7 d8 d9 d10 d11 d12 d13 d14 d15 d16 d17 d18 d19 d20 fb3 fb4 fb5 fb6 ff KY2 TY2 NY2 BY2 FY2
  clear n1 n2 n3 n4 n5 n5'
  rw [rounds_succ]
  go_wp2_with fail
  have ne1 := Grow.ne Y3
  try simp only [List.append]
  refine wp_region_grow (by kernel_rfl) (by kernel_rfl) ?_
  repeat (first | (refine quiet_loadT _ rfl rfl rfl TY3.out ?_; simp only [Act.put, List.setIfInBounds_toArray, List.set_cons_zero, List.set_cons_succ]) | (refine quiet_loadT _ rfl rfl rfl NY3.out ?_; simp only [Act.put, List.setIfInBounds_toArray, List.set_cons_zero, List.set_cons_succ]) | (refine quiet_loadT _ rfl rfl rfl BY3.out ?_; simp only [Act.put, List.setIfInBounds_toArray, List.set_cons_zero, List.set_cons_succ]) | (refine quiet_loadT _ rfl rfl rfl FY3.out ?_; simp only [Act.put, List.setIfInBounds_toArray, List.set_cons_zero, List.set_cons_succ]) | (go_big_quiet_step (with_reducible first | exact Grow.calls (D1.out _) | exact Grow.calls (D0.out _) | exact Grow.calls (A1.out _) | exact Grow.calls (A0.out _) | exact Grow.calls (D2.out _) | exact Grow.calls (A2.out _) | exact Grow.calls (D3.out _) | exact Grow.calls (A3.out _))))
  refine wpQuiet_nil ?_
  rintro _ ⟨x, rfl⟩
  go_wp2
  go_ret
  exact ⟨by simp, bstep KY3.out KY3.out.size x.below⟩
end Go.Proofs.Ytiijpehchifheaa
