/-
  The contracts of edge.Turned and the reference's.
-/
import Derived.Test.YtfdlfjecgefgfaaSmall
import Derived.Deep.Cut
namespace Go.Proofs.Ytfdlfjecgefgfaa
open Go.RowKit
attribute [local go_sem ↓] Go.wp_at_zero Go.wp_at_succ

def zP : P := ⟨0, 0, 0, 0, 0, 0, 0⟩
def tr1 (a b c : P) : P := if area a b c = 0 then zP else a
def tr2 (a b c : P) : P := if area a b c = 0 then zP else if area a b c < 0 then c else b
def tr3 (a b c : P) : P := if area a b c = 0 then zP else if area a b c < 0 then b else c
def trO (a b c : P) : Bool := decide (area a b c ≠ 0)

theorem results_two {fn : Func} {p q : Tmp} (h : fn.results = #[.cell p 38, .tmp q]) (tmps : Array Value) (w : World) (g : Nat) (a b c : P) (v : Value)
    (hp : tmps.getD p undef = .pointer (some ⟨g, 0, none⟩)) (hq : tmps.getD q undef = v) (hg : w.heap[g]? = some (tB a b c)) :
    (results fn tmps).run Try.prog w = .ok (.tuple #[.agg #[.int .i64 a.x, .int .i64 a.y, .int .i64 a.z, .int .i64 a.a, .int .i64 a.b, .int .i64 a.c, .int .i64 a.d, .int .i64 b.x, .int .i64 b.y, .int .i64 b.z, .int .i64 b.a, .int .i64 b.b, .int .i64 b.c, .int .i64 b.d, .int .i64 c.x, .int .i64 c.y, .int .i64 c.z, .int .i64 c.a, .int .i64 c.b, .int .i64 c.c, .int .i64 c.d], v]) w := by
  have hp' : tmps[p]?.getD undef = .pointer (some ⟨g, 0, none⟩) := by simpa using hp
  have hq' : tmps[q]?.getD undef = v := by simpa using hq
  have hl := run_loadVar_row (P := Try.prog) w g 38 38 _ (0, 0) _ hg Try.underlying38 rfl (by kernel_rfl)
  simp [results, h, hp', hq', asAddr, hl]

/-- Seven numbers written into a block, from a place on. -/
def set7 (w : World) (g o : Nat) (v : P) : World := ((((((w.setCell ⟨g, o, none⟩ (.int .i64 v.x)).setCell ⟨g, o + 1, none⟩ (.int .i64 v.y)).setCell ⟨g, o + 2, none⟩ (.int .i64 v.z)).setCell ⟨g, o + 3, none⟩ (.int .i64 v.a)).setCell ⟨g, o + 4, none⟩ (.int .i64 v.b)).setCell ⟨g, o + 5, none⟩ (.int .i64 v.c)).setCell ⟨g, o + 6, none⟩ (.int .i64 v.d)
theorem set7_row {w : World} {g : Nat} {cs : Array Value} {t : TypeId} (o : Nat) (v : P) (h : w.heap[g]? = some (.cells cs t (0, 0))) :
    (set7 w g o v).heap[g]? = some (.cells (((((((cs.setIfInBounds o (.int .i64 v.x)).setIfInBounds (o + 1) (.int .i64 v.y)).setIfInBounds (o + 2) (.int .i64 v.z)).setIfInBounds (o + 3) (.int .i64 v.a)).setIfInBounds (o + 4) (.int .i64 v.b)).setIfInBounds (o + 5) (.int .i64 v.c)).setIfInBounds (o + 6) (.int .i64 v.d)) t (0, 0)) := by
  have h0 := heap_setCell_same w g o _ _ (.int .i64 v.x) h
  have h1 := heap_setCell_same _ g (o + 1) _ _ (.int .i64 v.y) h0
  have h2 := heap_setCell_same _ g (o + 2) _ _ (.int .i64 v.z) h1
  have h3 := heap_setCell_same _ g (o + 3) _ _ (.int .i64 v.a) h2
  have h4 := heap_setCell_same _ g (o + 4) _ _ (.int .i64 v.b) h3
  have h5 := heap_setCell_same _ g (o + 5) _ _ (.int .i64 v.c) h4
  exact heap_setCell_same _ g (o + 6) _ _ (.int .i64 v.d) h5
theorem tB_set1 {w : World} {g : Nat} {a b c : P} (v : P) (h : w.heap[g]? = some (tB a b c)) : (set7 w g 7 v).heap[g]? = some (tB a v c) := (set7_row 7 v h).trans (by kernel_rfl)
theorem tB_set2 {w : World} {g : Nat} {a b c : P} (v : P) (h : w.heap[g]? = some (tB a b c)) : (set7 w g 14 v).heap[g]? = some (tB a b v) := (set7_row 14 v h).trans (by kernel_rfl)
theorem set7_other {w : World} {g k : Nat} {o : Nat} {v : P} (hk : k ≠ g) : (set7 w g o v).heap[k]? = w.heap[k]? := by
  unfold set7
  rw [heap_setCell_other _ _ _ _ (by simpa using hk), heap_setCell_other _ _ _ _ (by simpa using hk), heap_setCell_other _ _ _ _ (by simpa using hk), heap_setCell_other _ _ _ _ (by simpa using hk),
    heap_setCell_other _ _ _ _ (by simpa using hk), heap_setCell_other _ _ _ _ (by simpa using hk), heap_setCell_other _ _ _ _ (by simpa using hk)]
theorem set7_below {B : Nat} {w w' : World} {g : Nat} (o : Nat) (u : P) (h : Below B w w') (hg : B ≤ g) : Below B w (set7 w' g o u) := by
  unfold set7
  exact ((((((h.setCell hg _).setCell hg _).setCell hg _).setCell hg _).setCell hg _).setCell hg _).setCell hg _
theorem tB_free {w : World} {g : Nat} {a b c : P} (h : w.heap[g]? = some (tB a b c)) (o : Nat) : w.frozen? ⟨g, o, none⟩ = false := by
  unfold tB at h
  simp [World.frozen?, h]

theorem wp_zeroT {ops : Array Oper} {rest : List Oper} {o : Oper} {k : Act} {w : World} {Q : Exit → Act → World → Prop} (ho : o.op = .build 38 #[]) (hw : Region.wanted o (yielded ops k.tmps) = true)
    (h : wpList Try.prog ops Q rest (k.put o.dst (.agg #[.int .i64 zP.x, .int .i64 zP.y, .int .i64 zP.z, .int .i64 zP.a, .int .i64 zP.b, .int .i64 zP.c, .int .i64 zP.d, .int .i64 zP.x, .int .i64 zP.y, .int .i64 zP.z, .int .i64 zP.a, .int .i64 zP.b, .int .i64 zP.c, .int .i64 zP.d, .int .i64 zP.x, .int .i64 zP.y, .int .i64 zP.z, .int .i64 zP.a, .int .i64 zP.b, .int .i64 zP.c, .int .i64 zP.d])) w) : wpList Try.prog ops Q (o :: rest) k w :=
  BigFrame.wpList_want hw fun _ hK => by
    have hf : Try.prog.built 38 (((#[] : Array (Nat × Operand)).map fun (i, x) => (i, k.eval x)).toList) = some #[.int .i64 zP.x, .int .i64 zP.y, .int .i64 zP.z, .int .i64 zP.a, .int .i64 zP.b, .int .i64 zP.c, .int .i64 zP.d, .int .i64 zP.x, .int .i64 zP.y, .int .i64 zP.z, .int .i64 zP.a, .int .i64 zP.b, .int .i64 zP.c, .int .i64 zP.d, .int .i64 zP.x, .int .i64 zP.y, .int .i64 zP.z, .int .i64 zP.a, .int .i64 zP.b, .int .i64 zP.c, .int .i64 zP.d] := by kernel_rfl
    refine wp_build 38 _ ho (by rw [hf]; rfl) ?_
    rw [hf]
    exact hK _ _ h

set_option maxRecDepth 100000 in
set_option maxHeartbeats 1000000 in
theorem turned_any (a b c : P) (ha : a.sm) (hb : b.sm) (hc : c.sm) (w : World) :
    Calls Try.prog 26 #[.agg #[.int .i64 a.x, .int .i64 a.y, .int .i64 a.z, .int .i64 a.a, .int .i64 a.b, .int .i64 a.c, .int .i64 a.d, .int .i64 b.x, .int .i64 b.y, .int .i64 b.z, .int .i64 b.a, .int .i64 b.b, .int .i64 b.c, .int .i64 b.d, .int .i64 c.x, .int .i64 c.y, .int .i64 c.z, .int .i64 c.a, .int .i64 c.b, .int .i64 c.c, .int .i64 c.d]] w fun e w' => e = .returned (.tuple #[.agg #[.int .i64 (tr1 a b c).x, .int .i64 (tr1 a b c).y, .int .i64 (tr1 a b c).z, .int .i64 (tr1 a b c).a, .int .i64 (tr1 a b c).b, .int .i64 (tr1 a b c).c, .int .i64 (tr1 a b c).d, .int .i64 (tr2 a b c).x, .int .i64 (tr2 a b c).y, .int .i64 (tr2 a b c).z, .int .i64 (tr2 a b c).a, .int .i64 (tr2 a b c).b, .int .i64 (tr2 a b c).c, .int .i64 (tr2 a b c).d, .int .i64 (tr3 a b c).x, .int .i64 (tr3 a b c).y, .int .i64 (tr3 a b c).z, .int .i64 (tr3 a b c).a, .int .i64 (tr3 a b c).b, .int .i64 (tr3 a b c).c, .int .i64 (tr3 a b c).d], .bool (trO a b c)]) ∧ Below w.heap.size w w' := by
  have HK := Lib.hid fun o o' => (((Below.refl w.heap.size w).alloc (Nat.le_refl _) o).alloc (by simp) o')
  have HA := Lib.hid (area_any a b c ha hb hc)
  unfold tr1 tr2 tr3 trO
  generalize area a b c = m at *
  clear ha hb hc
  have HM := Lib.hid (show m = 0 ∨ (¬ m = 0 ∧ m < 0) ∨ (¬ m = 0 ∧ ¬ m < 0) by omega)
  go_enter Try.func26, Try.ntmps26
  go_wp2_with (refine wp_loadT _ rfl rfl rfl (new_two _ _).1 ?_)
  with_reducible refine (HA.out _).mono ?_
  rintro e w1 ⟨rfl, hb⟩
  have K1 := Lib.hid (bstep (HK.out _ _) (by simp; omega) hb)
  have T1 := Lib.hid (show w1.heap[w.heap.size]? = some (tB a b c) from tB_grow (new_two _ _).1 hb)
  have R1 := Lib.hid (show w1.heap[w.heap.size + 1]? = some (tB zP zP zP) from tB_grow (new_two _ _).2 hb)
  have l1 := tB_lt T1.out
  clear hb
  rcases HM.out with rfl | ⟨h, h'⟩ | ⟨h, h'⟩
  · go_wp2_with (first | (refine wp_zeroT rfl rfl ?_) | (refine wp_storeT (a := zP) (b := zP) (c := zP) _ _ rfl rfl rfl rfl rfl R1.out rfl (fun w2 P2 => ?_)))
    refine bodyPost_ret (v := .tuple #[.agg #[.int .i64 zP.x, .int .i64 zP.y, .int .i64 zP.z, .int .i64 zP.a, .int .i64 zP.b, .int .i64 zP.c, .int .i64 zP.d, .int .i64 zP.x, .int .i64 zP.y, .int .i64 zP.z, .int .i64 zP.a, .int .i64 zP.b, .int .i64 zP.c, .int .i64 zP.d, .int .i64 zP.x, .int .i64 zP.y, .int .i64 zP.z, .int .i64 zP.a, .int .i64 zP.b, .int .i64 zP.c, .int .i64 zP.d], .bool false]) (results_two Try.results26 _ _ (w.heap.size + 1) _ _ _ _ rfl rfl P2.out.same) rfl ⟨by simp, ?_⟩
    exact P2.out.below _ _ K1.out (by omega)
  · obtain ⟨⟨c0, c1, c2, c3, c4, c5, c6⟩, ⟨c7, c8, c9, c10, c11, c12, c13⟩, ⟨c14, c15, c16, c17, c18, c19, c20⟩⟩ := tB_cell T1.out
    have fz := tB_free T1.out
    go_upto_region 6 with fail
    obtain ⟨Y, hY⟩ : ∃ Y, Y = set7 (set7 w1 w.heap.size 7 c) w.heap.size 14 b := ⟨_, rfl⟩
    change Code.wp _ _ _ _ (set7 (set7 w1 w.heap.size 7 c) w.heap.size 14 b)
    rw [← hY]
    have TY := Lib.hid (show Y.heap[w.heap.size]? = some (tB a c b) by rw [hY]; exact tB_set2 b (tB_set1 c T1.out))
    have RY := Lib.hid (show Y.heap[w.heap.size + 1]? = some (tB zP zP zP) by rw [hY, set7_other (by omega), set7_other (by omega)]; exact R1.out)
    have KY := Lib.hid (show Below w.heap.size w Y by rw [hY]; exact set7_below 14 b (set7_below 7 c K1.out (Nat.le_refl _)) (Nat.le_refl _))
    clear hY fz c0 c1 c2 c3 c4 c5 c6 c7 c8 c9 c10 c11 c12 c13 c14 c15 c16 c17 c18 c19 c20 T1 R1 K1
    go_wp2_with (first | (refine wp_loadT _ rfl rfl rfl TY.out ?_) | (refine wp_storeT (a := a) (b := c) (c := b) _ _ rfl rfl rfl rfl rfl RY.out rfl (fun w2 P2 => ?_)))
    refine bodyPost_ret (v := .tuple #[.agg #[.int .i64 a.x, .int .i64 a.y, .int .i64 a.z, .int .i64 a.a, .int .i64 a.b, .int .i64 a.c, .int .i64 a.d, .int .i64 c.x, .int .i64 c.y, .int .i64 c.z, .int .i64 c.a, .int .i64 c.b, .int .i64 c.c, .int .i64 c.d, .int .i64 b.x, .int .i64 b.y, .int .i64 b.z, .int .i64 b.a, .int .i64 b.b, .int .i64 b.c, .int .i64 b.d], .bool true]) (results_two Try.results26 _ _ (w.heap.size + 1) _ _ _ _ rfl rfl P2.out.same) rfl ⟨by simp, ?_⟩
    exact P2.out.below _ _ KY.out (by omega)
  · go_wp2_with (first | (refine wp_loadT _ rfl rfl rfl T1.out ?_) | (refine wp_storeT (a := a) (b := b) (c := c) _ _ rfl rfl rfl rfl rfl R1.out rfl (fun w2 P2 => ?_)))
    refine bodyPost_ret (v := .tuple #[.agg #[.int .i64 a.x, .int .i64 a.y, .int .i64 a.z, .int .i64 a.a, .int .i64 a.b, .int .i64 a.c, .int .i64 a.d, .int .i64 b.x, .int .i64 b.y, .int .i64 b.z, .int .i64 b.a, .int .i64 b.b, .int .i64 b.c, .int .i64 b.d, .int .i64 c.x, .int .i64 c.y, .int .i64 c.z, .int .i64 c.a, .int .i64 c.b, .int .i64 c.c, .int .i64 c.d], .bool true]) (results_two Try.results26 _ _ (w.heap.size + 1) _ _ _ _ rfl rfl P2.out.same) rfl ⟨by simp, ?_⟩
    exact P2.out.below _ _ K1.out (by omega)

set_option maxRecDepth 100000 in
set_option maxHeartbeats 1000000 in
theorem rturned_any (a b c : P) (ha : a.sm) (hb : b.sm) (hc : c.sm) (w : World) :
    Calls Try.prog 22 #[.agg #[.int .i64 a.x, .int .i64 a.y, .int .i64 a.z, .int .i64 a.a, .int .i64 a.b, .int .i64 a.c, .int .i64 a.d, .int .i64 b.x, .int .i64 b.y, .int .i64 b.z, .int .i64 b.a, .int .i64 b.b, .int .i64 b.c, .int .i64 b.d, .int .i64 c.x, .int .i64 c.y, .int .i64 c.z, .int .i64 c.a, .int .i64 c.b, .int .i64 c.c, .int .i64 c.d]] w fun e w' => e = .returned (.tuple #[.agg #[.int .i64 (tr1 a b c).x, .int .i64 (tr1 a b c).y, .int .i64 (tr1 a b c).z, .int .i64 (tr1 a b c).a, .int .i64 (tr1 a b c).b, .int .i64 (tr1 a b c).c, .int .i64 (tr1 a b c).d, .int .i64 (tr2 a b c).x, .int .i64 (tr2 a b c).y, .int .i64 (tr2 a b c).z, .int .i64 (tr2 a b c).a, .int .i64 (tr2 a b c).b, .int .i64 (tr2 a b c).c, .int .i64 (tr2 a b c).d, .int .i64 (tr3 a b c).x, .int .i64 (tr3 a b c).y, .int .i64 (tr3 a b c).z, .int .i64 (tr3 a b c).a, .int .i64 (tr3 a b c).b, .int .i64 (tr3 a b c).c, .int .i64 (tr3 a b c).d], .bool (trO a b c)]) ∧ Below w.heap.size w w' := by
  have HK := Lib.hid fun o o' => (((Below.refl w.heap.size w).alloc (Nat.le_refl _) o).alloc (by simp) o')
  have HA := Lib.hid (rarea_any a b c ha hb hc)
  unfold tr1 tr2 tr3 trO
  generalize area a b c = m at *
  clear ha hb hc
  have HM := Lib.hid (show m = 0 ∨ (¬ m = 0 ∧ m < 0) ∨ (¬ m = 0 ∧ ¬ m < 0) by omega)
  go_enter Try.func22, Try.ntmps22
  go_wp2_with (refine wp_loadT _ rfl rfl rfl (new_two _ _).1 ?_)
  with_reducible refine (HA.out _).mono ?_
  rintro e w1 ⟨rfl, hb⟩
  have K1 := Lib.hid (bstep (HK.out _ _) (by simp; omega) hb)
  have T1 := Lib.hid (show w1.heap[w.heap.size]? = some (tB a b c) from tB_grow (new_two _ _).1 hb)
  have R1 := Lib.hid (show w1.heap[w.heap.size + 1]? = some (tB zP zP zP) from tB_grow (new_two _ _).2 hb)
  have l1 := tB_lt T1.out
  clear hb
  rcases HM.out with rfl | ⟨h, h'⟩ | ⟨h, h'⟩
  · go_wp2_with (first | (refine wp_zeroT rfl rfl ?_) | (refine wp_storeT (a := zP) (b := zP) (c := zP) _ _ rfl rfl rfl rfl rfl R1.out rfl (fun w2 P2 => ?_)))
    refine bodyPost_ret (v := .tuple #[.agg #[.int .i64 zP.x, .int .i64 zP.y, .int .i64 zP.z, .int .i64 zP.a, .int .i64 zP.b, .int .i64 zP.c, .int .i64 zP.d, .int .i64 zP.x, .int .i64 zP.y, .int .i64 zP.z, .int .i64 zP.a, .int .i64 zP.b, .int .i64 zP.c, .int .i64 zP.d, .int .i64 zP.x, .int .i64 zP.y, .int .i64 zP.z, .int .i64 zP.a, .int .i64 zP.b, .int .i64 zP.c, .int .i64 zP.d], .bool false]) (results_two Try.results22 _ _ (w.heap.size + 1) _ _ _ _ rfl rfl P2.out.same) rfl ⟨by simp, ?_⟩
    exact P2.out.below _ _ K1.out (by omega)
  · obtain ⟨⟨c0, c1, c2, c3, c4, c5, c6⟩, ⟨c7, c8, c9, c10, c11, c12, c13⟩, ⟨c14, c15, c16, c17, c18, c19, c20⟩⟩ := tB_cell T1.out
    go_wp2_with (first | (refine wp_buildT (a := a) (b := c) (c := b) _ _ _ rfl rfl rfl rfl rfl ?_) | (refine wp_storeT (a := a) (b := c) (c := b) _ _ rfl rfl rfl rfl rfl R1.out rfl (fun w2 P2 => ?_)))
    refine bodyPost_ret (v := .tuple #[.agg #[.int .i64 a.x, .int .i64 a.y, .int .i64 a.z, .int .i64 a.a, .int .i64 a.b, .int .i64 a.c, .int .i64 a.d, .int .i64 c.x, .int .i64 c.y, .int .i64 c.z, .int .i64 c.a, .int .i64 c.b, .int .i64 c.c, .int .i64 c.d, .int .i64 b.x, .int .i64 b.y, .int .i64 b.z, .int .i64 b.a, .int .i64 b.b, .int .i64 b.c, .int .i64 b.d], .bool true]) (results_two Try.results22 _ _ (w.heap.size + 1) _ _ _ _ rfl rfl P2.out.same) rfl ⟨by simp, ?_⟩
    exact P2.out.below _ _ K1.out (by omega)
  · go_wp2_with (first | (refine wp_loadT _ rfl rfl rfl T1.out ?_) | (refine wp_storeT (a := a) (b := b) (c := c) _ _ rfl rfl rfl rfl rfl R1.out rfl (fun w2 P2 => ?_)))
    refine bodyPost_ret (v := .tuple #[.agg #[.int .i64 a.x, .int .i64 a.y, .int .i64 a.z, .int .i64 a.a, .int .i64 a.b, .int .i64 a.c, .int .i64 a.d, .int .i64 b.x, .int .i64 b.y, .int .i64 b.z, .int .i64 b.a, .int .i64 b.b, .int .i64 b.c, .int .i64 b.d, .int .i64 c.x, .int .i64 c.y, .int .i64 c.z, .int .i64 c.a, .int .i64 c.b, .int .i64 c.c, .int .i64 c.d], .bool true]) (results_two Try.results22 _ _ (w.heap.size + 1) _ _ _ _ rfl rfl P2.out.same) rfl ⟨by simp, ?_⟩
    exact P2.out.below _ _ K1.out (by omega)
end Go.Proofs.Ytfdlfjecgefgfaa
