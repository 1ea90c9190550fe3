/-
  The contract of the reference's Small.
-/
import Derived.Test.YtfmmfaeognoleaaGreatM6
import Derived.Test.YtfmmfaeognoleaaGreatM10
import Derived.Test.YtfmmfaeognoleaaGreatM9
import Derived.WalkKit
import Derived.ProofKit
import Derived.OpenShut
import Derived.ShutString
import Derived.ChangeOld
import Derived.Below
import Derived.Lib.SmallJoins
namespace Go.Proofs.YtfmmfaeognoleaaGreat
open Go.RowKit
attribute [local go_sem ↓] Go.wp_at_zero Go.wp_at_succ

/-- What Small answers. -/
def Smal (s : Sc) (w : World) (e : Ending) (w' : World) : Prop := ∃ x : Sc, e = .returned (.agg #[.int .i64 x.w, .int .i64 x.h, .int .u8 x.k.r, .int .u8 x.k.g, .int .u8 x.k.b, .int .u8 x.k.a, .slice x.vA x.vs.length x.vc, .slice x.tA x.ts.length x.tc, .slice x.pA x.ps.length x.pc, .slice x.dA x.ds.length x.dc]) ∧ x.p = smP s.p ∧ x.cap ∧ x.at w' w'.heap.size ∧ Below w.heap.size w w'
theorem wpList_append_len {α : Type} {E : Elem α} {T : TypeId} {w : World} {base B : Nat} {v : Value} {xs ys : List α} {A : Option Addr} {ops : Array Oper} {rest : List Oper} {o : Oper} {k : Act} {Q : Exit → Act → World → Prop} (hgd : o.guard = none) (R : Row E T) (s x : Operand) (c m : Nat) (hm : ys.length = m)
    (ho : o.op = .call { callee := .builtin .append, args := #[s, x], argTypes := #[T, T] }) (hs : k.eval s = v) (hx : k.eval x = .slice A m c)
    (hown : OwnE E w base v xs) (he : Es E w B A ys) (hn : xs.length ≤ 100000000) (hn2 : ys.length ≤ 100000000) (hbase : base ≤ w.heap.size)
    (h : ∀ v' w', w'.ownsRow base E.t E.size v' (xs.length + ys.length) (E.flat xs ++ E.flat ys) → w.grownBy w' v.ownBlock → (v'.ownBlock = v.ownBlock ∨ v'.ownBlock = some w.heap.size) → wpList Tryz.prog ops Q rest (k.put o.dst v') w') : wpList Tryz.prog ops Q (o :: rest) k w := by
  subst hm
  exact wpList_append_es hgd R s x c ho hs hx hown he hn hn2 hbase h
theorem opw_append_len {α : Type} {E : Elem α} {T : TypeId} {w : World} {base B : Nat} {v : Value} {xs ys : List α} {A : Option Addr} {o : Oper} {k : Act} {K : Act → World → Prop} {Q : Exit → Act → World → Prop} (R : Row E T) (s x : Operand) (c m : Nat) (hm : ys.length = m)
    (ho : o.op = .call { callee := .builtin .append, args := #[s, x], argTypes := #[T, T] }) (hs : k.eval s = v) (hx : k.eval x = .slice A m c)
    (hown : OwnE E w base v xs) (he : Es E w B A ys) (hn : xs.length ≤ 100000000) (hn2 : ys.length ≤ 100000000) (hbase : base ≤ w.heap.size)
    (h : ∀ v' w', w'.ownsRow base E.t E.size v' (xs.length + ys.length) (E.flat xs ++ E.flat ys) → w.grownBy w' v.ownBlock → (v'.ownBlock = v.ownBlock ∨ v'.ownBlock = some w.heap.size) → K (k.put o.dst v') w') : o.wp Tryz.prog k w K Q := by
  subst hm
  exact opw_append_es R s x c ho hs hx hown he hn hn2 hbase h
theorem map_take_snoc {α β : Type} {l : List (Lo α)} {f : α → β} {k : Nat} {u : Lo α} (h : l[k]? = some u) : ((l.map Lo.x).take (k + 1)).map f = ((l.map Lo.x).take k).map f ++ [f u.x] := by
  have : (l.map Lo.x)[k]? = some u.x := by rw [List.getElem?_map, h]; rfl
  rw [take_snoc this, List.map_append]
  rfl
/-- Of a row that is new: the slice that it is, of its length's own name. -/
theorem own_form {α : Type} {E : Elem α} {w : World} {base m : Nat} {v : Value} {xs : List α} (h : OwnE E w base v ([] ++ xs)) (hm : xs.length = m) : ∃ A c, v = .slice A m c ∧ m ≤ c ∧ OwnE E w base (.slice A m c) xs := by
  rw [List.nil_append] at h
  obtain ⟨A, c, e, h1, -, -⟩ := h.es
  subst hm e
  exact ⟨A, c, rfl, h1, h⟩
theorem take_cut {α : Type} {l : List α} {k m : Nat} (h : min l.length k = m) : l.take m = l.take k := by
  rcases Nat.le_total l.length k with h1 | h1
  · rw [List.take_of_length_le (by omega), List.take_of_length_le h1]
  · rw [show m = k by omega]
set_option maxRecDepth 100000 in
set_option maxHeartbeats 4000000 in
theorem ou_store {w : World} {g : Nat} {W0 H0 W H : Int} {k0 k : Col} {a1 a2 a3 a4 : Value} (v1 v2 v3 v4 : Value) (h : w.heap[g]? = some (ouB W0 H0 k0 a1 a2 a3 a4)) :
    ((((((((((w.setCell ⟨g, 0, none⟩ (.int .i64 W)).setCell ⟨g, 1, none⟩ (.int .i64 H)).setCell ⟨g, 2, none⟩ (.int .u8 k.r)).setCell ⟨g, 3, none⟩ (.int .u8 k.g)).setCell ⟨g, 4, none⟩ (.int .u8 k.b)).setCell ⟨g, 5, none⟩ (.int .u8 k.a)).setCell ⟨g, 6, none⟩ (v1)).setCell ⟨g, 7, none⟩ (v2)).setCell ⟨g, 8, none⟩ (v3)).setCell ⟨g, 9, none⟩ (v4)).heap[g]? = some (ouB W H k v1 v2 v3 v4) ∧ (∀ B n, g < B → Fx B n w ((((((((((w.setCell ⟨g, 0, none⟩ (.int .i64 W)).setCell ⟨g, 1, none⟩ (.int .i64 H)).setCell ⟨g, 2, none⟩ (.int .u8 k.r)).setCell ⟨g, 3, none⟩ (.int .u8 k.g)).setCell ⟨g, 4, none⟩ (.int .u8 k.b)).setCell ⟨g, 5, none⟩ (.int .u8 k.a)).setCell ⟨g, 6, none⟩ (v1)).setCell ⟨g, 7, none⟩ (v2)).setCell ⟨g, 8, none⟩ (v3)).setCell ⟨g, 9, none⟩ (v4))) ∧ (∀ B w0, B ≤ g → Below B w0 w → Below B w0 ((((((((((w.setCell ⟨g, 0, none⟩ (.int .i64 W)).setCell ⟨g, 1, none⟩ (.int .i64 H)).setCell ⟨g, 2, none⟩ (.int .u8 k.r)).setCell ⟨g, 3, none⟩ (.int .u8 k.g)).setCell ⟨g, 4, none⟩ (.int .u8 k.b)).setCell ⟨g, 5, none⟩ (.int .u8 k.a)).setCell ⟨g, 6, none⟩ (v1)).setCell ⟨g, 7, none⟩ (v2)).setCell ⟨g, 8, none⟩ (v3)).setCell ⟨g, 9, none⟩ (v4))) := by
  unfold ouB at h
  exact ⟨Eq.trans (heap_setCell_same _ _ _ _ _ _ (heap_setCell_same _ _ _ _ _ _ (heap_setCell_same _ _ _ _ _ _ (heap_setCell_same _ _ _ _ _ _ (heap_setCell_same _ _ _ _ _ _ (heap_setCell_same _ _ _ _ _ _ (heap_setCell_same _ _ _ _ _ _ (heap_setCell_same _ _ _ _ _ _ (heap_setCell_same _ _ _ _ _ _ (heap_setCell_same _ _ _ _ _ _ (h))))))))))) (by simp [ouB]), fun B n hg => Fx.set (Fx.set (Fx.set (Fx.set (Fx.set (Fx.set (Fx.set (Fx.set (Fx.set (Fx.set (Fx.refl _ _ _) hg) hg) hg) hg) hg) hg) hg) hg) hg) hg, fun B w0 hg hb => Below.setCell (Below.setCell (Below.setCell (Below.setCell (Below.setCell (Below.setCell (Below.setCell (Below.setCell (Below.setCell (Below.setCell (hb) hg _) hg _) hg _) hg _) hg _) hg _) hg _) hg _) hg _) hg _⟩
/-- The blocks of the scene that came in, of the answer, and of what is under way. -/
structure SmF (w0 : World) (src : Obj) (wr : World) (out : Obj) : Prop where
  s : wr.heap[w0.heap.size]? = some src
  r : wr.heap[w0.heap.size + 1]? = some (ouB 0 0 zC (.slice none 0 0) (.slice none 0 0) (.slice none 0 0) (.slice none 0 0))
  o : wr.heap[w0.heap.size + 1 + 1]? = some out
  b : Below w0.heap.size w0 wr
theorem SmF.z {w0 wr : World} {src out : Obj} (h : SmF w0 src wr out) : w0.heap.size + 3 ≤ wr.heap.size := (Array.getElem?_eq_some_iff.1 h.o).1
theorem SmF.keep {w0 wr w' : World} {src out : Obj} {B : Nat} (h : SmF w0 src wr out) (hb : Below B wr w') (hB : w0.heap.size + 3 ≤ B) : SmF w0 src w' out :=
  ⟨(hb.block _ (by omega)).trans h.s, (hb.block _ (by omega)).trans h.r, (hb.block _ (by omega)).trans h.o, h.b.trans (hb.mono (by omega))⟩
theorem SmF.set {w0 wr : World} {src out out' : Obj} {o : Nat} {u : Value} (h : SmF w0 src wr out) (ho : (wr.setCell ⟨w0.heap.size + 1 + 1, o, none⟩ u).heap[w0.heap.size + 1 + 1]? = some out') : SmF w0 src (wr.setCell ⟨w0.heap.size + 1 + 1, o, none⟩ u) out' :=
  ⟨by rw [heap_setCell_other _ _ _ _ (by simp <;> omega)]; exact h.s, by rw [heap_setCell_other _ _ _ _ (by simp <;> omega)]; exact h.r, ho, h.b.setCell (by simp; omega) _⟩
theorem SmF.other {w0 wr : World} {src out : Obj} {g o : Nat} {u : Value} (h : SmF w0 src wr out) (hg : w0.heap.size + 3 ≤ g) : SmF w0 src (wr.setCell ⟨g, o, none⟩ u) out := h.keep ((Below.refl _ _).setCell (by simp) _) hg
set_option maxRecDepth 100000 in
set_option maxHeartbeats 16000000 in
theorem small_any (s : Sc) (w : World) (ha : s.at w w.heap.size) (hc : s.ok) : Calls Tryz.prog 7 #[.agg #[.int .i64 s.w, .int .i64 s.h, .int .u8 s.k.r, .int .u8 s.k.g, .int .u8 s.k.b, .int .u8 s.k.a, .slice s.vA s.vs.length s.vc, .slice s.tA s.ts.length s.tc, .slice s.pA s.ps.length s.pc, .slice s.dA s.ds.length s.dc]] w (Smal s w) := by
  obtain ⟨RV⟩ := rowV
  obtain ⟨RT⟩ := rowT
  obtain ⟨RC⟩ := rowC
  obtain ⟨RP⟩ := rowP
  obtain ⟨RI⟩ := rowI
  obtain ⟨RD⟩ := rowD
  obtain ⟨RR⟩ := rowR
  have HA := Lib.hid ha
  have HC := Lib.hid hc
  obtain ⟨n1, hn1⟩ : ∃ n, s.vs.length = n := ⟨_, rfl⟩
  obtain ⟨vA, hvA⟩ : ∃ a, s.vA = a := ⟨_, rfl⟩
  obtain ⟨n2, hn2⟩ : ∃ n, s.ts.length = n := ⟨_, rfl⟩
  obtain ⟨tA, htA⟩ : ∃ a, s.tA = a := ⟨_, rfl⟩
  obtain ⟨n3, hn3⟩ : ∃ n, s.ps.length = n := ⟨_, rfl⟩
  obtain ⟨pA, hpA⟩ : ∃ a, s.pA = a := ⟨_, rfl⟩
  obtain ⟨n4, hn4⟩ : ∃ n, s.ds.length = n := ⟨_, rfl⟩
  obtain ⟨dA, hdA⟩ : ∃ a, s.dA = a := ⟨_, rfl⟩
  rw [hn1, hn2, hn3, hn4, hvA, htA, hpA, hdA]
  obtain ⟨q1, hq1⟩ : ∃ q, min n1 66 = q := ⟨_, rfl⟩
  have hq1c : (q1 : Int) ≤ s.vc := by have := hc.vc; omega
  have hm1 : min (n1 : Int) 66 = q1 := by omega
  have hq66 : q1 ≤ 66 := by omega
  obtain ⟨L1, hL1⟩ : ∃ L, s.vs.take 66 = L := ⟨_, rfl⟩
  have SV := Lib.hid (show L1.length = q1 by rw [← hL1, List.length_take]; omega)
  have EVs := Lib.hid (show Es EV w w.heap.size vA L1 by rw [← hvA, ← hL1]; exact ha.v.takes 66)
  have ETs := Lib.hid (show Es ET w w.heap.size tA s.ts by rw [← htA]; exact ha.t)
  have EPs := Lib.hid (show Es EP w w.heap.size pA s.ps by rw [← hpA]; exact ha.p)
  have EDs := Lib.hid (show Es ED w w.heap.size dA s.ds by rw [← hdA]; exact ha.d)
  have LT := Lib.hid (fun (k : Nat) (h : k < n2) => get_lt (l := s.ts) (k := k) (by rw [hn2]; exact h))
  have LP := Lib.hid (fun (k : Nat) (h : k < n3) => get_lt (l := s.ps) (k := k) (by rw [hn3]; exact h))
  have LD := Lib.hid (fun (k : Nat) (h : k < n4) => get_lt (l := s.ds) (k := k) (by rw [hn4]; exact h))
  replace hn1 := Lib.hid hn1
  replace hn2 := Lib.hid hn2
  replace hn3 := Lib.hid hn3
  replace hn4 := Lib.hid hn4
  replace hvA := Lib.hid hvA
  replace htA := Lib.hid htA
  replace hpA := Lib.hid hpA
  replace hdA := Lib.hid hdA
  replace hq1 := Lib.hid hq1
  replace hL1 := Lib.hid hL1
  have F3 : SmF w (ouB s.w s.h s.k (.slice vA n1 s.vc) (.slice tA n2 s.tc) (.slice pA n3 s.pc) (.slice dA n4 s.dc)) ((((w.alloc (.cells #[.int .i64 s.w, .int .i64 s.h, .int .u8 s.k.r, .int .u8 s.k.g, .int .u8 s.k.b, .int .u8 s.k.a, .slice vA n1 s.vc, .slice tA n2 s.tc, .slice pA n3 s.pc, .slice dA n4 s.dc] 29)).alloc (.cells #[.int .i64 0, .int .i64 0, .int .u8 0, .int .u8 0, .int .u8 0, .int .u8 0, .slice none 0 0, .slice none 0 0, .slice none 0 0, .slice none 0 0] 29)).alloc (.cells #[.int .i64 s.w, .int .i64 s.h, .int .u8 s.k.r, .int .u8 s.k.g, .int .u8 s.k.b, .int .u8 s.k.a, .slice vA n1 s.vc, .slice tA n2 s.tc, .slice pA n3 s.pc, .slice dA n4 s.dc] 29)).alloc (.cells #[] 74)) (ouB s.w s.h s.k (.slice vA n1 s.vc) (.slice tA n2 s.tc) (.slice pA n3 s.pc) (.slice dA n4 s.dc)) := by
    refine ⟨?_, ?_, ?_, ?_⟩
    · rw [Below.heap_alloc _ _ _ (by simp <;> omega), Below.heap_alloc _ _ _ (by simp <;> omega), Below.heap_alloc _ _ _ (by simp)]
      exact heap_alloc_new _ _
    · rw [Below.heap_alloc _ _ _ (by simp <;> omega), Below.heap_alloc _ _ _ (by simp)]
      have h := heap_alloc_new ((w.alloc (.cells #[.int .i64 s.w, .int .i64 s.h, .int .u8 s.k.r, .int .u8 s.k.g, .int .u8 s.k.b, .int .u8 s.k.a, .slice vA n1 s.vc, .slice tA n2 s.tc, .slice pA n3 s.pc, .slice dA n4 s.dc] 29))) (ouB 0 0 zC (.slice none 0 0) (.slice none 0 0) (.slice none 0 0) (.slice none 0 0))
      simp only [World.size_alloc] at h
      exact h
    · rw [Below.heap_alloc _ _ _ (by simp <;> omega)]
      have h := heap_alloc_new (((w.alloc (.cells #[.int .i64 s.w, .int .i64 s.h, .int .u8 s.k.r, .int .u8 s.k.g, .int .u8 s.k.b, .int .u8 s.k.a, .slice vA n1 s.vc, .slice tA n2 s.tc, .slice pA n3 s.pc, .slice dA n4 s.dc] 29)).alloc (.cells #[.int .i64 0, .int .i64 0, .int .u8 0, .int .u8 0, .int .u8 0, .int .u8 0, .slice none 0 0, .slice none 0 0, .slice none 0 0, .slice none 0 0] 29))) (ouB s.w s.h s.k (.slice vA n1 s.vc) (.slice tA n2 s.tc) (.slice pA n3 s.pc) (.slice dA n4 s.dc))
      simp only [World.size_alloc] at h
      exact h
    · repeat (first | exact Below.refl _ _ | refine Below.alloc ?_ (by simp <;> omega) _)
  have F3' := Lib.hid F3
  have oe := (ownE_empty (E := EV) (base := w.heap.size + 3) (((w.alloc (.cells #[.int .i64 s.w, .int .i64 s.h, .int .u8 s.k.r, .int .u8 s.k.g, .int .u8 s.k.b, .int .u8 s.k.a, .slice vA n1 s.vc, .slice tA n2 s.tc, .slice pA n3 s.pc, .slice dA n4 s.dc] 29)).alloc (.cells #[.int .i64 0, .int .i64 0, .int .u8 0, .int .u8 0, .int .u8 0, .int .u8 0, .slice none 0 0, .slice none 0 0, .slice none 0 0, .slice none 0 0] 29)).alloc (.cells #[.int .i64 s.w, .int .i64 s.h, .int .u8 s.k.r, .int .u8 s.k.g, .int .u8 s.k.b, .int .u8 s.k.a, .slice vA n1 s.vc, .slice tA n2 s.tc, .slice pA n3 s.pc, .slice dA n4 s.dc] 29)) (by simp))
  simp only [World.size_alloc] at oe
  have OE := Lib.hid oe
  clear oe ha hc F3
  go_enter Tryz.func7, Tryz.ntmps7
  go_wp2_with (at_builtin; first | (refine wpList_append_len rfl RV _ _ s.vc q1 SV.out rfl rfl rfl OE.out (EVs.out.below F3'.out.b) (by simp) (by have := SV.out; omega) (by simp) ?_; intro v' w4 h1 h2 h3; obtain ⟨hO, hB⟩ := ownE_app OE.out h1 h2 (by simp); obtain ⟨A1, c1, rfl, hc1, hO1⟩ := own_form hO SV.out; have F4 := Lib.hid (F3'.out.keep hB (Nat.le_refl _)); have O4 := Lib.hid hO1; obtain ⟨q0, q1', q2, q3, q4, q5, q6, q7, q8, q9⟩ := ouB_cell F4.out.o; have qf6 := ouB_free F4.out.o 6; have qf7 := ouB_free F4.out.o 7; have hgw := F4.out.z; clear h1 h2 h3 hO hB hO1) | go_in)
  have F5 := Lib.hid (F4.out.set (ouB_set6 (.slice A1 q1 c1) F4.out.o))
  have O5 := Lib.hid (O4.out.setCell (g := w.heap.size + 1 + 1) (o := 6) (u := .slice A1 q1 c1) (by omega))
  have F6 := Lib.hid (F5.out.set (ouB_set7 (.slice none 0 0) F5.out.o))
  have O6 := Lib.hid (O5.out.setCell (g := w.heap.size + 1 + 1) (o := 7) (u := .slice none 0 0) (by omega))
  generalize (w4.setCell ⟨w.heap.size + 1 + 1, 6, none⟩ (.slice A1 q1 c1)).setCell ⟨w.heap.size + 1 + 1, 7, none⟩ (.slice none 0 0) = X1 at *
  clear q0 q1' q2 q3 q4 q5 q6 q7 q8 q9 qf6 qf7 hgw F3' OE F4 O4 F5 O5
  obtain ⟨m2, hm2⟩ : ∃ m, min n2 5 = m := ⟨_, rfl⟩
  have XZ1 := F6.out.z
  go_loopw [4] (fun i wr => ∃ (j : Nat) (v : Value) (ls : List (Lo Tx)), j ≤ m2 ∧ i = .int .i64 j ∧ ls.map Lo.x = ((s.ts.map Lo.x).take j).map smT ∧ OwnN ET EC Tx.px wr X1.heap.size v ls ∧ Fx (w.heap.size + 3) X1.heap.size X1 wr ∧ X1.heap.size ≤ wr.heap.size ∧ SmF w (ouB s.w s.h s.k (.slice vA n1 s.vc) (.slice tA n2 s.tc) (.slice pA n3 s.pc) (.slice dA n4 s.dc)) wr (ouB s.w s.h s.k (.slice A1 q1 c1) v (.slice pA n3 s.pc) (.slice dA n4 s.dc))) (fun i _ => m2 - (intOf i).toNat)
  case atStart => exact ⟨0, _, [], Nat.zero_le _, rfl, rfl, OwnN.nil _ _, Fx.refl _ _ _, Nat.le_refl _, F6.out⟩
  case round =>
    obtain ⟨j, v, ls, hj, rfl, hx, ho, hf, hs, hF⟩ := hrel
    have HX := Lib.hid hx
    have HN := Lib.hid ho
    have HFx := Lib.hid hf
    have HF := Lib.hid hF
    have hz := hF.z
    have hll : ls.length ≤ 9 := by
      have := congrArg List.length hx
      rw [List.length_map, List.length_map, List.length_take] at this
      omega
    obtain ⟨s0, s1, s2, s3, s4, s5, s6, s7, s8, s9⟩ := ouB_cell hF.s
    obtain ⟨q0, q1', q2, q3, q4, q5, q6, q7, q8, q9⟩ := ouB_cell hF.o
    have qf := ouB_free hF.o 7
    clear hx ho hf hF
    go_upto_region 5 with fail
    go_cut [29] from 21 to 28 (fun c Xc => c = .bool (decide ((j : Int) < m2)) ∧ Xc = wr)
    case first =>
      by_cases e1 : j < n2
      · by_cases e2 : j < 5
        · have e3 : decide ((j : Int) < 5) = true := by simp; omega
          have d1 : decide ((j : Int) < m2) = true := by simp; omega
          have D1 := Lib.hid d1
          clear d1
          go_wp2_with fail
          go_meet
          exact ⟨by rw [D1.out], rfl⟩
        · have e3 : decide ((j : Int) < 5) = false := by simp; omega
          have d1 : decide ((j : Int) < m2) = false := by simp; omega
          have D1 := Lib.hid d1
          clear d1
          go_wp2_with fail
          go_meet
          exact ⟨by rw [D1.out], rfl⟩
      · have d1 : decide ((j : Int) < m2) = false := by simp; omega
        have D1 := Lib.hid d1
        clear d1
        go_wp2_with fail
        go_meet
        exact ⟨by rw [D1.out], rfl⟩
    case rest =>
    rename World => wc
    obtain ⟨rfl, rfl⟩ := hcut
    by_cases hlt : j < m2
    · have d1 : decide ((j : Int) < m2) = true := by simp; omega
      rw [d1]
      clear d1
      obtain ⟨u, hu⟩ := LT.out j (by omega)
      obtain ⟨b, off, rfl, hbB, hat⟩ := ETs.out.at hu
      obtain ⟨d0, d1, d2⟩ := atT (show AtE ET wc b (off + j * 3) u from hat.below HF.out.b hbB)
      have hbw := Nat.lt_of_lt_of_le hbB HF.out.b.size
      have hmu := List.mem_of_getElem? hu
      have hcc := (HC.out.ts u hmu).2.2.2
      have EI0 := Lib.hid ((HA.out.tx u hmu).takes 260)
      have HU := Lib.hid (map_take_snoc (f := smT) hu)
      obtain ⟨p, hp⟩ : ∃ p, u.x.px.length = p := ⟨_, rfl⟩
      obtain ⟨L, hL⟩ : ∃ L, u.x.px.take 260 = L := ⟨_, rfl⟩
      obtain ⟨q, hq⟩ : ∃ q, min p 260 = q := ⟨_, rfl⟩
      have HLq := Lib.hid (show L.length = q by rw [← hL, List.length_take, hp]; omega)
      rw [hL] at EI0
      have HSm := Lib.hid (show smT u.x = ⟨u.x.w, u.x.h, L⟩ by unfold smT; rw [hL])
      rw [hp] at d2 hcc
      have hqc : (q : Int) ≤ u.c := by omega
      have hmq : min (p : Int) 260 = q := by omega
      have hq260 : q ≤ 260 := by omega
      replace hp := Lib.hid hp
      replace hL := Lib.hid hL
      replace hu := Lib.hid hu
      replace hq := Lib.hid hq
      clear hat hmu hcc
      have F1 := Lib.hid (HF.out.keep (((Below.refl wc.heap.size wc).alloc (Nat.le_refl _) (.cells #[.int .i64 u.x.w, .int .i64 u.x.h, .slice u.A p u.c] 47)).alloc (by simp) (.cells #[] 23)) hz)
      have T1 := Lib.hid (show ((wc.alloc (.cells #[.int .i64 u.x.w, .int .i64 u.x.h, .slice u.A p u.c] 47)).alloc (.cells #[] 23)).heap[wc.heap.size]? = some (.cells #[.int .i64 u.x.w, .int .i64 u.x.h, .slice u.A p u.c] 47 (0, 0)) from new_at20 _ _ _)
      have K1 := Lib.hid (((Below.refl wc.heap.size wc).alloc (Nat.le_refl _) (.cells #[.int .i64 u.x.w, .int .i64 u.x.h, .slice u.A p u.c] 47)).alloc (by simp) (.cells #[] 23))
      have oe := ownE_empty (E := EC) (base := wc.heap.size + 1) (wc.alloc (.cells #[.int .i64 u.x.w, .int .i64 u.x.h, .slice u.A p u.c] 47)) (by simp)
      simp only [World.size_alloc] at oe
      have OE := Lib.hid oe
      clear oe
      go_wp2_with (at_builtin; first
        | (refine wpList_append_len rfl RC _ _ u.c q HLq.out rfl rfl rfl OE.out (EI0.out.below F1.out.b) (by simp) (by have := HLq.out; omega) (by simp) ?_; intro v' w5 h1 h2 h3; obtain ⟨hO, hB⟩ := ownE_app OE.out h1 h2 (by simp); obtain ⟨A', c', rfl, hc', hO5⟩ := own_form hO HLq.out; have O5 := Lib.hid hO5; have t5 := Lib.hid ((hB.block wc.heap.size (by omega)).trans T1.out); have kf : w5.frozen? ⟨wc.heap.size, 2, none⟩ = false := (by have := t5.out; simp [World.frozen?, this]); obtain ⟨k0, k1, k2⟩ : w5.cell? ⟨wc.heap.size, 0, none⟩ = some (.int .i64 u.x.w) ∧ w5.cell? ⟨wc.heap.size, 1, none⟩ = some (.int .i64 u.x.h) ∧ w5.cell? ⟨wc.heap.size, 2, none⟩ = some (.slice u.A p u.c) := ⟨Joins.cell_of_block t5.out 0, Joins.cell_of_block t5.out 1, Joins.cell_of_block t5.out 2⟩; have K5 := Lib.hid ((K1.out.trans (hB.mono (Nat.le_succ _))).setCell (p := ⟨wc.heap.size, 2, none⟩) (Nat.le_refl _) (.slice A' q c')); have F5 := Lib.hid (HF.out.keep K5.out hz); have N5 := Lib.hid (HN.out.keep K5.out); have N6 := Lib.hid (OwnE.alloc N5.out.own (.cells #[.int .i64 u.x.w, .int .i64 u.x.h, .slice A' q c'] 47)); have K6 := Lib.hid (K5.out.alloc (by have := K5.out.size; simpa using this) (.cells #[.int .i64 u.x.w, .int .i64 u.x.h, .slice A' q c'] 47)); have ES6 := Lib.hid (es_one (E := ET) (x := ⟨⟨u.x.w, u.x.h, L⟩, A', c'⟩) (cs := #[.int .i64 u.x.w, .int .i64 u.x.h, .slice A' q c']) (by show [Value.int .i64 u.x.w, .int .i64 u.x.h, .slice A' q c'] = [Value.int .i64 u.x.w, .int .i64 u.x.h, .slice A' L.length c']; rw [HLq.out]) (show ((w5.setCell ⟨wc.heap.size, 2, none⟩ (.slice A' q c')).alloc (.cells #[.int .i64 u.x.w, .int .i64 u.x.h, .slice A' q c'] 47)).heap[w5.heap.size]? = some _ by have h := heap_alloc_new (w5.setCell ⟨wc.heap.size, 2, none⟩ (.slice A' q c')) (.cells #[.int .i64 u.x.w, .int .i64 u.x.h, .slice A' q c'] 47); rwa [World.size_setCell] at h)); have EI6 := Lib.hid (show EsP EC ((w5.setCell ⟨wc.heap.size, 2, none⟩ (.slice A' q c')).alloc (.cells #[.int .i64 u.x.w, .int .i64 u.x.h, .slice A' q c'] 47)) (fun b => X1.heap.size ≤ b ∧ v.ownBlock ≠ some b) A' L from ((hO5.toP.keep (w' := (w5.setCell ⟨wc.heap.size, 2, none⟩ (.slice A' q c')).alloc (.cells #[.int .i64 u.x.w, .int .i64 u.x.h, .slice A' q c'] 47)) (fun b h1 h2 => by rw [Below.heap_alloc _ _ _ (by simpa using h2)]; exact heap_setCell_other _ _ _ _ (by simp; omega))).imp fun b h1 _ => ⟨by omega, fun e => by have := ownE_lt HN.out.own e; omega⟩)); obtain ⟨r0, r1, r2, r3, r4, r5, r6, r7, r8, r9⟩ := ouB_cell F5.out.o; have rz := F5.out.z; have sz6 : wc.heap.size ≤ (w5.setCell ⟨wc.heap.size, 2, none⟩ (.slice A' q c')).heap.size := K5.out.size; simp only [World.size_setCell] at sz6; have szx : wc.heap.size < w5.heap.size := (Array.getElem?_eq_some_iff.1 t5.out).1; have kx : True := trivial; clear h1 h2 h3 hO hB hO5)
        | (refine wpList_append_len rfl RT _ _ 1 1 (show [(⟨⟨u.x.w, u.x.h, L⟩, A', c'⟩ : Lo Tx)].length = 1 from rfl) rfl rfl rfl N6.out ES6.out (by omega) (by simp) (by simp; omega) ?_; intro v' w7 h1 h2 h3; obtain ⟨g', cap', rfl⟩ := ownsRow_succ h1; obtain ⟨hN7, hB7⟩ := HN.out.app K6.out hs h1 h2 h3 EI6.out (show L.length ≤ c' by have := HLq.out; omega); have N7 := Lib.hid hN7; have B7 := Lib.hid hB7; have F7 := Lib.hid (HF.out.keep hB7 XZ1); obtain ⟨z0, z1, z2, z3, z4, z5, z6, z7, z8, z9⟩ := ouB_cell F7.out.o; have zf := ouB_free F7.out.o 7; have zg := F7.out.z; clear h1 h2 h3 hN7 hB7)
        | go_in)
      go_roundw
      case rel => exact ⟨j + 1, _, ls ++ [⟨⟨u.x.w, u.x.h, L⟩, A', c'⟩], by omega, by go_num, by rw [List.map_append, HX.out, HU.out, HSm.out]; rfl, N7.out.set (by omega), (HFx.out.below B7.out (Nat.le_refl _)).set (by omega), by have := B7.out.size; simp; omega, F7.out.set (ouB_set7 _ F7.out.o)⟩
      case measure => simp [intOf]; omega
    · have d1 : decide ((j : Int) < m2) = false := by simp; omega
      rw [d1]
      clear d1
      have hjm : j = m2 := by omega
      rw [hjm] at HX
      clear hjm
      obtain ⟨tA', tc', hv, htc, htO⟩ : ∃ A c, v = .slice A m2 c ∧ m2 ≤ c ∧ ls.length = m2 := by
        obtain ⟨A, c, e, h1, -, -⟩ := HN.out.own.es
        have hl : ls.length = m2 := by
          have := congrArg List.length HX.out
          rw [List.length_map, List.length_map, List.length_take, List.length_map, hn2.out] at this
          omega
        rw [hl] at e h1
        exact ⟨A, c, e, h1, hl⟩
      subst hv
      have OT2 := Lib.hid (HN.out.set (g := w.heap.size + 1 + 1) (o := 8) (u := .slice none 0 0) (by omega))
      have XT2 := HX
      have htl : ls.length = m2 := htO
      have OV2 := Lib.hid ((O6.out.fx HFx.out (Nat.le_refl _) (Nat.le_refl _)).setCell (g := w.heap.size + 1 + 1) (o := 8) (u := .slice none 0 0) (by omega))
      have FX2 := Lib.hid (HF.out.set (ouB_set8 (.slice none 0 0) HF.out.o))
      have qf8 := ouB_free HF.out.o 8
      rename List (Lo Tx) => lst
      clear HN HFx HX
      go_wp2_with fail
      generalize wc.setCell ⟨w.heap.size + 1 + 1, 8, none⟩ (.slice none 0 0) = X2 at *
      clear s0 s1 s2 s3 s4 s5 s6 s7 s8 s9 q0 q1' q2 q3 q4 q5 q6 q7 q8 q9 qf qf8 HF hz hll hs hj
      have XZ2 := FX2.out.z
      obtain ⟨m3, hm3⟩ : ∃ m, min n3 5 = m := ⟨_, rfl⟩
      go_loopw [6] (fun i wr => ∃ (j : Nat) (v : Value) (ls : List (Lo (List C.In))), j ≤ m3 ∧ i = .int .i64 j ∧ ls.map Lo.x = ((s.ps.map Lo.x).take j).map smI ∧ OwnN EP C.EI (fun l => l) wr X2.heap.size v ls ∧ Fx (w.heap.size + 3) X2.heap.size X2 wr ∧ X2.heap.size ≤ wr.heap.size ∧ SmF w (ouB s.w s.h s.k (.slice vA n1 s.vc) (.slice tA n2 s.tc) (.slice pA n3 s.pc) (.slice dA n4 s.dc)) wr (ouB s.w s.h s.k (.slice A1 q1 c1) (.slice tA' m2 tc') v (.slice dA n4 s.dc))) (fun i _ => m3 - (intOf i).toNat)
      case atStart => exact ⟨0, _, [], Nat.zero_le _, rfl, rfl, OwnN.nil _ _, Fx.refl _ _ _, Nat.le_refl _, FX2.out⟩
      case round =>
        obtain ⟨j, v, ls, hj, rfl, hx, ho, hf, hs, hF⟩ := hrel
        have HX := Lib.hid hx
        have HN := Lib.hid ho
        have HFx := Lib.hid hf
        have HF := Lib.hid hF
        have hz := hF.z
        have hll : ls.length ≤ 9 := by
          have := congrArg List.length hx
          rw [List.length_map, List.length_map, List.length_take] at this
          omega
        obtain ⟨s0, s1, s2, s3, s4, s5, s6, s7, s8, s9⟩ := ouB_cell hF.s
        obtain ⟨q0, q1', q2, q3, q4, q5, q6, q7, q8, q9⟩ := ouB_cell hF.o
        have qf := ouB_free hF.o 8
        clear hx ho hf hF
        go_upto_region 12 with fail
        go_cut [62] from 54 to 61 (fun c Xc => c = .bool (decide ((j : Int) < m3)) ∧ Xc = wr)
        case first =>
          by_cases e1 : j < n3
          · by_cases e2 : j < 5
            · have e3 : decide ((j : Int) < 5) = true := by simp; omega
              have d1 : decide ((j : Int) < m3) = true := by simp; omega
              have D1 := Lib.hid d1
              clear d1
              go_wp2_with fail
              go_meet
              exact ⟨by rw [D1.out], rfl⟩
            · have e3 : decide ((j : Int) < 5) = false := by simp; omega
              have d1 : decide ((j : Int) < m3) = false := by simp; omega
              have D1 := Lib.hid d1
              clear d1
              go_wp2_with fail
              go_meet
              exact ⟨by rw [D1.out], rfl⟩
          · have d1 : decide ((j : Int) < m3) = false := by simp; omega
            have D1 := Lib.hid d1
            clear d1
            go_wp2_with fail
            go_meet
            exact ⟨by rw [D1.out], rfl⟩
        case rest =>
        rename World => wc
        obtain ⟨rfl, rfl⟩ := hcut
        by_cases hlt : j < m3
        · have d1 : decide ((j : Int) < m3) = true := by simp; omega
          rw [d1]
          clear d1
          obtain ⟨u, hu⟩ := LP.out j (by omega)
          obtain ⟨b, off, rfl, hbB, hat⟩ := EPs.out.at hu
          have d0 := atP (show AtE EP wc b (off + j * 1) u from hat.below HF.out.b hbB)
          have d0 : wc.cell? ⟨b, off + j, none⟩ = some (.slice u.A u.x.length u.c) := by simpa using d0
          have hbw := Nat.lt_of_lt_of_le hbB HF.out.b.size
          have hmu := List.mem_of_getElem? hu
          have hcc := (HC.out.ps u hmu).2
          have EI0 := Lib.hid ((HA.out.px u hmu).takes 34)
          have HU := Lib.hid (map_take_snoc (f := smI) hu)
          obtain ⟨p, hp⟩ : ∃ p, u.x.length = p := ⟨_, rfl⟩
          obtain ⟨L, hL⟩ : ∃ L, u.x.take 34 = L := ⟨_, rfl⟩
          obtain ⟨q, hq⟩ : ∃ q, min p 34 = q := ⟨_, rfl⟩
          have HLq := Lib.hid (show L.length = q by rw [← hL, List.length_take, hp]; omega)
          rw [hL] at EI0
          have HSm := Lib.hid (show smI u.x = L from hL)
          rw [hp] at d0 hcc
          have hqc : (q : Int) ≤ u.c := by omega
          have hmq : min (p : Int) 34 = q := by omega
          have hq260 : q ≤ 34 := by omega
          replace hp := Lib.hid hp
          replace hL := Lib.hid hL
          replace hu := Lib.hid hu
          replace hq := Lib.hid hq
          clear hat hmu hcc
          have hvb : ∀ x, v.ownBlock = some x → X2.heap.size ≤ x := fun x e => ownE_ge HN.out.own x e
          have NM1 := Lib.hid (show ¬ (w.heap.size = w.heap.size + 1 + 1 ∨ v.ownBlock = some w.heap.size) from fun e => e.elim (fun h => by omega) (fun h => by have := hvb _ h; omega))
          have NM2 := Lib.hid (show ¬ (b = w.heap.size + 1 + 1 ∨ v.ownBlock = some b) from fun e => e.elim (fun h => by omega) (fun h => by have := hvb _ h; omega))
          replace hvb := Lib.hid hvb
          have hgw : w.heap.size + 1 + 1 < wc.heap.size := by omega
          have hgw0 : w.heap.size < wc.heap.size := by omega
          go_wp2_with fail
          have y0 : ∀ w', Om (fun b => b = w.heap.size + 1 + 1 ∨ v.ownBlock = some b) wc w' → w'.cell? ⟨w.heap.size, 8, none⟩ = some (.slice (some ⟨b, off, none⟩) n3 s.pc) := fun w' h => h.cell (by assumption) (NM1.out)
          have y1 : ∀ w', Om (fun b => b = w.heap.size + 1 + 1 ∨ v.ownBlock = some b) wc w' → w'.cell? ⟨b, off + j, none⟩ = some (.slice u.A p u.c) := fun w' h => h.cell (by assumption) (NM2.out)
          refine wp_region_held_drew (S := fun w' => Om (fun b => b = w.heap.size + 1 + 1 ∨ v.ownBlock = some b) wc w') (by kernel_rfl) (om_drew _ _) (fun hS => ?_)
          have B_t0 := Lib.hid (show Below wc.heap.size wc wc.drew from (Below.refl _ _).drew)
          have M_t0 := Lib.hid (om_drew (fun b => b = w.heap.size + 1 + 1 ∨ v.ownBlock = some b) wc)
          generalize wc.drew = t0 at *
          refine wpAnyH_take (i := 0) (v := .pointer (some ⟨w.heap.size + 1 + 1, 8, none⟩)) rfl (by kernel_rfl) (by kernel_rfl) (by kernel_rfl) (fun _ _ _ h => h) (Or.inl ⟨by rfl, fun w hw => by have z0 := y0 w hw; have z1 := y1 w hw; go_simp⟩) hS ?_
          try simp only [Act.put, List.setIfInBounds_toArray, List.set_cons_zero, List.set_cons_succ, List.getElem_toArray, List.getElem_cons_zero]
          refine wpAnyH_take (i := 3) (v := .pointer (some ⟨w.heap.size, 8, none⟩)) rfl (by kernel_rfl) (by kernel_rfl) (by kernel_rfl) (fun _ _ _ h => h) (Or.inl ⟨by rfl, fun w hw => by have z0 := y0 w hw; have z1 := y1 w hw; go_simp⟩) hS ?_
          try simp only [Act.put, List.setIfInBounds_toArray, List.set_cons_zero, List.set_cons_succ, List.getElem_toArray, List.getElem_cons_zero, List.getElem_cons_succ]
          refine wpAnyH_take (i := 4) (v := .slice (some ⟨b, off, none⟩) n3 s.pc) rfl (by kernel_rfl) (by kernel_rfl) (by kernel_rfl) (fun _ _ _ h => h) (Or.inl ⟨by rfl, fun w hw => by have z0 := y0 w hw; have z1 := y1 w hw; go_simp⟩) hS ?_
          try simp only [Act.put, List.setIfInBounds_toArray, List.set_cons_zero, List.set_cons_succ, List.getElem_toArray, List.getElem_cons_zero, List.getElem_cons_succ]
          refine wpAnyH_take (i := 5) (v := .int .i64 j) rfl (by kernel_rfl) (by kernel_rfl) (by kernel_rfl) (fun _ _ _ h => h) (Or.inl ⟨by rfl, fun w hw => by have z0 := y0 w hw; have z1 := y1 w hw; go_simp⟩) hS ?_
          try simp only [Act.put, List.setIfInBounds_toArray, List.set_cons_zero, List.set_cons_succ, List.getElem_toArray, List.getElem_cons_zero, List.getElem_cons_succ]
          refine wpAnyH_take (i := 6) (v := .pointer (some ⟨b, off + j, none⟩)) rfl (by kernel_rfl) (by kernel_rfl) (by kernel_rfl) (fun _ _ _ h => h) (Or.inl ⟨by rfl, fun w hw => by have z0 := y0 w hw; have z1 := y1 w hw; go_simp <;> (intro h; exact absurd h (by omega))⟩) hS ?_
          try simp only [Act.put, List.setIfInBounds_toArray, List.set_cons_zero, List.set_cons_succ, List.getElem_toArray, List.getElem_cons_zero, List.getElem_cons_succ]
          refine wpAnyH_take (i := 7) (v := .slice u.A p u.c) rfl (by kernel_rfl) (by kernel_rfl) (by kernel_rfl) (fun _ _ _ h => h) (Or.inl ⟨by rfl, fun w hw => by have z0 := y0 w hw; have z1 := y1 w hw; go_simp⟩) hS ?_
          try simp only [Act.put, List.setIfInBounds_toArray, List.set_cons_zero, List.set_cons_succ, List.getElem_toArray, List.getElem_cons_zero, List.getElem_cons_succ]
          refine wpAnyH_take (i := 8) (v := .pointer (some ⟨w.heap.size, 8, none⟩)) rfl (by kernel_rfl) (by kernel_rfl) (by kernel_rfl) (fun _ _ _ h => h) (Or.inl ⟨by rfl, fun w hw => by have z0 := y0 w hw; have z1 := y1 w hw; go_simp⟩) hS ?_
          try simp only [Act.put, List.setIfInBounds_toArray, List.set_cons_zero, List.set_cons_succ, List.getElem_toArray, List.getElem_cons_zero, List.getElem_cons_succ]
          refine wpAnyH_take (i := 9) (v := .slice (some ⟨b, off, none⟩) n3 s.pc) rfl (by kernel_rfl) (by kernel_rfl) (by kernel_rfl) (fun _ _ _ h => h) (Or.inl ⟨by rfl, fun w hw => by have z0 := y0 w hw; have z1 := y1 w hw; go_simp⟩) hS ?_
          try simp only [Act.put, List.setIfInBounds_toArray, List.set_cons_zero, List.set_cons_succ, List.getElem_toArray, List.getElem_cons_zero, List.getElem_cons_succ]
          refine wpAnyH_take (i := 10) (v := .int .i64 j) rfl (by kernel_rfl) (by kernel_rfl) (by kernel_rfl) (fun _ _ _ h => h) (Or.inl ⟨by rfl, fun w hw => by have z0 := y0 w hw; have z1 := y1 w hw; go_simp⟩) hS ?_
          try simp only [Act.put, List.setIfInBounds_toArray, List.set_cons_zero, List.set_cons_succ, List.getElem_toArray, List.getElem_cons_zero, List.getElem_cons_succ]
          refine wpAnyH_take (i := 11) (v := .pointer (some ⟨b, off + j, none⟩)) rfl (by kernel_rfl) (by kernel_rfl) (by kernel_rfl) (fun _ _ _ h => h) (Or.inl ⟨by rfl, fun w hw => by have z0 := y0 w hw; have z1 := y1 w hw; go_simp <;> (intro h; exact absurd h (by omega))⟩) hS ?_
          try simp only [Act.put, List.setIfInBounds_toArray, List.set_cons_zero, List.set_cons_succ, List.getElem_toArray, List.getElem_cons_zero, List.getElem_cons_succ]
          refine wpAnyH_take (i := 12) (v := .slice u.A p u.c) rfl (by kernel_rfl) (by kernel_rfl) (by kernel_rfl) (fun _ _ _ h => h) (Or.inl ⟨by rfl, fun w hw => by have z0 := y0 w hw; have z1 := y1 w hw; go_simp⟩) hS ?_
          try simp only [Act.put, List.setIfInBounds_toArray, List.set_cons_zero, List.set_cons_succ, List.getElem_toArray, List.getElem_cons_zero, List.getElem_cons_succ]
          refine wpAnyH_take (i := 13) (v := .int .i64 p) rfl (by kernel_rfl) (by kernel_rfl) (by kernel_rfl) (fun _ _ _ h => h) (Or.inl ⟨by rfl, fun w hw => by have z0 := y0 w hw; have z1 := y1 w hw; go_simp⟩) hS ?_
          try simp only [Act.put, List.setIfInBounds_toArray, List.set_cons_zero, List.set_cons_succ, List.getElem_toArray, List.getElem_cons_zero, List.getElem_cons_succ]
          refine wpAnyH_take (i := 14) (v := .int .i64 q) rfl (by kernel_rfl) (by kernel_rfl) (by kernel_rfl) (fun _ _ _ h => h) (Or.inl ⟨by rfl, fun w hw => by have z0 := y0 w hw; have z1 := y1 w hw; go_simp⟩) hS ?_
          try simp only [Act.put, List.setIfInBounds_toArray, List.set_cons_zero, List.set_cons_succ, List.getElem_toArray, List.getElem_cons_zero, List.getElem_cons_succ]
          refine wpAnyH_take (i := 15) (v := .slice u.A q u.c) rfl (by kernel_rfl) (by kernel_rfl) (by kernel_rfl) (fun _ _ _ h => h) (Or.inl ⟨by rfl, fun w hw => by have z0 := y0 w hw; have z1 := y1 w hw; go_simp⟩) hS ?_
          try simp only [Act.put, List.setIfInBounds_toArray, List.set_cons_zero, List.set_cons_succ, List.getElem_toArray, List.getElem_cons_zero, List.getElem_cons_succ]
          refine wpAnyH_ready (rs := [1, 2]) (by kernel_rfl) (by simp) ?_
          refine AllReadyH.cons rfl (fun K hK => ?_) ?_
          · skip
            have ldc : t0.cell? ⟨w.heap.size + 1 + 1, 8, none⟩ = some v := (B_t0.out.cell (p := ⟨w.heap.size + 1 + 1, 8, none⟩) hgw).trans q8
            have lds := Nat.lt_of_lt_of_le hgw B_t0.out.size
            go_simp
            refine hK.out _ _ M_t0.out (fun hS => ?_)
            clear hK K ldc lds
            try simp only [Act.put, List.setIfInBounds_toArray, List.set_cons_zero, List.set_cons_succ, List.getElem_toArray, List.getElem_cons_zero, List.getElem_cons_succ]
            refine wpAnyH_ready (rs := [2]) (by kernel_rfl) (by simp) ?_
            refine AllReadyH.cons rfl (fun K hK => ?_) AllReadyH.nil
            go_simp
            refine hK.out _ _ (M_t0.out.alloc _) (fun hS => ?_)
            clear hK K hS
            try simp only [Act.put, List.setIfInBounds_toArray, List.set_cons_zero, List.set_cons_succ, List.getElem_toArray, List.getElem_cons_zero, List.getElem_cons_succ]
            obtain ⟨t1, ht⟩ : ∃ t, t = t0.alloc (.cells #[] 76) := ⟨_, rfl⟩
            change wpAnyH _ _ _ _ _ _ _ _ (t0.alloc (.cells #[] 76))
            rw [← ht]
            have B_t1 := Lib.hid (show Below wc.heap.size wc t1 by rw [ht]; exact B_t0.out.alloc B_t0.out.size _)
            have M_t1 := Lib.hid (show Om (fun b => b = w.heap.size + 1 + 1 ∨ v.ownBlock = some b) wc t1 by rw [ht]; exact M_t0.out.alloc _)
            have G_t1 := Lib.hid (show t1.heap[t0.heap.size]? = some (.cells #[] 76) by rw [ht]; exact heap_alloc_new _ _)
            have Z_t1 : t1.heap.size = t0.heap.size + 1 := by rw [ht]; simp
            have OE_t1 := Lib.hid (show OwnE C.EI t1 wc.heap.size (.slice (some ⟨t0.heap.size, 0, none⟩) 0 0) [] by rw [ht]; exact ownE_empty (E := C.EI) t0 B_t0.out.size)
            have hS := M_t1.out
            clear ht
            refine wpAnyH_ready (rs := [16]) (by kernel_rfl) (by simp) ?_
            refine AllReadyH.cons rfl (fun K hK => ?_) AllReadyH.nil
            rw [if_pos (by rfl)]
            refine opw_append_len RI (.tmp 67) (.tmp 80) u.c q HLq.out rfl rfl rfl (OE_t1.out) (EI0.out.below (HF.out.b.trans (B_t1.out.mono (by omega)))) (by simp) (by have := HLq.out; omega) B_t1.out.size ?_
            intro v1 t2 h1 h2 h3
            obtain ⟨hO, hB⟩ := ownE_app OE_t1.out h1 h2 B_t1.out.size
            obtain ⟨A_t2, c_t2, rfl, hc_t2, hO5⟩ := own_form hO HLq.out
            have O_t2 := Lib.hid hO5
            have B_t2 := Lib.hid (B_t1.out.trans hB)
            have M_t2 := Lib.hid (M_t1.out.bel hB)
            clear h1 h2 h3 hO hB hO5
            refine hK.out _ _ M_t2.out (fun hS => ?_)
            clear hK K
            try simp only [Act.put, List.setIfInBounds_toArray, List.set_cons_zero, List.set_cons_succ, List.getElem_toArray, List.getElem_cons_zero, List.getElem_cons_succ]
            refine wpAnyH_ready (rs := [17]) (by kernel_rfl) (by simp) ?_
            refine AllReadyH.cons rfl (fun K hK => ?_) AllReadyH.nil
            go_simp
            refine hK.out _ _ (M_t2.out.alloc _) (fun hS => ?_)
            clear hK K hS
            try simp only [Act.put, List.setIfInBounds_toArray, List.set_cons_zero, List.set_cons_succ, List.getElem_toArray, List.getElem_cons_zero, List.getElem_cons_succ]
            obtain ⟨t3, ht⟩ : ∃ t, t = t2.alloc (.cells #[.slice A_t2 q c_t2] 48) := ⟨_, rfl⟩
            change wpAnyH _ _ _ _ _ _ _ _ (t2.alloc (.cells #[.slice A_t2 q c_t2] 48))
            rw [← ht]
            have B_t3 := Lib.hid (show Below wc.heap.size wc t3 by rw [ht]; exact B_t2.out.alloc B_t2.out.size _)
            have M_t3 := Lib.hid (show Om (fun b => b = w.heap.size + 1 + 1 ∨ v.ownBlock = some b) wc t3 by rw [ht]; exact M_t2.out.alloc _)
            have G_t3 := Lib.hid (show t3.heap[t2.heap.size]? = some (.cells #[.slice A_t2 q c_t2] 48 (0, 0)) by rw [ht]; exact heap_alloc_new _ _)
            have Z_t3 : t3.heap.size = t2.heap.size + 1 := by rw [ht]; simp
            have EI_t2 := Lib.hid (show EsP C.EI t3 (fun b => X2.heap.size ≤ b ∧ v.ownBlock ≠ some b) A_t2 L from ((O_t2.out.toP.keep (w' := t3) (fun b h1 h2 => by rw [ht, Below.heap_alloc _ _ _ h2])).imp fun b h1 _ => ⟨by omega, fun e => by have := ownE_lt HN.out.own e; omega⟩))
            have hS := M_t3.out
            clear ht
            refine wpAnyH_ready (rs := [18]) (by kernel_rfl) (by simp) ?_
            refine AllReadyH.cons rfl (fun K hK => ?_) AllReadyH.nil
            rw [if_pos (by rfl)]
            refine opw_append_len RP (.tmp 66) (.tmp 82) 1 1 (show [(⟨L, A_t2, c_t2⟩ : Lo (List C.In))].length = 1 from rfl) rfl rfl rfl (HN.out.keep B_t3.out).own (es_one (E := EP) (x := ⟨L, A_t2, c_t2⟩) (cs := #[.slice A_t2 q c_t2]) (by show [Value.slice A_t2 q c_t2] = [Value.slice A_t2 L.length c_t2]; rw [HLq.out]) G_t3.out) (by omega) (by simp) (by have := B_t3.out.size; omega) ?_
            intro v' w7 h1 h2 h3
            obtain ⟨g', cap', rfl⟩ := ownsRow_succ h1
            obtain ⟨hN7, hB7⟩ := HN.out.app B_t3.out hs h1 h2 h3 EI_t2.out (show L.length ≤ c_t2 by have := HLq.out; omega)
            have N7 := Lib.hid hN7
            have B7 := Lib.hid hB7
            have F7 := Lib.hid (HF.out.keep hB7 XZ2)
            have M7 := Lib.hid (M_t3.out.grown h2 (fun r e => .inl (.inr e)))
            obtain ⟨z0, z1, z2, z3, z4, z5, z6, z7, z8, z9⟩ := ouB_cell F7.out.o
            have zf := ouB_free F7.out.o 8
            have zg := F7.out.z
            clear h1 h2 h3 hN7 hB7
            refine hK.out _ _ M7.out (fun hS => ?_)
            clear hK K
            try simp only [Act.put, List.setIfInBounds_toArray, List.set_cons_zero, List.set_cons_succ, List.getElem_toArray, List.getElem_cons_zero, List.getElem_cons_succ]
            refine wpAnyH_take (i := 19) (v := .pointer (some ⟨w.heap.size + 1 + 1, 8, none⟩)) rfl (by kernel_rfl) (by kernel_rfl) (by kernel_rfl) (fun _ _ _ h => h) (Or.inl ⟨by rfl, fun w hw => by go_simp⟩) hS ?_
            try simp only [Act.put, List.setIfInBounds_toArray, List.set_cons_zero, List.set_cons_succ, List.getElem_toArray, List.getElem_cons_zero, List.getElem_cons_succ]
            refine wpAnyH_ready (rs := [20]) (by kernel_rfl) (by simp) ?_
            refine AllReadyH.cons rfl (fun K hK => ?_) AllReadyH.nil
            go_simp
            refine hK.out _ _ (M7.out.set (.inl (.inl rfl))) (fun hS => ?_)
            clear hK K hS
            try simp only [Act.put, List.setIfInBounds_toArray, List.set_cons_zero, List.set_cons_succ, List.getElem_toArray, List.getElem_cons_zero, List.getElem_cons_succ]
            refine wpAnyH_done (by kernel_rfl) ?_ _
            go_wp2_with fail
            go_roundw
            case rel => exact ⟨j + 1, _, ls ++ [⟨L, A_t2, c_t2⟩], by omega, by go_num, by rw [List.map_append, HX.out, HU.out, HSm.out]; rfl, N7.out.set (by omega), (HFx.out.below B7.out (Nat.le_refl _)).set (by omega), by have := B7.out.size; simp; omega, F7.out.set (ouB_set8 _ F7.out.o)⟩
            case measure => simp [intOf]; omega
          refine AllReadyH.cons rfl (fun K hK => ?_) ?_
          · skip
            go_simp
            refine hK.out _ _ (M_t0.out.alloc _) (fun hS => ?_)
            clear hK K hS
            try simp only [Act.put, List.setIfInBounds_toArray, List.set_cons_zero, List.set_cons_succ, List.getElem_toArray, List.getElem_cons_zero, List.getElem_cons_succ]
            obtain ⟨t4, ht⟩ : ∃ t, t = t0.alloc (.cells #[] 76) := ⟨_, rfl⟩
            change wpAnyH _ _ _ _ _ _ _ _ (t0.alloc (.cells #[] 76))
            rw [← ht]
            have B_t4 := Lib.hid (show Below wc.heap.size wc t4 by rw [ht]; exact B_t0.out.alloc B_t0.out.size _)
            have M_t4 := Lib.hid (show Om (fun b => b = w.heap.size + 1 + 1 ∨ v.ownBlock = some b) wc t4 by rw [ht]; exact M_t0.out.alloc _)
            have G_t4 := Lib.hid (show t4.heap[t0.heap.size]? = some (.cells #[] 76) by rw [ht]; exact heap_alloc_new _ _)
            have Z_t4 : t4.heap.size = t0.heap.size + 1 := by rw [ht]; simp
            have OE_t4 := Lib.hid (show OwnE C.EI t4 wc.heap.size (.slice (some ⟨t0.heap.size, 0, none⟩) 0 0) [] by rw [ht]; exact ownE_empty (E := C.EI) t0 B_t0.out.size)
            have hS := M_t4.out
            clear ht
            refine wpAnyH_ready (rs := [1, 16]) (by kernel_rfl) (by simp) ?_
            refine AllReadyH.cons rfl (fun K hK => ?_) ?_
            · skip
              have ldc : t4.cell? ⟨w.heap.size + 1 + 1, 8, none⟩ = some v := (B_t4.out.cell (p := ⟨w.heap.size + 1 + 1, 8, none⟩) hgw).trans q8
              have lds := Nat.lt_of_lt_of_le hgw B_t4.out.size
              go_simp
              refine hK.out _ _ M_t4.out (fun hS => ?_)
              clear hK K ldc lds
              try simp only [Act.put, List.setIfInBounds_toArray, List.set_cons_zero, List.set_cons_succ, List.getElem_toArray, List.getElem_cons_zero, List.getElem_cons_succ]
              refine wpAnyH_ready (rs := [16]) (by kernel_rfl) (by simp) ?_
              refine AllReadyH.cons rfl (fun K hK => ?_) AllReadyH.nil
              rw [if_pos (by rfl)]
              refine opw_append_len RI (.tmp 67) (.tmp 80) u.c q HLq.out rfl rfl rfl (OE_t4.out) (EI0.out.below (HF.out.b.trans (B_t4.out.mono (by omega)))) (by simp) (by have := HLq.out; omega) B_t4.out.size ?_
              intro v1 t5 h1 h2 h3
              obtain ⟨hO, hB⟩ := ownE_app OE_t4.out h1 h2 B_t4.out.size
              obtain ⟨A_t5, c_t5, rfl, hc_t5, hO5⟩ := own_form hO HLq.out
              have O_t5 := Lib.hid hO5
              have B_t5 := Lib.hid (B_t4.out.trans hB)
              have M_t5 := Lib.hid (M_t4.out.bel hB)
              clear h1 h2 h3 hO hB hO5
              refine hK.out _ _ M_t5.out (fun hS => ?_)
              clear hK K
              try simp only [Act.put, List.setIfInBounds_toArray, List.set_cons_zero, List.set_cons_succ, List.getElem_toArray, List.getElem_cons_zero, List.getElem_cons_succ]
              refine wpAnyH_ready (rs := [17]) (by kernel_rfl) (by simp) ?_
              refine AllReadyH.cons rfl (fun K hK => ?_) AllReadyH.nil
              go_simp
              refine hK.out _ _ (M_t5.out.alloc _) (fun hS => ?_)
              clear hK K hS
              try simp only [Act.put, List.setIfInBounds_toArray, List.set_cons_zero, List.set_cons_succ, List.getElem_toArray, List.getElem_cons_zero, List.getElem_cons_succ]
              obtain ⟨t6, ht⟩ : ∃ t, t = t5.alloc (.cells #[.slice A_t5 q c_t5] 48) := ⟨_, rfl⟩
              change wpAnyH _ _ _ _ _ _ _ _ (t5.alloc (.cells #[.slice A_t5 q c_t5] 48))
              rw [← ht]
              have B_t6 := Lib.hid (show Below wc.heap.size wc t6 by rw [ht]; exact B_t5.out.alloc B_t5.out.size _)
              have M_t6 := Lib.hid (show Om (fun b => b = w.heap.size + 1 + 1 ∨ v.ownBlock = some b) wc t6 by rw [ht]; exact M_t5.out.alloc _)
              have G_t6 := Lib.hid (show t6.heap[t5.heap.size]? = some (.cells #[.slice A_t5 q c_t5] 48 (0, 0)) by rw [ht]; exact heap_alloc_new _ _)
              have Z_t6 : t6.heap.size = t5.heap.size + 1 := by rw [ht]; simp
              have EI_t5 := Lib.hid (show EsP C.EI t6 (fun b => X2.heap.size ≤ b ∧ v.ownBlock ≠ some b) A_t5 L from ((O_t5.out.toP.keep (w' := t6) (fun b h1 h2 => by rw [ht, Below.heap_alloc _ _ _ h2])).imp fun b h1 _ => ⟨by omega, fun e => by have := ownE_lt HN.out.own e; omega⟩))
              have hS := M_t6.out
              clear ht
              refine wpAnyH_ready (rs := [18]) (by kernel_rfl) (by simp) ?_
              refine AllReadyH.cons rfl (fun K hK => ?_) AllReadyH.nil
              rw [if_pos (by rfl)]
              refine opw_append_len RP (.tmp 66) (.tmp 82) 1 1 (show [(⟨L, A_t5, c_t5⟩ : Lo (List C.In))].length = 1 from rfl) rfl rfl rfl (HN.out.keep B_t6.out).own (es_one (E := EP) (x := ⟨L, A_t5, c_t5⟩) (cs := #[.slice A_t5 q c_t5]) (by show [Value.slice A_t5 q c_t5] = [Value.slice A_t5 L.length c_t5]; rw [HLq.out]) G_t6.out) (by omega) (by simp) (by have := B_t6.out.size; omega) ?_
              intro v' w7 h1 h2 h3
              obtain ⟨g', cap', rfl⟩ := ownsRow_succ h1
              obtain ⟨hN7, hB7⟩ := HN.out.app B_t6.out hs h1 h2 h3 EI_t5.out (show L.length ≤ c_t5 by have := HLq.out; omega)
              have N7 := Lib.hid hN7
              have B7 := Lib.hid hB7
              have F7 := Lib.hid (HF.out.keep hB7 XZ2)
              have M7 := Lib.hid (M_t6.out.grown h2 (fun r e => .inl (.inr e)))
              obtain ⟨z0, z1, z2, z3, z4, z5, z6, z7, z8, z9⟩ := ouB_cell F7.out.o
              have zf := ouB_free F7.out.o 8
              have zg := F7.out.z
              clear h1 h2 h3 hN7 hB7
              refine hK.out _ _ M7.out (fun hS => ?_)
              clear hK K
              try simp only [Act.put, List.setIfInBounds_toArray, List.set_cons_zero, List.set_cons_succ, List.getElem_toArray, List.getElem_cons_zero, List.getElem_cons_succ]
              refine wpAnyH_take (i := 19) (v := .pointer (some ⟨w.heap.size + 1 + 1, 8, none⟩)) rfl (by kernel_rfl) (by kernel_rfl) (by kernel_rfl) (fun _ _ _ h => h) (Or.inl ⟨by rfl, fun w hw => by go_simp⟩) hS ?_
              try simp only [Act.put, List.setIfInBounds_toArray, List.set_cons_zero, List.set_cons_succ, List.getElem_toArray, List.getElem_cons_zero, List.getElem_cons_succ]
              refine wpAnyH_ready (rs := [20]) (by kernel_rfl) (by simp) ?_
              refine AllReadyH.cons rfl (fun K hK => ?_) AllReadyH.nil
              go_simp
              refine hK.out _ _ (M7.out.set (.inl (.inl rfl))) (fun hS => ?_)
              clear hK K hS
              try simp only [Act.put, List.setIfInBounds_toArray, List.set_cons_zero, List.set_cons_succ, List.getElem_toArray, List.getElem_cons_zero, List.getElem_cons_succ]
              refine wpAnyH_done (by kernel_rfl) ?_ _
              go_wp2_with fail
              go_roundw
              case rel => exact ⟨j + 1, _, ls ++ [⟨L, A_t5, c_t5⟩], by omega, by go_num, by rw [List.map_append, HX.out, HU.out, HSm.out]; rfl, N7.out.set (by omega), (HFx.out.below B7.out (Nat.le_refl _)).set (by omega), by have := B7.out.size; simp; omega, F7.out.set (ouB_set8 _ F7.out.o)⟩
              case measure => simp [intOf]; omega
            refine AllReadyH.cons rfl (fun K hK => ?_) ?_
            · skip
              rw [if_pos (by rfl)]
              refine opw_append_len RI (.tmp 67) (.tmp 80) u.c q HLq.out rfl rfl rfl (OE_t4.out) (EI0.out.below (HF.out.b.trans (B_t4.out.mono (by omega)))) (by simp) (by have := HLq.out; omega) B_t4.out.size ?_
              intro v1 t7 h1 h2 h3
              obtain ⟨hO, hB⟩ := ownE_app OE_t4.out h1 h2 B_t4.out.size
              obtain ⟨A_t7, c_t7, rfl, hc_t7, hO5⟩ := own_form hO HLq.out
              have O_t7 := Lib.hid hO5
              have B_t7 := Lib.hid (B_t4.out.trans hB)
              have M_t7 := Lib.hid (M_t4.out.bel hB)
              clear h1 h2 h3 hO hB hO5
              refine hK.out _ _ M_t7.out (fun hS => ?_)
              clear hK K
              try simp only [Act.put, List.setIfInBounds_toArray, List.set_cons_zero, List.set_cons_succ, List.getElem_toArray, List.getElem_cons_zero, List.getElem_cons_succ]
              refine wpAnyH_ready (rs := [1, 17]) (by kernel_rfl) (by simp) ?_
              refine AllReadyH.cons rfl (fun K hK => ?_) ?_
              · skip
                have ldc : t7.cell? ⟨w.heap.size + 1 + 1, 8, none⟩ = some v := (B_t7.out.cell (p := ⟨w.heap.size + 1 + 1, 8, none⟩) hgw).trans q8
                have lds := Nat.lt_of_lt_of_le hgw B_t7.out.size
                go_simp
                refine hK.out _ _ M_t7.out (fun hS => ?_)
                clear hK K ldc lds
                try simp only [Act.put, List.setIfInBounds_toArray, List.set_cons_zero, List.set_cons_succ, List.getElem_toArray, List.getElem_cons_zero, List.getElem_cons_succ]
                refine wpAnyH_ready (rs := [17]) (by kernel_rfl) (by simp) ?_
                refine AllReadyH.cons rfl (fun K hK => ?_) AllReadyH.nil
                go_simp
                refine hK.out _ _ (M_t7.out.alloc _) (fun hS => ?_)
                clear hK K hS
                try simp only [Act.put, List.setIfInBounds_toArray, List.set_cons_zero, List.set_cons_succ, List.getElem_toArray, List.getElem_cons_zero, List.getElem_cons_succ]
                obtain ⟨t8, ht⟩ : ∃ t, t = t7.alloc (.cells #[.slice A_t7 q c_t7] 48) := ⟨_, rfl⟩
                change wpAnyH _ _ _ _ _ _ _ _ (t7.alloc (.cells #[.slice A_t7 q c_t7] 48))
                rw [← ht]
                have B_t8 := Lib.hid (show Below wc.heap.size wc t8 by rw [ht]; exact B_t7.out.alloc B_t7.out.size _)
                have M_t8 := Lib.hid (show Om (fun b => b = w.heap.size + 1 + 1 ∨ v.ownBlock = some b) wc t8 by rw [ht]; exact M_t7.out.alloc _)
                have G_t8 := Lib.hid (show t8.heap[t7.heap.size]? = some (.cells #[.slice A_t7 q c_t7] 48 (0, 0)) by rw [ht]; exact heap_alloc_new _ _)
                have Z_t8 : t8.heap.size = t7.heap.size + 1 := by rw [ht]; simp
                have EI_t7 := Lib.hid (show EsP C.EI t8 (fun b => X2.heap.size ≤ b ∧ v.ownBlock ≠ some b) A_t7 L from ((O_t7.out.toP.keep (w' := t8) (fun b h1 h2 => by rw [ht, Below.heap_alloc _ _ _ h2])).imp fun b h1 _ => ⟨by omega, fun e => by have := ownE_lt HN.out.own e; omega⟩))
                have hS := M_t8.out
                clear ht
                refine wpAnyH_ready (rs := [18]) (by kernel_rfl) (by simp) ?_
                refine AllReadyH.cons rfl (fun K hK => ?_) AllReadyH.nil
                rw [if_pos (by rfl)]
                refine opw_append_len RP (.tmp 66) (.tmp 82) 1 1 (show [(⟨L, A_t7, c_t7⟩ : Lo (List C.In))].length = 1 from rfl) rfl rfl rfl (HN.out.keep B_t8.out).own (es_one (E := EP) (x := ⟨L, A_t7, c_t7⟩) (cs := #[.slice A_t7 q c_t7]) (by show [Value.slice A_t7 q c_t7] = [Value.slice A_t7 L.length c_t7]; rw [HLq.out]) G_t8.out) (by omega) (by simp) (by have := B_t8.out.size; omega) ?_
                intro v' w7 h1 h2 h3
                obtain ⟨g', cap', rfl⟩ := ownsRow_succ h1
                obtain ⟨hN7, hB7⟩ := HN.out.app B_t8.out hs h1 h2 h3 EI_t7.out (show L.length ≤ c_t7 by have := HLq.out; omega)
                have N7 := Lib.hid hN7
                have B7 := Lib.hid hB7
                have F7 := Lib.hid (HF.out.keep hB7 XZ2)
                have M7 := Lib.hid (M_t8.out.grown h2 (fun r e => .inl (.inr e)))
                obtain ⟨z0, z1, z2, z3, z4, z5, z6, z7, z8, z9⟩ := ouB_cell F7.out.o
                have zf := ouB_free F7.out.o 8
                have zg := F7.out.z
                clear h1 h2 h3 hN7 hB7
                refine hK.out _ _ M7.out (fun hS => ?_)
                clear hK K
                try simp only [Act.put, List.setIfInBounds_toArray, List.set_cons_zero, List.set_cons_succ, List.getElem_toArray, List.getElem_cons_zero, List.getElem_cons_succ]
                refine wpAnyH_take (i := 19) (v := .pointer (some ⟨w.heap.size + 1 + 1, 8, none⟩)) rfl (by kernel_rfl) (by kernel_rfl) (by kernel_rfl) (fun _ _ _ h => h) (Or.inl ⟨by rfl, fun w hw => by go_simp⟩) hS ?_
                try simp only [Act.put, List.setIfInBounds_toArray, List.set_cons_zero, List.set_cons_succ, List.getElem_toArray, List.getElem_cons_zero, List.getElem_cons_succ]
                refine wpAnyH_ready (rs := [20]) (by kernel_rfl) (by simp) ?_
                refine AllReadyH.cons rfl (fun K hK => ?_) AllReadyH.nil
                go_simp
                refine hK.out _ _ (M7.out.set (.inl (.inl rfl))) (fun hS => ?_)
                clear hK K hS
                try simp only [Act.put, List.setIfInBounds_toArray, List.set_cons_zero, List.set_cons_succ, List.getElem_toArray, List.getElem_cons_zero, List.getElem_cons_succ]
                refine wpAnyH_done (by kernel_rfl) ?_ _
                go_wp2_with fail
                go_roundw
                case rel => exact ⟨j + 1, _, ls ++ [⟨L, A_t7, c_t7⟩], by omega, by go_num, by rw [List.map_append, HX.out, HU.out, HSm.out]; rfl, N7.out.set (by omega), (HFx.out.below B7.out (Nat.le_refl _)).set (by omega), by have := B7.out.size; simp; omega, F7.out.set (ouB_set8 _ F7.out.o)⟩
                case measure => simp [intOf]; omega
              refine AllReadyH.cons rfl (fun K hK => ?_) ?_
              · skip
                go_simp
                refine hK.out _ _ (M_t7.out.alloc _) (fun hS => ?_)
                clear hK K hS
                try simp only [Act.put, List.setIfInBounds_toArray, List.set_cons_zero, List.set_cons_succ, List.getElem_toArray, List.getElem_cons_zero, List.getElem_cons_succ]
                obtain ⟨t9, ht⟩ : ∃ t, t = t7.alloc (.cells #[.slice A_t7 q c_t7] 48) := ⟨_, rfl⟩
                change wpAnyH _ _ _ _ _ _ _ _ (t7.alloc (.cells #[.slice A_t7 q c_t7] 48))
                rw [← ht]
                have B_t9 := Lib.hid (show Below wc.heap.size wc t9 by rw [ht]; exact B_t7.out.alloc B_t7.out.size _)
                have M_t9 := Lib.hid (show Om (fun b => b = w.heap.size + 1 + 1 ∨ v.ownBlock = some b) wc t9 by rw [ht]; exact M_t7.out.alloc _)
                have G_t9 := Lib.hid (show t9.heap[t7.heap.size]? = some (.cells #[.slice A_t7 q c_t7] 48 (0, 0)) by rw [ht]; exact heap_alloc_new _ _)
                have Z_t9 : t9.heap.size = t7.heap.size + 1 := by rw [ht]; simp
                have EI_t7 := Lib.hid (show EsP C.EI t9 (fun b => X2.heap.size ≤ b ∧ v.ownBlock ≠ some b) A_t7 L from ((O_t7.out.toP.keep (w' := t9) (fun b h1 h2 => by rw [ht, Below.heap_alloc _ _ _ h2])).imp fun b h1 _ => ⟨by omega, fun e => by have := ownE_lt HN.out.own e; omega⟩))
                have hS := M_t9.out
                clear ht
                refine wpAnyH_ready (rs := [1]) (by kernel_rfl) (by simp) ?_
                refine AllReadyH.cons rfl (fun K hK => ?_) AllReadyH.nil
                have ldc : t9.cell? ⟨w.heap.size + 1 + 1, 8, none⟩ = some v := (B_t9.out.cell (p := ⟨w.heap.size + 1 + 1, 8, none⟩) hgw).trans q8
                have lds := Nat.lt_of_lt_of_le hgw B_t9.out.size
                go_simp
                refine hK.out _ _ M_t9.out (fun hS => ?_)
                clear hK K ldc lds
                try simp only [Act.put, List.setIfInBounds_toArray, List.set_cons_zero, List.set_cons_succ, List.getElem_toArray, List.getElem_cons_zero, List.getElem_cons_succ]
                refine wpAnyH_ready (rs := [18]) (by kernel_rfl) (by simp) ?_
                refine AllReadyH.cons rfl (fun K hK => ?_) AllReadyH.nil
                rw [if_pos (by rfl)]
                refine opw_append_len RP (.tmp 66) (.tmp 82) 1 1 (show [(⟨L, A_t7, c_t7⟩ : Lo (List C.In))].length = 1 from rfl) rfl rfl rfl (HN.out.keep B_t9.out).own (es_one (E := EP) (x := ⟨L, A_t7, c_t7⟩) (cs := #[.slice A_t7 q c_t7]) (by show [Value.slice A_t7 q c_t7] = [Value.slice A_t7 L.length c_t7]; rw [HLq.out]) G_t9.out) (by omega) (by simp) (by have := B_t9.out.size; omega) ?_
                intro v' w7 h1 h2 h3
                obtain ⟨g', cap', rfl⟩ := ownsRow_succ h1
                obtain ⟨hN7, hB7⟩ := HN.out.app B_t9.out hs h1 h2 h3 EI_t7.out (show L.length ≤ c_t7 by have := HLq.out; omega)
                have N7 := Lib.hid hN7
                have B7 := Lib.hid hB7
                have F7 := Lib.hid (HF.out.keep hB7 XZ2)
                have M7 := Lib.hid (M_t9.out.grown h2 (fun r e => .inl (.inr e)))
                obtain ⟨z0, z1, z2, z3, z4, z5, z6, z7, z8, z9⟩ := ouB_cell F7.out.o
                have zf := ouB_free F7.out.o 8
                have zg := F7.out.z
                clear h1 h2 h3 hN7 hB7
                refine hK.out _ _ M7.out (fun hS => ?_)
                clear hK K
                try simp only [Act.put, List.setIfInBounds_toArray, List.set_cons_zero, List.set_cons_succ, List.getElem_toArray, List.getElem_cons_zero, List.getElem_cons_succ]
                refine wpAnyH_take (i := 19) (v := .pointer (some ⟨w.heap.size + 1 + 1, 8, none⟩)) rfl (by kernel_rfl) (by kernel_rfl) (by kernel_rfl) (fun _ _ _ h => h) (Or.inl ⟨by rfl, fun w hw => by go_simp⟩) hS ?_
                try simp only [Act.put, List.setIfInBounds_toArray, List.set_cons_zero, List.set_cons_succ, List.getElem_toArray, List.getElem_cons_zero, List.getElem_cons_succ]
                refine wpAnyH_ready (rs := [20]) (by kernel_rfl) (by simp) ?_
                refine AllReadyH.cons rfl (fun K hK => ?_) AllReadyH.nil
                go_simp
                refine hK.out _ _ (M7.out.set (.inl (.inl rfl))) (fun hS => ?_)
                clear hK K hS
                try simp only [Act.put, List.setIfInBounds_toArray, List.set_cons_zero, List.set_cons_succ, List.getElem_toArray, List.getElem_cons_zero, List.getElem_cons_succ]
                refine wpAnyH_done (by kernel_rfl) ?_ _
                go_wp2_with fail
                go_roundw
                case rel => exact ⟨j + 1, _, ls ++ [⟨L, A_t7, c_t7⟩], by omega, by go_num, by rw [List.map_append, HX.out, HU.out, HSm.out]; rfl, N7.out.set (by omega), (HFx.out.below B7.out (Nat.le_refl _)).set (by omega), by have := B7.out.size; simp; omega, F7.out.set (ouB_set8 _ F7.out.o)⟩
                case measure => simp [intOf]; omega
              exact AllReadyH.nil
            exact AllReadyH.nil
          exact AllReadyH.nil
        · have d1 : decide ((j : Int) < m3) = false := by simp; omega
          rw [d1]
          clear d1
          have hjm : j = m3 := by omega
          rw [hjm] at HX
          clear hjm
          obtain ⟨pA', pc', hv, hpc, hpO⟩ : ∃ A c, v = .slice A m3 c ∧ m3 ≤ c ∧ ls.length = m3 := by
            obtain ⟨A, c, e, h1, -, -⟩ := HN.out.own.es
            have hl : ls.length = m3 := by
              have := congrArg List.length HX.out
              rw [List.length_map, List.length_map, List.length_take, List.length_map, hn3.out] at this
              omega
            rw [hl] at e h1
            exact ⟨A, c, e, h1, hl⟩
          subst hv
          have OP3 := Lib.hid (HN.out.set (g := w.heap.size + 1 + 1) (o := 9) (u := .slice none 0 0) (by omega))
          have XP3 := HX
          have hpl : ls.length = m3 := hpO
          have OT3 := Lib.hid ((OT2.out.fx HFx.out (by omega) (Nat.le_refl _)).set (g := w.heap.size + 1 + 1) (o := 9) (u := .slice none 0 0) (by omega))
          have OV3 := Lib.hid ((OV2.out.fx HFx.out (by omega) (Nat.le_refl _)).setCell (g := w.heap.size + 1 + 1) (o := 9) (u := .slice none 0 0) (by omega))
          have FX3 := Lib.hid (HF.out.set (ouB_set9 (.slice none 0 0) HF.out.o))
          have qf9 := ouB_free HF.out.o 9
          rename List (Lo (List C.In)) => lsp
          clear HN HFx HX
          go_wp2_with fail
          generalize wc.setCell ⟨w.heap.size + 1 + 1, 9, none⟩ (.slice none 0 0) = X3 at *
          clear s0 s1 s2 s3 s4 s5 s6 s7 s8 s9 q0 q1' q2 q3 q4 q5 q6 q7 q8 q9 qf qf9 HF hz hll hs hj
          have XZ3 := FX3.out.z
          obtain ⟨m4, hm4⟩ : ∃ m, min n4 9 = m := ⟨_, rfl⟩
          go_loopw [7] (fun i wr => ∃ (j : Nat) (v : Value) (ls : List (Lo Dr)), j ≤ m4 ∧ i = .int .i64 j ∧ ls.map Lo.x = ((s.ds.map Lo.x).take j).map smD ∧ OwnN ED ER Dr.tris wr X3.heap.size v ls ∧ Fx (w.heap.size + 3) X3.heap.size X3 wr ∧ X3.heap.size ≤ wr.heap.size ∧ SmF w (ouB s.w s.h s.k (.slice vA n1 s.vc) (.slice tA n2 s.tc) (.slice pA n3 s.pc) (.slice dA n4 s.dc)) wr (ouB s.w s.h s.k (.slice A1 q1 c1) (.slice tA' m2 tc') (.slice pA' m3 pc') v)) (fun i _ => m4 - (intOf i).toNat)
          case atStart => exact ⟨0, _, [], Nat.zero_le _, rfl, rfl, OwnN.nil _ _, Fx.refl _ _ _, Nat.le_refl _, FX3.out⟩
          case round =>
            obtain ⟨j, v, ls, hj, rfl, hx, ho, hf, hs, hF⟩ := hrel
            have HX := Lib.hid hx
            have HN := Lib.hid ho
            have HFx := Lib.hid hf
            have HF := Lib.hid hF
            have hz := hF.z
            have hll : ls.length ≤ 9 := by
              have := congrArg List.length hx
              rw [List.length_map, List.length_map, List.length_take] at this
              omega
            obtain ⟨s0, s1, s2, s3, s4, s5, s6, s7, s8, s9⟩ := ouB_cell hF.s
            obtain ⟨q0, q1', q2, q3, q4, q5, q6, q7, q8, q9⟩ := ouB_cell hF.o
            have qf := ouB_free hF.o 9
            clear hx ho hf hF
            go_upto_region 17 with fail
            go_cut [94] from 86 to 93 (fun c Xc => c = .bool (decide ((j : Int) < m4)) ∧ Xc = wr)
            case first =>
              by_cases e1 : j < n4
              · by_cases e2 : j < 9
                · have e3 : decide ((j : Int) < 9) = true := by simp; omega
                  have d1 : decide ((j : Int) < m4) = true := by simp; omega
                  have D1 := Lib.hid d1
                  clear d1
                  go_wp2_with fail
                  go_meet
                  exact ⟨by rw [D1.out], rfl⟩
                · have e3 : decide ((j : Int) < 9) = false := by simp; omega
                  have d1 : decide ((j : Int) < m4) = false := by simp; omega
                  have D1 := Lib.hid d1
                  clear d1
                  go_wp2_with fail
                  go_meet
                  exact ⟨by rw [D1.out], rfl⟩
              · have d1 : decide ((j : Int) < m4) = false := by simp; omega
                have D1 := Lib.hid d1
                clear d1
                go_wp2_with fail
                go_meet
                exact ⟨by rw [D1.out], rfl⟩
            case rest =>
            rename World => wc
            obtain ⟨rfl, rfl⟩ := hcut
            by_cases hlt : j < m4
            · have d1 : decide ((j : Int) < m4) = true := by simp; omega
              rw [d1]
              clear d1
              obtain ⟨u, hu⟩ := LD.out j (by omega)
              obtain ⟨b, off, rfl, hbB, hat⟩ := EDs.out.at hu
              obtain ⟨d0, d1, d2, d3, d4⟩ := atD (show AtE ED wc b (off + j * 5) u from hat.below HF.out.b hbB)
              have hbw := Nat.lt_of_lt_of_le hbB HF.out.b.size
              have hmu := List.mem_of_getElem? hu
              have hcc := (HC.out.ds u hmu).2
              have EI0 := Lib.hid ((HA.out.dx u hmu).takes 34)
              have HU := Lib.hid (map_take_snoc (f := smD) hu)
              obtain ⟨p, hp⟩ : ∃ p, u.x.tris.length = p := ⟨_, rfl⟩
              obtain ⟨L, hL⟩ : ∃ L, u.x.tris.take 34 = L := ⟨_, rfl⟩
              obtain ⟨q, hq⟩ : ∃ q, min p 34 = q := ⟨_, rfl⟩
              have HLq := Lib.hid (show L.length = q by rw [← hL, List.length_take, hp]; omega)
              rw [hL] at EI0
              have HSm := Lib.hid (show smD u.x = ⟨u.x.id, u.x.prog, u.x.tex, u.x.op, L⟩ by unfold smD; rw [hL])
              rw [hp] at d4 hcc
              have hqc : (q : Int) ≤ u.c := by omega
              have hmq : min (p : Int) 34 = q := by omega
              have hq260 : q ≤ 34 := by omega
              replace hp := Lib.hid hp
              replace hL := Lib.hid hL
              replace hu := Lib.hid hu
              replace hq := Lib.hid hq
              clear hat hmu hcc
              have F1 := Lib.hid (HF.out.keep (((Below.refl wc.heap.size wc).alloc (Nat.le_refl _) (.cells #[.int .i64 u.x.id, .int .i64 u.x.prog, .int .i64 u.x.tex, .bool u.x.op, .slice u.A p u.c] 51)).alloc (by simp) (.cells #[] 86)) hz)
              have T1 := Lib.hid (show ((wc.alloc (.cells #[.int .i64 u.x.id, .int .i64 u.x.prog, .int .i64 u.x.tex, .bool u.x.op, .slice u.A p u.c] 51)).alloc (.cells #[] 86)).heap[wc.heap.size]? = some (.cells #[.int .i64 u.x.id, .int .i64 u.x.prog, .int .i64 u.x.tex, .bool u.x.op, .slice u.A p u.c] 51 (0, 0)) from new_at20 _ _ _)
              have K1 := Lib.hid (((Below.refl wc.heap.size wc).alloc (Nat.le_refl _) (.cells #[.int .i64 u.x.id, .int .i64 u.x.prog, .int .i64 u.x.tex, .bool u.x.op, .slice u.A p u.c] 51)).alloc (by simp) (.cells #[] 86))
              have oe := ownE_empty (E := ER) (base := wc.heap.size + 1) (wc.alloc (.cells #[.int .i64 u.x.id, .int .i64 u.x.prog, .int .i64 u.x.tex, .bool u.x.op, .slice u.A p u.c] 51)) (by simp)
              simp only [World.size_alloc] at oe
              have OE := Lib.hid oe
              clear oe
              go_wp2_with (at_builtin; first
                | (refine wpList_append_len rfl RR _ _ u.c q HLq.out rfl rfl rfl OE.out (EI0.out.below F1.out.b) (by simp) (by have := HLq.out; omega) (by simp) ?_; intro v' w5 h1 h2 h3; obtain ⟨hO, hB⟩ := ownE_app OE.out h1 h2 (by simp); obtain ⟨A', c', rfl, hc', hO5⟩ := own_form hO HLq.out; have O5 := Lib.hid hO5; have t5 := Lib.hid ((hB.block wc.heap.size (by omega)).trans T1.out); have kf : w5.frozen? ⟨wc.heap.size, 4, none⟩ = false := (by have := t5.out; simp [World.frozen?, this]); obtain ⟨k0, k1, k2, k3, k4⟩ : w5.cell? ⟨wc.heap.size, 0, none⟩ = some (.int .i64 u.x.id) ∧ w5.cell? ⟨wc.heap.size, 1, none⟩ = some (.int .i64 u.x.prog) ∧ w5.cell? ⟨wc.heap.size, 2, none⟩ = some (.int .i64 u.x.tex) ∧ w5.cell? ⟨wc.heap.size, 3, none⟩ = some (.bool u.x.op) ∧ w5.cell? ⟨wc.heap.size, 4, none⟩ = some (.slice u.A p u.c) := ⟨Joins.cell_of_block t5.out 0, Joins.cell_of_block t5.out 1, Joins.cell_of_block t5.out 2, Joins.cell_of_block t5.out 3, Joins.cell_of_block t5.out 4⟩; have K5 := Lib.hid ((K1.out.trans (hB.mono (Nat.le_succ _))).setCell (p := ⟨wc.heap.size, 4, none⟩) (Nat.le_refl _) (.slice A' q c')); have F5 := Lib.hid (HF.out.keep K5.out hz); have N5 := Lib.hid (HN.out.keep K5.out); have N6 := Lib.hid (OwnE.alloc N5.out.own (.cells #[.int .i64 u.x.id, .int .i64 u.x.prog, .int .i64 u.x.tex, .bool u.x.op, .slice A' q c'] 51)); have K6 := Lib.hid (K5.out.alloc (by have := K5.out.size; simpa using this) (.cells #[.int .i64 u.x.id, .int .i64 u.x.prog, .int .i64 u.x.tex, .bool u.x.op, .slice A' q c'] 51)); have ES6 := Lib.hid (es_one (E := ED) (x := ⟨⟨u.x.id, u.x.prog, u.x.tex, u.x.op, L⟩, A', c'⟩) (cs := #[.int .i64 u.x.id, .int .i64 u.x.prog, .int .i64 u.x.tex, .bool u.x.op, .slice A' q c']) (by show [Value.int .i64 u.x.id, .int .i64 u.x.prog, .int .i64 u.x.tex, .bool u.x.op, .slice A' q c'] = [Value.int .i64 u.x.id, .int .i64 u.x.prog, .int .i64 u.x.tex, .bool u.x.op, .slice A' L.length c']; rw [HLq.out]) (show ((w5.setCell ⟨wc.heap.size, 4, none⟩ (.slice A' q c')).alloc (.cells #[.int .i64 u.x.id, .int .i64 u.x.prog, .int .i64 u.x.tex, .bool u.x.op, .slice A' q c'] 51)).heap[w5.heap.size]? = some _ by have h := heap_alloc_new (w5.setCell ⟨wc.heap.size, 4, none⟩ (.slice A' q c')) (.cells #[.int .i64 u.x.id, .int .i64 u.x.prog, .int .i64 u.x.tex, .bool u.x.op, .slice A' q c'] 51); rwa [World.size_setCell] at h)); have EI6 := Lib.hid (show EsP ER ((w5.setCell ⟨wc.heap.size, 4, none⟩ (.slice A' q c')).alloc (.cells #[.int .i64 u.x.id, .int .i64 u.x.prog, .int .i64 u.x.tex, .bool u.x.op, .slice A' q c'] 51)) (fun b => X3.heap.size ≤ b ∧ v.ownBlock ≠ some b) A' L from ((hO5.toP.keep (w' := (w5.setCell ⟨wc.heap.size, 4, none⟩ (.slice A' q c')).alloc (.cells #[.int .i64 u.x.id, .int .i64 u.x.prog, .int .i64 u.x.tex, .bool u.x.op, .slice A' q c'] 51)) (fun b h1 h2 => by rw [Below.heap_alloc _ _ _ (by simpa using h2)]; exact heap_setCell_other _ _ _ _ (by simp; omega))).imp fun b h1 _ => ⟨by omega, fun e => by have := ownE_lt HN.out.own e; omega⟩)); obtain ⟨r0, r1, r2, r3, r4, r5, r6, r7, r8, r9⟩ := ouB_cell F5.out.o; have rz := F5.out.z; have sz6 : wc.heap.size ≤ (w5.setCell ⟨wc.heap.size, 4, none⟩ (.slice A' q c')).heap.size := K5.out.size; simp only [World.size_setCell] at sz6; have szx : wc.heap.size < w5.heap.size := (Array.getElem?_eq_some_iff.1 t5.out).1; have kx : True := trivial; clear h1 h2 h3 hO hB hO5)
                | (refine wpList_append_len rfl RD _ _ 1 1 (show [(⟨⟨u.x.id, u.x.prog, u.x.tex, u.x.op, L⟩, A', c'⟩ : Lo Dr)].length = 1 from rfl) rfl rfl rfl N6.out ES6.out (by omega) (by simp) (by simp; omega) ?_; intro v' w7 h1 h2 h3; obtain ⟨g', cap', rfl⟩ := ownsRow_succ h1; obtain ⟨hN7, hB7⟩ := HN.out.app K6.out hs h1 h2 h3 EI6.out (show L.length ≤ c' by have := HLq.out; omega); have N7 := Lib.hid hN7; have B7 := Lib.hid hB7; have F7 := Lib.hid (HF.out.keep hB7 XZ3); obtain ⟨z0, z1, z2, z3, z4, z5, z6, z7, z8, z9⟩ := ouB_cell F7.out.o; have zf := ouB_free F7.out.o 9; have zg := F7.out.z; clear h1 h2 h3 hN7 hB7)
                | go_in)
              go_roundw
              case rel => exact ⟨j + 1, _, ls ++ [⟨⟨u.x.id, u.x.prog, u.x.tex, u.x.op, L⟩, A', c'⟩], by omega, by go_num, by rw [List.map_append, HX.out, HU.out, HSm.out]; rfl, N7.out.set (by omega), (HFx.out.below B7.out (Nat.le_refl _)).set (by omega), by have := B7.out.size; simp; omega, F7.out.set (ouB_set9 _ F7.out.o)⟩
              case measure => simp [intOf]; omega
            · have d1 : decide ((j : Int) < m4) = false := by simp; omega
              rw [d1]
              clear d1
              have hjm : j = m4 := by omega
              rw [hjm] at HX
              clear hjm
              obtain ⟨dA', dc', hv, hdc, hdO⟩ : ∃ A c, v = .slice A m4 c ∧ m4 ≤ c ∧ ls.length = m4 := by
                obtain ⟨A, c, e, h1, -, -⟩ := HN.out.own.es
                have hl : ls.length = m4 := by
                  have := congrArg List.length HX.out
                  rw [List.length_map, List.length_map, List.length_take, List.length_map, hn4.out] at this
                  omega
                rw [hl] at e h1
                exact ⟨A, c, e, h1, hl⟩
              subst hv
              have OD4 := HN
              have OP4 := Lib.hid (OP3.out.fx HFx.out (by omega) (Nat.le_refl _))
              have OT4 := Lib.hid (OT3.out.fx HFx.out (by omega) (Nat.le_refl _))
              have OV4 := Lib.hid (OV3.out.fx HFx.out (by omega) (Nat.le_refl _))
              have XD4 := HX
              obtain ⟨r0, r1, r2, r3, r4, r5, r6, r7, r8, r9⟩ := ouB_cell HF.out.r
              have rf0 := ouB_free HF.out.r 0
              have rf1 := ouB_free HF.out.r 1
              have rf2 := ouB_free HF.out.r 2
              have rf3 := ouB_free HF.out.r 3
              have rf4 := ouB_free HF.out.r 4
              have rf5 := ouB_free HF.out.r 5
              have rf6 := ouB_free HF.out.r 6
              have rf7 := ouB_free HF.out.r 7
              have rf8 := ouB_free HF.out.r 8
              have rf9 := ouB_free HF.out.r 9
              clear s0 s1 s2 s3 s4 s5 s6 s7 s8 s9 hz hll hs hj HN HX HFx
              go_wp2_with fail
              obtain ⟨hR, hfx, hbl⟩ := ou_store (W := s.w) (H := s.h) (k := s.k) (.slice A1 q1 c1) (.slice tA' m2 tc') (.slice pA' m3 pc') (.slice dA' m4 dc') HF.out.r
              have hB := hbl w.heap.size w (by omega) HF.out.b
              have hX := hfx (w.heap.size + 3) wc.heap.size (by omega)
              clear hfx hbl r0 r1 r2 r3 r4 r5 r6 r7 r8 r9 rf0 rf1 rf2 rf3 rf4 rf5 rf6 rf7 rf8 rf9
              generalize ((((((((((wc.setCell ⟨w.heap.size + 1, 0, none⟩ (.int .i64 s.w)).setCell ⟨w.heap.size + 1, 1, none⟩ (.int .i64 s.h)).setCell ⟨w.heap.size + 1, 2, none⟩ (.int .u8 s.k.r)).setCell ⟨w.heap.size + 1, 3, none⟩ (.int .u8 s.k.g)).setCell ⟨w.heap.size + 1, 4, none⟩ (.int .u8 s.k.b)).setCell ⟨w.heap.size + 1, 5, none⟩ (.int .u8 s.k.a)).setCell ⟨w.heap.size + 1, 6, none⟩ (.slice A1 q1 c1)).setCell ⟨w.heap.size + 1, 7, none⟩ (.slice tA' m2 tc')).setCell ⟨w.heap.size + 1, 8, none⟩ (.slice pA' m3 pc')).setCell ⟨w.heap.size + 1, 9, none⟩ (.slice dA' m4 dc')) = Y at *
              obtain ⟨z0, z1, z2, z3, z4, z5, z6, z7, z8, z9⟩ := ouB_cell hR
              refine bodyPost_ret (v := .agg #[.int .i64 s.w, .int .i64 s.h, .int .u8 s.k.r, .int .u8 s.k.g, .int .u8 s.k.b, .int .u8 s.k.a, .slice A1 q1 c1, .slice tA' m2 tc', .slice pA' m3 pc', .slice dA' m4 dc']) (by simp [results, Tryz.results7, go_sem, z0, z1, z2, z3, z4, z5, z6, z7, z8, z9]) rfl ?_
              have YD := OD4.out.fx hX (by omega) (Nat.le_refl _)
              have YP := OP4.out.fx hX (by omega) (Nat.le_refl _)
              have YT := OT4.out.fx hX (by omega) (Nat.le_refl _)
              have YV := OV4.out.fx hX (Nat.le_refl _) (Nat.le_refl _)
              refine ⟨⟨s.w, s.h, s.k, L1, A1, c1, lst, tA', tc', lsp, pA', pc', ls, dA', dc'⟩, ?_, ?_, ?_, ?_, hB⟩
              · dsimp only
                rw [SV.out, htl, hpl, hdO]
              · show PS.mk s.w s.h s.k L1 (lst.map Lo.x) (lsp.map Lo.x) (ls.map Lo.x) = PS.mk s.w s.h s.k (s.vs.take 66) (((s.ts.map Lo.x).take 5).map smT) (((s.ps.map Lo.x).take 5).map smI) (((s.ds.map Lo.x).take 9).map smD)
                rw [hL1.out, XT2.out, XP3.out, XD4.out, take_cut (l := s.ts.map Lo.x) (k := 5) (m := m2) (by rw [List.length_map, hn2.out]; exact hm2), take_cut (l := s.ps.map Lo.x) (k := 5) (m := m3) (by rw [List.length_map, hn3.out]; exact hm3), take_cut (l := s.ds.map Lo.x) (k := 9) (m := m4) (by rw [List.length_map, hn4.out]; exact hm4)]
              · exact ⟨by show L1.length ≤ c1; rw [SV.out]; exact hc1, by show lst.length ≤ tc'; omega, OT4.out.cap, by show lsp.length ≤ pc'; omega, OP4.out.cap, by show ls.length ≤ dc'; omega, OD4.out.cap⟩
              · exact ⟨(ownE_es YV).2.2, (ownE_es YT.own).2.2, YT.es, (ownE_es YP.own).2.2, YP.es, (ownE_es YD.own).2.2, YD.es⟩
end Go.Proofs.YtfmmfaeognoleaaGreat
/-
  What an argument that is a slice of integers or of bytes is opened to.
-/
namespace Go.Proofs.YtfmmfaeognoleaaGreat.P
open Go.ChangeShapes Go.WideShapes Go.ChangeAt Go.RowKit Go.Joins

set_option maxRecDepth 100000 in
theorem own : ownKnob Tryz.prog.godebug = none := by kernel_rfl
set_option maxRecDepth 100000 in
theorem laidOut : laidOutB Tryz.prog = true := by kernel_rfl
set_option maxRecDepth 100000 in
theorem cells5 : Tryz.prog.cellsOf 5 = 1 := by kernel_rfl
set_option maxRecDepth 100000 in
theorem cells3 : Tryz.prog.cellsOf 3 = 1 := by kernel_rfl

set_option maxRecDepth 100000 in
theorem wf_bounds {k : IntKind} {n : Int} (h : (Lit.int k n).wf = true) : k.min ≤ n ∧ n ≤ k.max := by
  simpa only [Lit.wf, Bool.and_eq_true, decide_eq_true_eq] using h

set_option maxRecDepth 100000 in
theorem open_row {H : Type} {enc : TypeId × Value → H} {W : World} {v : Value} {b0 : Nat} {r : Reach} {d : DataW H} {p : List MemPlace} {t e : TypeId} {k : IntKind}
    (ht : Tryz.prog.underlying t = some (.slice e)) (he : Tryz.prog.underlying e = some (.int k)) (hce : Tryz.prog.cellsOf e = 1)
    (hv : Value.okWide Tryz.prog W r b0 t v) (h : DataW.Trod enc Tryz.prog W 0 (fun _ => true) true t v d p) :
    ∃ (A : Option Addr) (xs : List Int) (c : Nat), v = .slice A xs.length c ∧ xs.length ≤ c ∧ c ≤ 9223372036854775807 ∧ Sl k W W.heap.size A xs ∧ (∀ x ∈ xs, k.min ≤ x ∧ x ≤ k.max) := by
  obtain ⟨a0, len, cap, rfl⟩ := okWide_slice ht hv
  obtain ⟨fuel, hf⟩ := h
  rcases open_ints ht he hce hf with ⟨hcs, _⟩ | ⟨a, len', cap', zs, hcs, _, hl, hm, hz, _, hcell, hwz⟩
  · simp [Value.cells] at hcs
    obtain ⟨rfl, rfl, rfl⟩ := hcs
    exact ⟨none, [], 0, rfl, Nat.le_refl _, by decide, Sl.none_, fun _ h => by cases h⟩
  · simp [Value.cells] at hcs
    obtain ⟨rfl, rfl, rfl⟩ := hcs
    simp only [if_true] at hz
    have hlen : (zs.take len).length = len := by simp; omega
    refine ⟨some a, zs.take len, cap, by rw [hlen], by omega, by unfold maxLen at hm; exact hm, fun hne => ?_, fun x hx => wf_bounds (hwz x (List.mem_of_mem_take hx))⟩
    have hpos : 0 < zs.length := by
      rcases Nat.eq_zero_or_pos zs.length with h0 | h0
      · exact absurd (by rw [List.eq_nil_of_length_eq_zero h0]; simp) hne
      · exact h0
    obtain ⟨b, off, rfl, hc⟩ := ints_at hcell hpos
    refine ⟨b, off, rfl, World.block_lt_of_cell? _ _ (hc 0 hpos), fun j hj => ?_⟩
    rw [hlen] at hj
    rw [hc j (by omega), List.getD_eq_getElem?_getD, List.getD_eq_getElem?_getD, List.getElem?_take_of_lt hj]

set_option maxRecDepth 100000 in
theorem open_bytes {H : Type} {enc : TypeId × Value → H} {W : World} {v : Value} {b0 : Nat} {r : Reach} {d : DataW H} {p : List MemPlace}
    (hv : Value.okWide Tryz.prog W r b0 30 v) (h : DataW.Trod enc Tryz.prog W 0 (fun _ => true) true 30 v d p) :
    ∃ (A : Option Addr) (xs : List Int) (c : Nat), v = .slice A xs.length c ∧ xs.length ≤ c ∧ c ≤ 9223372036854775807 ∧ Sl .u8 W W.heap.size A xs ∧ Byt xs := by
  obtain ⟨A, xs, c, h1, h2, h3, h4, h5⟩ := open_row Tryz.underlying30 Tryz.underlying5 cells5 hv h
  exact ⟨A, xs, c, h1, h2, h3, h4, fun x hx => h5 x hx⟩
end Go.Proofs.YtfmmfaeognoleaaGreat.P
