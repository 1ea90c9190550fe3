/-
  What the contract of the reference's Fit says.
-/
import Derived.Test.YtnpcmoeleigpoaaSml
import Derived.Test.YtnpcmoeleigpoaaFitP
import Derived.Test.YtnpcmoeleigpoaaShown
namespace Go.Proofs.Ytnpcmoeleigpoaa
open Go.RowKit
attribute [local go_sem ↓] Go.wp_at_zero Go.wp_at_succ

theorem rmod_bel (n : Int) (b : Nat) (hn : I64 n) (hb : 0 < b) (hb2 : b ≤ 1000) (w : World) :
    Calls Try.prog 18 #[.int .i64 n, .int .i64 b] w fun e w' => e = .returned (.int .i64 (n % b)) ∧ Below w.heap.size w w' :=
  (rmod_any n b hn (by omega) (by omega) w).mono fun e w' h => ⟨h.1, by rw [← h.2]; exact Below.refl _ _⟩
theorem esP_at {α : Type} {E : Elem α} {w : World} {B g : Nat} {xs : List α} {p : Nat → Prop} (h : Es E w B (some ⟨g, 0, none⟩) xs) (hp : p g) : EsP E w p (some ⟨g, 0, none⟩) xs := fun hne => by
  obtain ⟨b, off, e, _, hc⟩ := h hne
  cases e
  exact ⟨_, _, rfl, hp, hc⟩
/-- A row of the call's own between two bounds, what its elements lead to as well. -/
structure OwnB {α β : Type} (E : Elem (Lo α)) (F : Elem β) (inn : α → List β) (w : World) (lo hi : Nat) (v : Value) (ls : List (Lo α)) : Prop where
  own : OwnE E w lo v ls
  blk : ∀ b, v.ownBlock = some b → b < hi
  els : ∀ l ∈ ls, EsP F w (fun b => lo ≤ b ∧ b < hi ∧ v.ownBlock ≠ some b) l.A (inn l.x)
  cap : ∀ l ∈ ls, (inn l.x).length ≤ l.c
section
variable {α β : Type} {E : Elem (Lo α)} {F : Elem β} {inn : α → List β} {w w' : World} {base lo hi : Nat} {v : Value} {ls : List (Lo α)}
theorem OwnN.lid (h : OwnN E F inn w base v ls) : OwnB E F inn w base w.heap.size v ls :=
  ⟨h.own, fun _ e => ownE_lt h.own e, fun l hl => (h.els l hl).imp fun _ hb hlt => ⟨hb.1, hlt, hb.2⟩, h.cap⟩
theorem OwnB.fx {B k : Nat} (h : OwnB E F inn w lo hi v ls) (hf : Fx B k w w') (hB : B ≤ lo) (hk : hi ≤ k) : OwnB E F inn w' lo hi v ls := by
  refine ⟨?_, h.blk, fun l hl => (h.els l hl).keep fun b hb _ => hf b (by omega) (by omega), h.cap⟩
  obtain ⟨hl, h2⟩ := h.own
  refine ⟨hl, ?_⟩
  rcases h2 with h2 | ⟨j, cap, cur, e, hj, hh, hr⟩
  · exact .inl h2
  · have hjh := h.blk j (by rw [e]; rfl)
    exact .inr ⟨j, cap, cur, e, hj, (hf j (by omega) (by omega)).trans hh, hr⟩
end
/-- The blocks of the scene that came in, of the answer, and of what is under way. -/
structure FtF (w0 : World) (src : Obj) (go : Nat) (wr : World) (out : Obj) : Prop where
  s : wr.heap[w0.heap.size]? = some src
  r : wr.heap[w0.heap.size + 1]? = some (ouB 0 0 zC (.slice none 0 0) (.slice none 0 0) (.slice none 0 0) (.slice none 0 0))
  o : wr.heap[go]? = some out
  b : Below w0.heap.size w0 wr
theorem FtF.z {w0 wr : World} {src out : Obj} {go : Nat} (h : FtF w0 src go wr out) : go < wr.heap.size := (Array.getElem?_eq_some_iff.1 h.o).1
theorem FtF.keep {w0 wr w' : World} {src out : Obj} {go B : Nat} (h : FtF w0 src go wr out) (hb : Below B wr w') (hB : go < B) (hg : w0.heap.size + 1 < go) : FtF w0 src go w' out :=
  ⟨(hb.block _ (by omega)).trans h.s, (hb.block _ (by omega)).trans h.r, (hb.block _ (by omega)).trans h.o, h.b.trans (hb.mono (by omega))⟩
theorem FtF.set {w0 wr : World} {src out out' : Obj} {go o : Nat} {u : Value} (h : FtF w0 src go wr out) (hg : w0.heap.size + 1 < go) (ho : (wr.setCell ⟨go, o, none⟩ u).heap[go]? = some out') : FtF w0 src go (wr.setCell ⟨go, o, none⟩ u) out' :=
  ⟨by rw [heap_setCell_other _ _ _ _ (by simp <;> omega)]; exact h.s, by rw [heap_setCell_other _ _ _ _ (by simp <;> omega)]; exact h.r, ho, h.b.setCell (by simp; omega) _⟩
theorem FtF.other {w0 wr : World} {src out : Obj} {go g o : Nat} {u : Value} (h : FtF w0 src go wr out) (hg : go < g) (hg2 : w0.heap.size + 1 < go) : FtF w0 src go (wr.setCell ⟨g, o, none⟩ u) out := h.keep ((Below.refl _ _).setCell (by simp) _) hg hg2
set_option maxRecDepth 100000 in
theorem dx_store {w : World} {g : Nat} {a0 a1 a2 a3 a4 : Value} (v0 v1 v2 v3 v4 : Value) (h : w.heap[g]? = some (.cells #[a0, a1, a2, a3, a4] 42 (0, 0))) :
    (((((w.setCell ⟨g, 0, none⟩ v0).setCell ⟨g, 1, none⟩ v1).setCell ⟨g, 2, none⟩ v2).setCell ⟨g, 3, none⟩ v3).setCell ⟨g, 4, none⟩ v4).heap[g]? = some (.cells #[v0, v1, v2, v3, v4] 42 (0, 0)) ∧ (∀ B w0, B ≤ g → Below B w0 w → Below B w0 (((((w.setCell ⟨g, 0, none⟩ v0).setCell ⟨g, 1, none⟩ v1).setCell ⟨g, 2, none⟩ v2).setCell ⟨g, 3, none⟩ v3).setCell ⟨g, 4, none⟩ v4)) :=
  ⟨Eq.trans (heap_setCell_same _ _ _ _ _ _ (heap_setCell_same _ _ _ _ _ _ (heap_setCell_same _ _ _ _ _ _ (heap_setCell_same _ _ _ _ _ _ (heap_setCell_same _ _ _ _ _ _ (h)))))) (by simp), fun B w0 hg hb => Below.setCell (Below.setCell (Below.setCell (Below.setCell (Below.setCell (hb) hg _) hg _) hg _) hg _) hg _⟩
set_option maxRecDepth 100000 in
theorem tv_store {w : World} {g : Nat} {a0 a1 a2 : Value} (v0 v1 v2 : Value) (h : w.heap[g]? = some (.cells #[a0, a1, a2] 45 (0, 0))) :
    (((w.setCell ⟨g, 0, none⟩ v0).setCell ⟨g, 1, none⟩ v1).setCell ⟨g, 2, none⟩ v2).heap[g]? = some (.cells #[v0, v1, v2] 45 (0, 0)) ∧ (∀ B w0, B ≤ g → Below B w0 w → Below B w0 (((w.setCell ⟨g, 0, none⟩ v0).setCell ⟨g, 1, none⟩ v1).setCell ⟨g, 2, none⟩ v2)) :=
  ⟨Eq.trans (heap_setCell_same _ _ _ _ _ _ (heap_setCell_same _ _ _ _ _ _ (heap_setCell_same _ _ _ _ _ _ (h)))) (by simp), fun B w0 hg hb => Below.setCell (Below.setCell (Below.setCell (hb) hg _) hg _) hg _⟩
/-- What Fit answers. -/
def Fits (s : Sc) (most verts draws tris : Nat) (w : World) (e : Ending) (w' : World) : Prop :=
  ∃ (x : Sc) (h1 h2 h3 : Nat), e = .returned (.agg #[.int .i64 x.w, .int .i64 x.h, .int .u8 x.k.r, .int .u8 x.k.g, .int .u8 x.k.b, .int .u8 x.k.a, .slice x.vA x.vs.length x.vc, .slice x.tA x.ts.length x.tc, .slice x.pA x.ps.length x.pc, .slice x.dA x.ds.length x.dc]) ∧ x.p = fitS s.p most verts draws tris ∧ w.heap.size ≤ h1 ∧ h1 ≤ h2 ∧ h2 ≤ h3 ∧ h3 ≤ w'.heap.size ∧
    OwnE EV w' w.heap.size (.slice x.vA x.vs.length x.vc) x.vs ∧ (∀ b, (Value.slice x.vA x.vs.length x.vc).ownBlock = some b → b < h1) ∧
    OwnB ET EC Tx.px w' h1 h2 (.slice x.tA x.ts.length x.tc) x.ts ∧ OwnB EP C.EI (fun l => l) w' h2 h3 (.slice x.pA x.ps.length x.pc) x.ps ∧ OwnB ED ER Dr.tris w' h3 w'.heap.size (.slice x.dA x.ds.length x.dc) x.ds ∧ Below w.heap.size w w'
end Go.Proofs.Ytnpcmoeleigpoaa
