/-
  A scene that Fit made, with a draw more, of which a part is written over: what holds then.
-/
import Derived.Test.YtnpcmoeleigpoaaFitQ
import Derived.Test.YtnpcmoeleigpoaaRefP
namespace Go.Proofs.Ytnpcmoeleigpoaa
open Go.RowKit

section
variable {α : Type} {E : Elem α} {M : Nat → Prop} {X Z : World} {base : Nat} {v : Value} {xs : List α} {A : Option Addr} {p : Nat → Prop}
theorem own_om (h : OwnE E X base v xs) (ho : Om M X Z) (hn : ∀ b, v.ownBlock = some b → ¬ M b) : OwnE E Z base v xs := by
  obtain ⟨hl, h0 | ⟨g, cap, cur, rfl, hg, hh, hc, hm, hs, ht⟩⟩ := h
  · exact ⟨hl, .inl h0⟩
  · exact ⟨hl, .inr ⟨g, cap, cur, rfl, hg, (ho.2 g (Array.getElem?_eq_some_iff.1 hh).1 (hn g rfl)).trans hh, hc, hm, hs, ht⟩⟩
theorem esP_om (h : EsP E X p A xs) (ho : Om M X Z) (hn : ∀ b, p b → ¬ M b) : EsP E Z p A xs := h.keep fun b hb hl => ho.2 b hl (hn b hb)
theorem esP_sz (h : EsP E X p A xs) : Es E X X.heap.size A xs := h.es fun _ _ hl => hl
theorem Om.weak {M' : Nat → Prop} (h : Om M X Z) (hM : ∀ b, M b → M' b) : Om M' X Z := ⟨h.1, fun b h1 h2 => h.2 b h1 fun e => h2 (hM b e)⟩
theorem Om.blk {b : Nat} {o : Obj} (h : Om M X Z) (hb : X.heap[b]? = some o) (hn : ¬ M b) : Z.heap[b]? = some o := (h.2 b (Array.getElem?_eq_some_iff.1 hb).1 hn).trans hb
end

/-- The triangle that SceneRefuses tells. -/
def t0 : Tr := ⟨1, 0, 0, 0⟩
/-- A scene of Fit's, its block at gF, with one draw more (its triangle at gT), in a row at g. -/
structure Rf (lo h1 h2 h3 gF gT g c : Nat) (X : World) (f : Sc) : Prop where
  l1 : lo ≤ h1
  l2 : h1 ≤ h2
  l3 : h2 ≤ h3
  aF : h3 ≤ gF
  aT : h3 ≤ gT
  ag : h3 ≤ g
  nFT : gF ≠ gT
  nFg : gF ≠ g
  nTg : gT ≠ g
  v : OwnE EV X lo (.slice f.vA f.vs.length f.vc) f.vs
  vb : ∀ b, (Value.slice f.vA f.vs.length f.vc).ownBlock = some b → b < h1
  t : OwnB ET EC Tx.px X h1 h2 (.slice f.tA f.ts.length f.tc) f.ts
  p : OwnB EP C.EI (fun l => l) X h2 h3 (.slice f.pA f.ps.length f.pc) f.ps
  d : OwnE ED X h3 (.slice (some ⟨g, 0, none⟩) (f.ds.length + 1) c) (f.ds ++ [⟨d0, some ⟨gT, 0, none⟩, 1⟩])
  de : ∀ l ∈ f.ds, EsP ER X (fun b => h3 ≤ b ∧ b ≠ gF ∧ b ≠ gT ∧ b ≠ g) l.A l.x.tris
  dc : ∀ l ∈ f.ds, l.x.tris.length ≤ l.c
  F : X.heap[gF]? = some (ouB f.w f.h f.k (.slice f.vA f.vs.length f.vc) (.slice f.tA f.ts.length f.tc) (.slice f.pA f.ps.length f.pc) (.slice (some ⟨g, 0, none⟩) (f.ds.length + 1) c))
  T : X.heap[gT]? = some (.cells #[.int .i64 1, .int .i64 0, .int .i64 0, .int .i64 0] 47 (0, 0))
  fit : f.p.fit
  ok : f.p.ok
  few : f.p.few
/-- A scene at a block, that is told as c. -/
def Good (Z : World) (gF : Nat) (c : Int) : Prop := ∃ y : Sc, Z.heap[gF]? = some (scB y) ∧ y.at Z Z.heap.size ∧ y.ok ∧ y.few ∧ check y.p = c
section
variable {lo h1 h2 h3 gF gT g c : Nat} {X Z : World} {f : Sc} {M : Nat → Prop}
theorem Rf.kv (h : Rf lo h1 h2 h3 gF gT g c X f) (ho : Om M X Z) (hM : ∀ b, b < h1 → ¬ M b) : OwnE EV Z lo (.slice f.vA f.vs.length f.vc) f.vs := own_om h.v ho fun b e => hM b (h.vb b e)
theorem Rf.kt (h : Rf lo h1 h2 h3 gF gT g c X f) (ho : Om M X Z) (hM : ∀ b, h1 ≤ b → b < h2 → ¬ M b) : OwnE ET Z h1 (.slice f.tA f.ts.length f.tc) f.ts ∧ ∀ l ∈ f.ts, Es EC Z Z.heap.size l.A l.x.px :=
  ⟨own_om h.t.own ho fun b e => hM b (ownE_ge h.t.own b e) (h.t.blk b e), fun l hl => esP_sz (esP_om (h.t.els l hl) ho fun b hb => hM b hb.1 hb.2.1)⟩
theorem Rf.kp (h : Rf lo h1 h2 h3 gF gT g c X f) (ho : Om M X Z) (hM : ∀ b, h2 ≤ b → b < h3 → ¬ M b) : OwnE EP Z h2 (.slice f.pA f.ps.length f.pc) f.ps ∧ ∀ l ∈ f.ps, Es C.EI Z Z.heap.size l.A l.x :=
  ⟨own_om h.p.own ho fun b e => hM b (ownE_ge h.p.own b e) (h.p.blk b e), fun l hl => esP_sz (esP_om (h.p.els l hl) ho fun b hb => hM b hb.1 hb.2.1)⟩
theorem Rf.kd (h : Rf lo h1 h2 h3 gF gT g c X f) (ho : Om M X Z) (hM : ¬ M g) : OwnE ED Z h3 (.slice (some ⟨g, 0, none⟩) (f.ds.length + 1) c) (f.ds ++ [⟨d0, some ⟨gT, 0, none⟩, 1⟩]) := own_om h.d ho fun b e => by
  obtain rfl : g = b := by simpa [Value.ownBlock] using e
  exact hM
theorem Rf.ke (h : Rf lo h1 h2 h3 gF gT g c X f) (ho : Om M X Z) (hM : ∀ b, h3 ≤ b → b ≠ gF → b ≠ gT → b ≠ g → ¬ M b) : ∀ l ∈ f.ds, Es ER Z Z.heap.size l.A l.x.tris := fun l hl => esP_sz (esP_om (h.de l hl) ho fun b hb => hM b hb.1 hb.2.1 hb.2.2.1 hb.2.2.2)
theorem tri_es {t : Tr} (h : Z.heap[gT]? = some (.cells #[.int .i64 t.i, .int .i64 t.a, .int .i64 t.b, .int .i64 t.c] 47 (0, 0))) : Es ER Z Z.heap.size (some ⟨gT, 0, none⟩) [t] := es_one rfl h
theorem Rf.dl (h : Rf lo h1 h2 h3 gF gT g c X f) : f.ds.length + 1 ≤ c := by
  have := (ownE_es h.d).2.1
  rw [List.length_append] at this
  simpa using this
/-- What is asked of the rows of a scene. -/
theorem good_mk (y : Sc) {q : PS} {k : Int} (hb : Z.heap[gF]? = some (scB y)) (e : y.p = q) (hv : OwnE EV Z 0 (.slice y.vA y.vs.length y.vc) y.vs) (ht : OwnE ET Z 0 (.slice y.tA y.ts.length y.tc) y.ts) (htx : ∀ l ∈ y.ts, Es EC Z Z.heap.size l.A l.x.px) (htc : ∀ l ∈ y.ts, l.x.px.length ≤ l.c)
    (hp : OwnE EP Z 0 (.slice y.pA y.ps.length y.pc) y.ps) (hpx : ∀ l ∈ y.ps, Es C.EI Z Z.heap.size l.A l.x) (hpc : ∀ l ∈ y.ps, l.x.length ≤ l.c) (hd : OwnE ED Z 0 (.slice y.dA y.ds.length y.dc) y.ds) (hdx : ∀ l ∈ y.ds, Es ER Z Z.heap.size l.A l.x.tris) (hdc : ∀ l ∈ y.ds, l.x.tris.length ≤ l.c)
    (hok : q.ok) (hfew : q.few) (hk : check q = k) : Good Z gF k :=
  ⟨y, hb, ⟨(ownE_es hv).2.2, (ownE_es ht).2.2, htx, (ownE_es hp).2.2, hpx, (ownE_es hd).2.2, hdx⟩, ok_of e hok ⟨(ownE_es hv).2.1, (ownE_es ht).2.1, htc, (ownE_es hp).2.1, hpc, (ownE_es hd).2.1, hdc⟩, few_of e hfew, by rw [e]; exact hk⟩
theorem ps_ok {p : PS} {d : Dr} (h : p.ok) (hd : d.ok) : (p.wd (p.ds ++ [d])).ok := ⟨h.w, h.h, h.k, h.vs, h.ts, h.ps, fun x hx => by
  rcases List.mem_append.1 hx with hx | hx
  · exact h.ds x hx
  · obtain rfl : x = d := by simpa using hx
    exact hd⟩
theorem ps_few {p : PS} {d : Dr} (h : p.few) (hf : p.fit) (hd : d.tris.length ≤ 1000) : (p.wd (p.ds ++ [d])).few := ⟨h.vs, h.ts, h.tx, h.ps, h.px, by
  have := hf.d
  show (p.ds ++ [d]).length ≤ 1000
  rw [List.length_append]
  simp
  omega, fun x hx => by
  rcases List.mem_append.1 hx with hx | hx
  · exact h.dx x hx
  · obtain rfl : x = d := by simpa using hx
    exact hd⟩
theorem i64s {n : Int} (h : -10000 ≤ n) (h2 : n ≤ 10000) : I64 n := by
  unfold I64
  omega
theorem d_ok {id prog tex : Int} {op : Bool} {l : List Tr} (h1 : I64 id) (h2 : I64 prog) (h3 : I64 tex) (h4 : ∀ t ∈ l, t.ok) : (⟨id, prog, tex, op, l⟩ : Dr).ok := ⟨h1, h2, h3, h4⟩
theorem t0_ok : ∀ t ∈ [t0], t.ok := fun t ht => by
  obtain rfl : t = t0 := by simpa using ht
  exact ⟨i64s (by decide) (by decide), i64s (by decide) (by decide), i64s (by decide) (by decide), i64s (by decide) (by decide)⟩
theorem d0_ok : d0.ok := d_ok (i64s (by decide) (by decide)) (i64s (by decide) (by decide)) (i64s (by decide) (by decide)) t0_ok
theorem els_app {l0 l : Lo Dr} {ds : List (Lo Dr)} (h : ∀ l ∈ ds, Es ER Z Z.heap.size l.A l.x.tris) (h0 : Es ER Z Z.heap.size l0.A l0.x.tris) (hl : l ∈ ds ++ [l0]) : Es ER Z Z.heap.size l.A l.x.tris := by
  rcases List.mem_append.1 hl with hl | hl
  · exact h l hl
  · obtain rfl : l = l0 := by simpa using hl
    exact h0
theorem cap_app {l0 l : Lo Dr} {ds : List (Lo Dr)} (h : ∀ l ∈ ds, l.x.tris.length ≤ l.c) (h0 : l0.x.tris.length ≤ l0.c) (hl : l ∈ ds ++ [l0]) : l.x.tris.length ≤ l.c := by
  rcases List.mem_append.1 hl with hl | hl
  · exact h l hl
  · obtain rfl : l = l0 := by simpa using hl
    exact h0
theorem p_app (f : Sc) (d : Dr) (A : Option Addr) (c : Nat) : (f.ds ++ [(⟨d, A, c⟩ : Lo Dr)]).map Lo.x = f.p.ds ++ [d] := by
  rw [List.map_append]
  rfl
/-- 0 and 1: the head alone. -/
theorem Rf.head (h : Rf lo h1 h2 h3 gF gT g c X f) (W H : Int) (K : Col) (k : Int) (ho : Om (fun b => b = gF) X Z)
    (hb : Z.heap[gF]? = some (ouB W H K (.slice f.vA f.vs.length f.vc) (.slice f.tA f.ts.length f.tc) (.slice f.pA f.ps.length f.pc) (.slice (some ⟨g, 0, none⟩) (f.ds.length + 1) c)))
    (hW : I64 W) (hH : I64 H) (hK : K.ok) (hk : check ⟨W, H, K, f.p.vs, f.p.ts, f.p.ps, f.p.ds ++ [d0]⟩ = k) : Good Z gF k := by
  have l1 := h.l1
  have l2 := h.l2
  have l3 := h.l3
  have aF := h.aF
  have hT := h.kt ho (fun b _ hb e => by omega)
  have hP := h.kp ho (fun b _ hb e => by omega)
  have oks := ps_ok h.ok d0_ok
  have fews := ps_few h.few h.fit (d := d0) (by decide)
  refine good_mk ⟨W, H, K, f.vs, f.vA, f.vc, f.ts, f.tA, f.tc, f.ps, f.pA, f.pc, f.ds ++ [⟨d0, some ⟨gT, 0, none⟩, 1⟩], some ⟨g, 0, none⟩, c⟩ (q := ⟨W, H, K, f.p.vs, f.p.ts, f.p.ps, f.p.ds ++ [d0]⟩) ?_ ?_ ((h.kv ho (fun b hb e => by omega)).less (by omega)) (hT.1.less (by omega)) hT.2 h.t.cap (hP.1.less (by omega)) hP.2 h.p.cap ?_ ?_ ?_ ⟨hW, hH, hK, oks.vs, oks.ts, oks.ps, oks.ds⟩ ⟨fews.vs, fews.ts, fews.tx, fews.ps, fews.px, fews.ds, fews.dx⟩ hk
  · rw [hb]
    unfold scB ouB
    simp
  · unfold Sc.p
    rw [p_app]
    rfl
  · have := (h.kd ho (fun e => h.nFg e.symm)).less (Nat.zero_le _)
    simpa using this
  · exact fun l hl => els_app (l0 := ⟨d0, some ⟨gT, 0, none⟩, 1⟩) (h.ke ho fun b _ h1 _ _ => h1) (tri_es (t := t0) (ho.blk h.T fun e => h.nFT e.symm)) hl
  · exact fun l hl => cap_app (l0 := ⟨d0, some ⟨gT, 0, none⟩, 1⟩) h.dc (Nat.le_refl 1) hl
/-- 2, 6, 7, 9: the last draw is told otherwise. -/
theorem Rf.draw (h : Rf lo h1 h2 h3 gF gT g c X f) (d : Dr) (A : Option Addr) (n : Nat) (k : Int) (ho : Om (fun b => b = g) X Z)
    (hd : OwnE ED Z h3 (.slice (some ⟨g, 0, none⟩) (f.ds.length + 1) c) ((f.ds ++ [(⟨d0, some ⟨gT, 0, none⟩, 1⟩ : Lo Dr)]).set f.ds.length ⟨d, A, n⟩)) (hA : Es ER Z Z.heap.size A d.tris) (hn : d.tris.length ≤ n) (hn2 : n ≤ 1000) (hok : d.ok)
    (hk : check (f.p.wd (f.p.ds ++ [d])) = k) : Good Z gF k := by
  have l1 := h.l1
  have l2 := h.l2
  have l3 := h.l3
  have ag := h.ag
  have hT := h.kt ho (fun b _ hb e => by omega)
  have hP := h.kp ho (fun b _ hb e => by omega)
  have es : (f.ds ++ [(⟨d0, some ⟨gT, 0, none⟩, 1⟩ : Lo Dr)]).set f.ds.length ⟨d, A, n⟩ = f.ds ++ [(⟨d, A, n⟩ : Lo Dr)] := by
    rw [List.set_append_right _ _ (Nat.le_refl _), Nat.sub_self]
    rfl
  rw [es] at hd
  refine good_mk ⟨f.w, f.h, f.k, f.vs, f.vA, f.vc, f.ts, f.tA, f.tc, f.ps, f.pA, f.pc, f.ds ++ [⟨d, A, n⟩], some ⟨g, 0, none⟩, c⟩ (q := f.p.wd (f.p.ds ++ [d])) ?_ ?_ ((h.kv ho (fun b hb e => by omega)).less (by omega)) (hT.1.less (by omega)) hT.2 h.t.cap (hP.1.less (by omega)) hP.2 h.p.cap ?_ ?_ ?_ (ps_ok h.ok hok) (ps_few h.few h.fit (by omega)) hk
  · rw [ho.blk h.F h.nFg]
    unfold scB ouB
    simp
  · unfold Sc.p
    rw [p_app]
    rfl
  · have := hd.less (Nat.zero_le _)
    simpa using this
  · exact fun l hl => els_app (l0 := ⟨d, A, n⟩) (h.ke ho fun b _ _ _ h1 => h1) hA hl
  · exact fun l hl => cap_app (l0 := ⟨d, A, n⟩) h.dc hn hl
/-- 3: a vertex more. -/
theorem Rf.vert (h : Rf lo h1 h2 h3 gF gT g c X f) (v : U.V) (A : Option Addr) (n : Nat) (k : Int) (ho : Om (fun b => b < h1 ∨ b = gF) X Z)
    (hb : Z.heap[gF]? = some (ouB f.w f.h f.k (.slice A (f.vs.length + 1) n) (.slice f.tA f.ts.length f.tc) (.slice f.pA f.ps.length f.pc) (.slice (some ⟨g, 0, none⟩) (f.ds.length + 1) c)))
    (hv : OwnE EV Z lo (.slice A (f.vs.length + 1) n) (f.vs ++ [v])) (hok : v.i64) (hk : check ⟨f.p.w, f.p.h, f.p.k, f.p.vs ++ [v], f.p.ts, f.p.ps, f.p.ds ++ [d0]⟩ = k) : Good Z gF k := by
  have l1 := h.l1
  have l2 := h.l2
  have l3 := h.l3
  have aF := h.aF
  have aT := h.aT
  have ag := h.ag
  have nFT := h.nFT
  have nFg := h.nFg
  have hT := h.kt ho (fun b _ hb e => by omega)
  have hP := h.kp ho (fun b _ hb e => by omega)
  have oks := ps_ok h.ok d0_ok
  have fews := ps_few h.few h.fit (d := d0) (by decide)
  refine good_mk ⟨f.w, f.h, f.k, f.vs ++ [v], A, n, f.ts, f.tA, f.tc, f.ps, f.pA, f.pc, f.ds ++ [⟨d0, some ⟨gT, 0, none⟩, 1⟩], some ⟨g, 0, none⟩, c⟩ (q := ⟨f.p.w, f.p.h, f.p.k, f.p.vs ++ [v], f.p.ts, f.p.ps, f.p.ds ++ [d0]⟩) ?_ ?_ ?_ (hT.1.less (by omega)) hT.2 h.t.cap (hP.1.less (by omega)) hP.2 h.p.cap ?_ ?_ ?_ ⟨oks.w, oks.h, oks.k, ?_, oks.ts, oks.ps, oks.ds⟩ ⟨?_, fews.ts, fews.tx, fews.ps, fews.px, fews.ds, fews.dx⟩ hk
  · rw [hb]
    unfold scB ouB
    simp
  · unfold Sc.p
    rw [p_app]
    rfl
  · have := hv.less (Nat.zero_le _)
    simpa using this
  · have := (h.kd ho (fun e => by omega)).less (Nat.zero_le _)
    simpa using this
  · exact fun l hl => els_app (l0 := ⟨d0, some ⟨gT, 0, none⟩, 1⟩) (h.ke ho fun b h1 h2 _ _ e => by omega) (tri_es (t := t0) (ho.blk h.T fun e => by omega)) hl
  · exact fun l hl => cap_app (l0 := ⟨d0, some ⟨gT, 0, none⟩, 1⟩) h.dc (Nat.le_refl 1) hl
  · intro x hx
    rcases List.mem_append.1 hx with hx | hx
    · exact h.ok.vs x hx
    · obtain rfl : x = v := by simpa using hx
      exact hok
  · have := h.fit.v
    show (f.p.vs ++ [v]).length ≤ 1000
    rw [List.length_append]
    simp
    omega
/-- 4: a picture more. -/
theorem Rf.tex (h : Rf lo h1 h2 h3 gF gT g c X f) (t : Lo Tx) (A : Option Addr) (n : Nat) (k : Int) (ho : Om (fun b => h1 ≤ b ∧ b < h2 ∨ b = gF) X Z)
    (hb : Z.heap[gF]? = some (ouB f.w f.h f.k (.slice f.vA f.vs.length f.vc) (.slice A (f.ts.length + 1) n) (.slice f.pA f.ps.length f.pc) (.slice (some ⟨g, 0, none⟩) (f.ds.length + 1) c)))
    (hv : OwnE ET Z h1 (.slice A (f.ts.length + 1) n) (f.ts ++ [t])) (hx : ∀ l ∈ f.ts ++ [t], Es EC Z Z.heap.size l.A l.x.px) (hcp : ∀ l ∈ f.ts ++ [t], l.x.px.length ≤ l.c) (hok : I64 t.x.w ∧ I64 t.x.h ∧ t.x.ok) (hn : t.x.px.length ≤ 1000) (hk : check ⟨f.p.w, f.p.h, f.p.k, f.p.vs, f.p.ts ++ [t.x], f.p.ps, f.p.ds ++ [d0]⟩ = k) : Good Z gF k := by
  have l1 := h.l1
  have l2 := h.l2
  have l3 := h.l3
  have aF := h.aF
  have aT := h.aT
  have ag := h.ag
  have nFT := h.nFT
  have nFg := h.nFg
  have hP := h.kp ho (fun b _ hb e => by omega)
  have oks := ps_ok h.ok d0_ok
  have fews := ps_few h.few h.fit (d := d0) (by decide)
  refine good_mk ⟨f.w, f.h, f.k, f.vs, f.vA, f.vc, f.ts ++ [t], A, n, f.ps, f.pA, f.pc, f.ds ++ [⟨d0, some ⟨gT, 0, none⟩, 1⟩], some ⟨g, 0, none⟩, c⟩ (q := ⟨f.p.w, f.p.h, f.p.k, f.p.vs, f.p.ts ++ [t.x], f.p.ps, f.p.ds ++ [d0]⟩) ?_ ?_ ((h.kv ho (fun b hb e => by omega)).less (by omega)) ?_ hx hcp (hP.1.less (by omega)) hP.2 h.p.cap ?_ ?_ ?_ ⟨oks.w, oks.h, oks.k, oks.vs, ?_, oks.ps, oks.ds⟩ ⟨fews.vs, ?_, ?_, fews.ps, fews.px, fews.ds, fews.dx⟩ hk
  · rw [hb]
    unfold scB ouB
    simp
  · unfold Sc.p
    rw [p_app]
    show PS.mk _ _ _ _ ((f.ts ++ [t]).map Lo.x) _ _ = _
    rw [List.map_append]
    rfl
  · have := hv.less (Nat.zero_le _)
    simpa using this
  · have := (h.kd ho (fun e => by omega)).less (Nat.zero_le _)
    simpa using this
  · exact fun l hl => els_app (l0 := ⟨d0, some ⟨gT, 0, none⟩, 1⟩) (h.ke ho fun b h1 h2 _ _ e => by omega) (tri_es (t := t0) (ho.blk h.T fun e => by omega)) hl
  · exact fun l hl => cap_app (l0 := ⟨d0, some ⟨gT, 0, none⟩, 1⟩) h.dc (Nat.le_refl 1) hl
  · intro x hx
    rcases List.mem_append.1 hx with hx | hx
    · exact h.ok.ts x hx
    · obtain rfl : x = t.x := by simpa using hx
      exact hok
  · have := h.fit.t
    show (f.p.ts ++ [t.x]).length ≤ 1000
    rw [List.length_append]
    simp
    omega
  · intro x hx
    rcases List.mem_append.1 hx with hx | hx
    · exact h.few.tx x hx
    · obtain rfl : x = t.x := by simpa using hx
      exact hn
/-- 5: the first program is none. -/
theorem Rf.code (h : Rf lo h1 h2 h3 gF gT g c X f) (k : Int) (ho : Om (fun b => h2 ≤ b ∧ b < h3) X Z)
    (hv : OwnE EP Z h2 (.slice f.pA f.ps.length f.pc) (f.ps.set 0 ⟨[], none, 0⟩)) (hpx : ∀ l ∈ f.ps, Es C.EI Z Z.heap.size l.A l.x) (hk : check ⟨f.p.w, f.p.h, f.p.k, f.p.vs, f.p.ts, f.p.ps.set 0 [], f.p.ds ++ [d0]⟩ = k) : Good Z gF k := by
  have l1 := h.l1
  have l2 := h.l2
  have l3 := h.l3
  have aF := h.aF
  have aT := h.aT
  have ag := h.ag
  have nFT := h.nFT
  have nFg := h.nFg
  have hT := h.kt ho (fun b _ hb e => by omega)
  have oks := ps_ok h.ok d0_ok
  have fews := ps_few h.few h.fit (d := d0) (by decide)
  refine good_mk ⟨f.w, f.h, f.k, f.vs, f.vA, f.vc, f.ts, f.tA, f.tc, f.ps.set 0 ⟨[], none, 0⟩, f.pA, f.pc, f.ds ++ [⟨d0, some ⟨gT, 0, none⟩, 1⟩], some ⟨g, 0, none⟩, c⟩ (q := ⟨f.p.w, f.p.h, f.p.k, f.p.vs, f.p.ts, f.p.ps.set 0 [], f.p.ds ++ [d0]⟩) ?_ ?_ ((h.kv ho (fun b hb e => by omega)).less (by omega)) (hT.1.less (by omega)) hT.2 h.t.cap ?_ ?_ ?_ ?_ ?_ ?_ ⟨oks.w, oks.h, oks.k, oks.vs, oks.ts, ?_, oks.ds⟩ ⟨fews.vs, fews.ts, fews.tx, ?_, ?_, fews.ds, fews.dx⟩ hk
  · rw [ho.blk h.F fun e => by omega]
    unfold scB ouB
    simp
  · unfold Sc.p
    rw [p_app]
    show PS.mk _ _ _ _ _ ((f.ps.set 0 ⟨[], none, 0⟩).map Lo.x) _ = _
    rw [List.map_set]
    rfl
  · have := hv.less (Nat.zero_le _)
    simpa using this
  · intro l hl
    rcases mem_set hl with hl | rfl
    · exact hpx l hl
    · exact Es.none_
  · intro l hl
    rcases mem_set hl with hl | rfl
    · exact h.p.cap l hl
    · exact Nat.le_refl _
  · have := (h.kd ho (fun e => by omega)).less (Nat.zero_le _)
    simpa using this
  · exact fun l hl => els_app (l0 := ⟨d0, some ⟨gT, 0, none⟩, 1⟩) (h.ke ho fun b h1 h2 _ _ e => by omega) (tri_es (t := t0) (ho.blk h.T fun e => by omega)) hl
  · exact fun l hl => cap_app (l0 := ⟨d0, some ⟨gT, 0, none⟩, 1⟩) h.dc (Nat.le_refl 1) hl
  · intro x hx
    rcases mem_set hx with hx | rfl
    · exact h.ok.ps x hx
    · intro y hy
      cases hy
  · have := h.fit.q
    show (f.p.ps.set 0 []).length ≤ 1000
    rw [List.length_set]
    omega
  · intro x hx
    rcases mem_set hx with hx | rfl
    · exact h.few.px x hx
    · exact Nat.zero_le _
/-- 8: the last triangle is told otherwise. -/
theorem Rf.tri (h : Rf lo h1 h2 h3 gF gT g c X f) (t : Tr) (k : Int) (ho : Om (fun b => b = gT) X Z)
    (hb : Z.heap[gT]? = some (.cells #[.int .i64 t.i, .int .i64 t.a, .int .i64 t.b, .int .i64 t.c] 47 (0, 0))) (hok : t.ok)
    (hk : check (f.p.wd (f.p.ds ++ [⟨9999, 0, -1, false, [t]⟩])) = k) : Good Z gF k := by
  have l1 := h.l1
  have l2 := h.l2
  have l3 := h.l3
  have aT := h.aT
  have hT := h.kt ho (fun b _ hb e => by omega)
  have hP := h.kp ho (fun b _ hb e => by omega)
  have hD := h.kd ho fun e => h.nTg e.symm
  have hdok : (⟨9999, 0, -1, false, [t]⟩ : Dr).ok := d_ok (i64s (by decide) (by decide)) (i64s (by decide) (by decide)) (i64s (by decide) (by decide)) (fun x hx => by
    obtain rfl : x = t := by simpa using hx
    exact hok)
  refine good_mk ⟨f.w, f.h, f.k, f.vs, f.vA, f.vc, f.ts, f.tA, f.tc, f.ps, f.pA, f.pc, f.ds ++ [⟨⟨9999, 0, -1, false, [t]⟩, some ⟨gT, 0, none⟩, 1⟩], some ⟨g, 0, none⟩, c⟩ (q := f.p.wd (f.p.ds ++ [⟨9999, 0, -1, false, [t]⟩])) ?_ ?_ ((h.kv ho (fun b hb e => by omega)).less (by omega)) (hT.1.less (by omega)) hT.2 h.t.cap (hP.1.less (by omega)) hP.2 h.p.cap ?_ ?_ ?_ (ps_ok h.ok hdok) (ps_few h.few h.fit (d := ⟨9999, 0, -1, false, [t]⟩) (by show 1 ≤ 1000; omega)) hk
  · rw [ho.blk h.F h.nFT]
    unfold scB ouB
    simp
  · unfold Sc.p
    rw [p_app]
    rfl
  · have h2 := hD.less (Nat.zero_le _)
    unfold OwnE at h2 ⊢
    have e1 : ED.flat (f.ds ++ [(⟨⟨9999, 0, -1, false, [t]⟩, some ⟨gT, 0, none⟩, 1⟩ : Lo Dr)]) = ED.flat (f.ds ++ [(⟨d0, some ⟨gT, 0, none⟩, 1⟩ : Lo Dr)]) := by
      rw [Elem.flat_append, Elem.flat_append]
      rfl
    show Z.ownsRow 0 ED.t ED.size (.slice (some ⟨g, 0, none⟩) (f.ds ++ [(⟨⟨9999, 0, -1, false, [t]⟩, some ⟨gT, 0, none⟩, 1⟩ : Lo Dr)]).length c) (f.ds ++ [(⟨⟨9999, 0, -1, false, [t]⟩, some ⟨gT, 0, none⟩, 1⟩ : Lo Dr)]).length (ED.flat (f.ds ++ [(⟨⟨9999, 0, -1, false, [t]⟩, some ⟨gT, 0, none⟩, 1⟩ : Lo Dr)]))
    rw [e1]
    simpa using h2
  · exact fun l hl => els_app (l0 := ⟨⟨9999, 0, -1, false, [t]⟩, some ⟨gT, 0, none⟩, 1⟩) (h.ke ho fun b _ _ h1 _ => h1) (tri_es (t := t) hb) hl
  · exact fun l hl => cap_app (l0 := ⟨⟨9999, 0, -1, false, [t]⟩, some ⟨gT, 0, none⟩, 1⟩) h.dc (Nat.le_refl 1) hl
end
end Go.Proofs.Ytnpcmoeleigpoaa
