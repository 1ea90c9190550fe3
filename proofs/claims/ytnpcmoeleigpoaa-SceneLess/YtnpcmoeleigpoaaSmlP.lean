/-
  Scenes of not too much of all (pure), and what of a scene's parts is fine.
-/
import Derived.Test.YtnpcmoeleigpoaaOpen
namespace Go.Proofs.Ytnpcmoeleigpoaa

structure PS.ok (p : PS) : Prop where
  w : I64 p.w
  h : I64 p.h
  k : p.k.ok
  vs : ∀ v ∈ p.vs, v.i64
  ts : ∀ t ∈ p.ts, I64 t.w ∧ I64 t.h ∧ t.ok
  ps : ∀ l ∈ p.ps, ∀ x ∈ l, x.ok
  ds : ∀ d ∈ p.ds, d.ok
structure PS.few (p : PS) : Prop where
  vs : p.vs.length ≤ 1000
  ts : p.ts.length ≤ 1000
  tx : ∀ t ∈ p.ts, t.px.length ≤ 1000
  ps : p.ps.length ≤ 1000
  px : ∀ l ∈ p.ps, l.length ≤ 1000
  ds : p.ds.length ≤ 1000
  dx : ∀ d ∈ p.ds, d.tris.length ≤ 1000
/-- Its rows have room for what they have. -/
structure Sc.cap (s : Sc) : Prop where
  v : s.vs.length ≤ s.vc
  t : s.ts.length ≤ s.tc
  tx : ∀ l ∈ s.ts, l.x.px.length ≤ l.c
  p : s.ps.length ≤ s.pc
  px : ∀ l ∈ s.ps, l.x.length ≤ l.c
  d : s.ds.length ≤ s.dc
  dx : ∀ l ∈ s.ds, l.x.tris.length ≤ l.c
theorem ok_p {s : Sc} (h : s.ok) : s.p.ok := by
  refine ⟨h.w, h.h, h.k, h.vs, fun t ht => ?_, fun l hl => ?_, fun d hd => ?_⟩
  · obtain ⟨l, hl, rfl⟩ := List.mem_map.1 (show t ∈ s.ts.map Lo.x from ht)
    exact ⟨(h.ts l hl).1, (h.ts l hl).2.1, (h.ts l hl).2.2.1⟩
  · obtain ⟨x, hx, rfl⟩ := List.mem_map.1 (show l ∈ s.ps.map Lo.x from hl)
    exact (h.ps x hx).1
  · obtain ⟨x, hx, rfl⟩ := List.mem_map.1 (show d ∈ s.ds.map Lo.x from hd)
    exact (h.ds x hx).1
theorem ok_of {s : Sc} {p : PS} (e : s.p = p) (h : p.ok) (c : s.cap) : s.ok := by
  subst e
  exact ⟨h.w, h.h, h.k, h.vs, fun l hl => by
    have := h.ts l.x (List.mem_map.2 ⟨l, hl, rfl⟩)
    exact ⟨this.1, this.2.1, this.2.2, c.tx l hl⟩, fun l hl => ⟨h.ps l.x (List.mem_map.2 ⟨l, hl, rfl⟩), c.px l hl⟩, fun l hl => ⟨h.ds l.x (List.mem_map.2 ⟨l, hl, rfl⟩), c.dx l hl⟩, c.v, c.t, c.p, c.d⟩
theorem few_of {s : Sc} {p : PS} (e : s.p = p) (h : p.few) : s.few := by
  subst e
  exact ⟨h.vs, by have := h.ts; rwa [show s.p.ts.length = s.ts.length by show (s.ts.map Lo.x).length = _; rw [List.length_map]] at this, fun l hl => h.tx l.x (List.mem_map.2 ⟨l, hl, rfl⟩),
    by have := h.ps; rwa [show s.p.ps.length = s.ps.length by show (s.ps.map Lo.x).length = _; rw [List.length_map]] at this, fun l hl => h.px l.x (List.mem_map.2 ⟨l, hl, rfl⟩),
    by have := h.ds; rwa [show s.p.ds.length = s.ds.length by show (s.ds.map Lo.x).length = _; rw [List.length_map]] at this, fun l hl => h.dx l.x (List.mem_map.2 ⟨l, hl, rfl⟩)⟩
def smT (t : Tx) : Tx := ⟨t.w, t.h, t.px.take 260⟩
def smI (l : List C.In) : List C.In := l.take 34
def smD (d : Dr) : Dr := ⟨d.id, d.prog, d.tex, d.op, d.tris.take 34⟩
def smP (p : PS) : PS := ⟨p.w, p.h, p.k, p.vs.take 66, (p.ts.take 5).map smT, (p.ps.take 5).map smI, (p.ds.take 9).map smD⟩
theorem smP_ok {p : PS} (h : p.ok) : (smP p).ok := by
  refine ⟨h.w, h.h, h.k, fun v hv => h.vs v (List.mem_of_mem_take hv), fun t ht => ?_, fun l hl => ?_, fun d hd => ?_⟩
  · obtain ⟨t, hm, rfl⟩ := List.mem_map.1 ht
    have := h.ts t (List.mem_of_mem_take hm)
    exact ⟨this.1, this.2.1, fun c hc => this.2.2 c (List.mem_of_mem_take hc)⟩
  · obtain ⟨l, hm, rfl⟩ := List.mem_map.1 hl
    exact fun x hx => h.ps l (List.mem_of_mem_take hm) x (List.mem_of_mem_take hx)
  · obtain ⟨d, hm, rfl⟩ := List.mem_map.1 hd
    have := h.ds d (List.mem_of_mem_take hm)
    exact ⟨this.id, this.prog, this.tex, fun t ht => this.tris t (List.mem_of_mem_take ht)⟩
theorem take_le {α : Type} (l : List α) (n : Nat) : (l.take n).length ≤ n := by rw [List.length_take]; omega
theorem smP_few (p : PS) : (smP p).few := by
  refine ⟨?_, ?_, fun t ht => ?_, ?_, fun l hl => ?_, ?_, fun d hd => ?_⟩
  · exact Nat.le_trans (take_le _ _) (by omega)
  · show ((p.ts.take 5).map smT).length ≤ 1000
    rw [List.length_map]
    exact Nat.le_trans (take_le _ _) (by omega)
  · obtain ⟨t, hm, rfl⟩ := List.mem_map.1 ht
    exact Nat.le_trans (take_le _ _) (by omega)
  · show ((p.ps.take 5).map smI).length ≤ 1000
    rw [List.length_map]
    exact Nat.le_trans (take_le _ _) (by omega)
  · obtain ⟨l, hm, rfl⟩ := List.mem_map.1 hl
    exact Nat.le_trans (take_le _ _) (by omega)
  · show ((p.ds.take 9).map smD).length ≤ 1000
    rw [List.length_map]
    exact Nat.le_trans (take_le _ _) (by omega)
  · obtain ⟨d, hm, rfl⟩ := List.mem_map.1 hd
    exact Nat.le_trans (take_le _ _) (by omega)
end Go.Proofs.Ytnpcmoeleigpoaa
