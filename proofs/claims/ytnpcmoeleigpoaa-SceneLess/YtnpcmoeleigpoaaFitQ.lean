/-
  What the reference's Fit answers, as a scene that may be.
-/
import Derived.Test.YtnpcmoeleigpoaaSFit
namespace Go.Proofs.Ytnpcmoeleigpoaa
open Go.RowKit

/-- Where the rows of a scene lie that Fit made. -/
structure FitR (w w' : World) (x : Sc) (h1 h2 h3 : Nat) : Prop where
  l1 : w.heap.size ≤ h1
  l2 : h1 ≤ h2
  l3 : h2 ≤ h3
  l4 : h3 ≤ w'.heap.size
  v : OwnE EV w' w.heap.size (.slice x.vA x.vs.length x.vc) x.vs
  vb : ∀ b, (Value.slice x.vA x.vs.length x.vc).ownBlock = some b → b < h1
  t : OwnB ET EC Tx.px w' h1 h2 (.slice x.tA x.ts.length x.tc) x.ts
  p : OwnB EP C.EI (fun l => l) w' h2 h3 (.slice x.pA x.ps.length x.pc) x.ps
  d : OwnB ED ER Dr.tris w' h3 w'.heap.size (.slice x.dA x.ds.length x.dc) x.ds
  b : Below w.heap.size w w'
theorem FitR.cap {w w' : World} {x : Sc} {h1 h2 h3 : Nat} (h : FitR w w' x h1 h2 h3) : x.cap :=
  ⟨(ownE_es h.v).2.1, (ownE_es h.t.own).2.1, h.t.cap, (ownE_es h.p.own).2.1, h.p.cap, (ownE_es h.d.own).2.1, h.d.cap⟩
theorem FitR.at {w w' : World} {x : Sc} {h1 h2 h3 : Nat} (h : FitR w w' x h1 h2 h3) : x.at w' w'.heap.size :=
  ⟨(ownE_es h.v).2.2, (ownE_es h.t.own).2.2, fun l hl => (h.t.els l hl).es (fun _ _ hb => hb), (ownE_es h.p.own).2.2, fun l hl => (h.p.els l hl).es (fun _ _ hb => hb), (ownE_es h.d.own).2.2, fun l hl => (h.d.els l hl).es (fun _ _ hb => hb)⟩
/-- What Fit answers, and that it may be. -/
def FitsR (s : Sc) (most verts draws tris : Nat) (w : World) (e : Ending) (w' : World) : Prop :=
  ∃ (x : Sc) (h1 h2 h3 : Nat), e = .returned (.agg #[.int .i64 x.w, .int .i64 x.h, .int .u8 x.k.r, .int .u8 x.k.g, .int .u8 x.k.b, .int .u8 x.k.a, .slice x.vA x.vs.length x.vc, .slice x.tA x.ts.length x.tc, .slice x.pA x.ps.length x.pc, .slice x.dA x.ds.length x.dc]) ∧ x.p = fitS s.p most verts draws tris ∧ x.ok ∧ x.few ∧ FitR w w' x h1 h2 h3
theorem fitr_any (s : Sc) (most verts draws tris : Nat) (hm0 : 1 ≤ most) (hm1 : most ≤ 64) (hv63 : verts ≤ 63) (hd8 : draws ≤ 8) (ht32 : tris ≤ 32) (w : World) (ha : s.at w w.heap.size) (hc : s.ok) :
    Calls Try.prog 11 #[.agg #[.int .i64 s.w, .int .i64 s.h, .int .u8 s.k.r, .int .u8 s.k.g, .int .u8 s.k.b, .int .u8 s.k.a, .slice s.vA s.vs.length s.vc, .slice s.tA s.ts.length s.tc, .slice s.pA s.ps.length s.pc, .slice s.dA s.ds.length s.dc], .int .i64 most, .int .i64 verts, .int .i64 draws, .int .i64 tris] w (FitsR s most verts draws tris w) := by
  refine (sfit_any s most verts draws tris hm0 hm1 hv63 hd8 ht32 w ha hc).mono ?_
  rintro e w' ⟨x, h1, h2, h3, rfl, hp, l1, l2, l3, l4, v, vb, t, p, d, b⟩
  have hR : FitR w w' x h1 h2 h3 := ⟨l1, l2, l3, l4, v, vb, t, p, d, b⟩
  exact ⟨x, h1, h2, h3, rfl, hp, ok_of hp (fitS_ok (ok_p hc) hm0 hm1 hv63 hd8 ht32) hR.cap, few_of hp (fitS_few hv63 hd8 ht32), hR⟩
end Go.Proofs.Ytnpcmoeleigpoaa
