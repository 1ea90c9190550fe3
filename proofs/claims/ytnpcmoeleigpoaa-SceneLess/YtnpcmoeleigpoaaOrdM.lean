/-
  A scene with other draws, in other rows.
-/
import Derived.Test.YtnpcmoeleigpoaaRowsR
namespace Go.Proofs.Ytnpcmoeleigpoaa
open Go.RowKit

/-- A scene with another row of draws. -/
def Sc.wl (f : Sc) (ls : List (Lo Dr)) (A : Option Addr) (c : Nat) : Sc := ⟨f.w, f.h, f.k, f.vs, f.vA, f.vc, f.ts, f.tA, f.tc, f.ps, f.pA, f.pc, ls, A, c⟩
theorem wl_p (f : Sc) (ls : List (Lo Dr)) (A : Option Addr) (c : Nat) : (f.wl ls A c).p = f.p.wd (ls.map Lo.x) := rfl
/-- What is known of a scene at a world. -/
structure Kn (X : World) (B : Nat) (f : Sc) : Prop where
  at' : f.at X B
  cap : f.cap
  ok : f.p.ok
  few : f.p.few
section
variable {X Z : World} {B B' : Nat} {f : Sc}
theorem Kn.below (h : Kn X B f) (hb : Below B X Z) : Kn Z B f := ⟨h.at'.below hb, h.cap, h.ok, h.few⟩
theorem Kn.more (h : Kn X B f) (hb : B ≤ B') : Kn X B' f := ⟨h.at'.more hb, h.cap, h.ok, h.few⟩
theorem Kn.sok (h : Kn X B f) : f.ok := ok_of rfl h.ok h.cap
theorem Kn.sfew (h : Kn X B f) : f.few := few_of rfl h.few
theorem Kn.wl (h : Kn X B f) {ls : List (Lo Dr)} {A : Option Addr} {c base : Nat} (hB : B ≤ X.heap.size) (hd : OwnE ED X base (.slice A ls.length c) ls) (hx : ∀ l ∈ ls, Es ER X X.heap.size l.A l.x.tris) (hc : ∀ l ∈ ls, l.x.tris.length ≤ l.c)
    (hok : ∀ l ∈ ls, l.x.ok) (hn : ∀ l ∈ ls, l.x.tris.length ≤ 1000) (hl : ls.length ≤ 1000) : Kn X X.heap.size (f.wl ls A c) := by
  have h' := h.more hB
  refine ⟨⟨h'.at'.v, h'.at'.t, h'.at'.tx, h'.at'.p, h'.at'.px, (ownE_es hd).2.2, hx⟩, ⟨h.cap.v, h.cap.t, h.cap.tx, h.cap.p, h.cap.px, (ownE_es hd).2.1, hc⟩, ⟨h.ok.w, h.ok.h, h.ok.k, h.ok.vs, h.ok.ts, h.ok.ps, fun d hd => ?_⟩, ⟨h.few.vs, h.few.ts, h.few.tx, h.few.ps, h.few.px, ?_, fun d hd => ?_⟩⟩
  · obtain ⟨l, hl, rfl⟩ := List.mem_map.1 (show d ∈ ls.map Lo.x from hd)
    exact hok l hl
  · show (ls.map Lo.x).length ≤ 1000
    rw [List.length_map]
    exact hl
  · obtain ⟨l, hl, rfl⟩ := List.mem_map.1 (show d ∈ ls.map Lo.x from hd)
    exact hn l hl
theorem Kn.check (h : Kn X B f) {k : Int} (hk : check f.p = k) (hB : B ≤ X.heap.size) : ∀ Y, Below X.heap.size X Y → Calls Try.prog 12 #[.agg #[.int .i64 f.w, .int .i64 f.h, .int .u8 f.k.r, .int .u8 f.k.g, .int .u8 f.k.b, .int .u8 f.k.a, .slice f.vA f.vs.length f.vc, .slice f.tA f.ts.length f.tc, .slice f.pA f.ps.length f.pc, .slice f.dA f.ds.length f.dc]] Y fun e w' => e = .returned (.int .i64 k) ∧ Below Y.heap.size Y w' := fun Y hb => by
  rw [← hk]
  exact check_scene f Y (((h.more hB).at'.below hb).more hb.size) h.sok h.sfew
theorem Kn.count (h : Kn X B f) {k : Int} (hk : (count f.p : Int) = k) (hB : B ≤ X.heap.size) : ∀ Y, Below X.heap.size X Y → Calls Try.prog 14 #[.agg #[.int .i64 f.w, .int .i64 f.h, .int .u8 f.k.r, .int .u8 f.k.g, .int .u8 f.k.b, .int .u8 f.k.a, .slice f.vA f.vs.length f.vc, .slice f.tA f.ts.length f.tc, .slice f.pA f.ps.length f.pc, .slice f.dA f.ds.length f.dc]] Y fun e w' => e = .returned (.int .i64 k) ∧ Below Y.heap.size Y w' := fun Y hb => by
  rw [← hk]
  exact count_any f h.sfew Y (((h.more hB).at'.below hb).more hb.size).d
theorem d_okl (h : Kn X B f) : ∀ l ∈ f.ds, l.x.ok := fun l hl => h.ok.ds l.x (List.mem_map.2 ⟨l, hl, rfl⟩)
theorem revD_ok' {d : Dr} (h : d.ok) : (revD d).ok := ⟨h.id, h.prog, h.tex, fun t ht => h.tris t (List.mem_reverse.1 ht)⟩
end
/-- A row gone through from behind: one more. -/
theorem drop_rev {α : Type} {l : List (Lo α)} {i : Nat} {u : Lo α} (f : α → α) (h : l[i]? = some u) : ((l.map Lo.x).drop i).reverse.map f = ((l.map Lo.x).drop (i + 1)).reverse.map f ++ [f u.x] := by
  have h2 : (l.map Lo.x)[i]? = some u.x := by rw [List.getElem?_map, h]; rfl
  obtain ⟨hi, e⟩ := List.getElem?_eq_some_iff.1 h2
  rw [List.drop_eq_getElem_cons hi, e, List.reverse_cons, List.map_append]
  rfl
theorem drop_rev1 {α : Type} {l : List α} {i : Nat} {u : α} (h : l[i]? = some u) : (l.drop i).reverse = (l.drop (i + 1)).reverse ++ [u] := by
  obtain ⟨hi, e⟩ := List.getElem?_eq_some_iff.1 h
  rw [List.drop_eq_getElem_cons hi, e, List.reverse_cons]
theorem FitR.kn {w w' : World} {f : Sc} {h1 h2 h3 : Nat} (h : FitR w w' f h1 h2 h3) (hok : f.p.ok) (hfew : f.p.few) : Kn w' w'.heap.size f := ⟨h.at, h.cap, hok, hfew⟩
end Go.Proofs.Ytnpcmoeleigpoaa
