/-
  What the reference's Fit answers, as a scene that may be.
-/
import Derived.Test.YtfmmfaeognoleaaSFit
import Derived.Test.YtfmmfaeognoleaaM9
import Derived.Test.YtfmmfaeognoleaaM7
import Derived.Deep.Draws
import Derived.Test.YtfmmfaeognoleaaM8
import Derived.Test.YtfmmfaeognoleaaM5
import Derived.Deep.RegionHeld3
import Derived.BigQuiet
namespace Go.Proofs.Ytfmmfaeognoleaa
open Go.RowKit

/-- Where the rows of a scene lie that Fit made. -/
structure FitR (w w' : World) (x : Sc) (h1 h2 h3 : Nat) : Prop where
  l1 : w.heap.size ≤ h1
  l2 : h1 ≤ h2
  l3 : h2 ≤ h3
  l4 : h3 ≤ w'.heap.size
  v : OwnE EV w' w.heap.size (.slice x.vA x.vs.length x.vc) x.vs
  vb : ∀ b, (Value.slice x.vA x.vs.length x.vc).ownBlock = some b → b < h1
  t : OwnB ET EC Tx.px w' h1 h2 (.slice x.tA x.ts.length x.tc) x.ts
  p : OwnB EP C.EI (fun l => l) w' h2 h3 (.slice x.pA x.ps.length x.pc) x.ps
  d : OwnB ED ER Dr.tris w' h3 w'.heap.size (.slice x.dA x.ds.length x.dc) x.ds
  b : Below w.heap.size w w'
theorem FitR.cap {w w' : World} {x : Sc} {h1 h2 h3 : Nat} (h : FitR w w' x h1 h2 h3) : x.cap :=
  ⟨(ownE_es h.v).2.1, (ownE_es h.t.own).2.1, h.t.cap, (ownE_es h.p.own).2.1, h.p.cap, (ownE_es h.d.own).2.1, h.d.cap⟩
theorem FitR.at {w w' : World} {x : Sc} {h1 h2 h3 : Nat} (h : FitR w w' x h1 h2 h3) : x.at w' w'.heap.size :=
  ⟨(ownE_es h.v).2.2, (ownE_es h.t.own).2.2, fun l hl => (h.t.els l hl).es (fun _ _ hb => hb), (ownE_es h.p.own).2.2, fun l hl => (h.p.els l hl).es (fun _ _ hb => hb), (ownE_es h.d.own).2.2, fun l hl => (h.d.els l hl).es (fun _ _ hb => hb)⟩
/-- What Fit answers, and that it may be. -/
def FitsR (s : Sc) (most verts draws tris : Nat) (w : World) (e : Ending) (w' : World) : Prop :=
  ∃ (x : Sc) (h1 h2 h3 : Nat), e = .returned (.agg #[.int .i64 x.w, .int .i64 x.h, .int .u8 x.k.r, .int .u8 x.k.g, .int .u8 x.k.b, .int .u8 x.k.a, .slice x.vA x.vs.length x.vc, .slice x.tA x.ts.length x.tc, .slice x.pA x.ps.length x.pc, .slice x.dA x.ds.length x.dc]) ∧ x.p = fitS s.p most verts draws tris ∧ x.ok ∧ x.few ∧ FitR w w' x h1 h2 h3
theorem fitr_any (s : Sc) (most verts draws tris : Nat) (hm0 : 1 ≤ most) (hm1 : most ≤ 64) (hv63 : verts ≤ 63) (hd8 : draws ≤ 8) (ht32 : tris ≤ 32) (w : World) (ha : s.at w w.heap.size) (hc : s.ok) :
    Calls Try.prog 11 #[.agg #[.int .i64 s.w, .int .i64 s.h, .int .u8 s.k.r, .int .u8 s.k.g, .int .u8 s.k.b, .int .u8 s.k.a, .slice s.vA s.vs.length s.vc, .slice s.tA s.ts.length s.tc, .slice s.pA s.ps.length s.pc, .slice s.dA s.ds.length s.dc], .int .i64 most, .int .i64 verts, .int .i64 draws, .int .i64 tris] w (FitsR s most verts draws tris w) := by
  refine (sfit_any s most verts draws tris hm0 hm1 hv63 hd8 ht32 w ha hc).mono ?_
  rintro e w' ⟨x, h1, h2, h3, rfl, hp, l1, l2, l3, l4, v, vb, t, p, d, b⟩
  have hR : FitR w w' x h1 h2 h3 := ⟨l1, l2, l3, l4, v, vb, t, p, d, b⟩
  exact ⟨x, h1, h2, h3, rfl, hp, ok_of hp (fitS_ok (ok_p hc) hm0 hm1 hv63 hd8 ht32) hR.cap, few_of hp (fitS_few hv63 hd8 ht32), hR⟩
end Go.Proofs.Ytfmmfaeognoleaa
/-
  A scene at a block as one fact, what of it stays, and a row of it put anew.
-/
namespace Go.Proofs.Ytfmmfaeognoleaa
open Go.RowKit

/-- The block g holds the scene y. -/
structure Has (g : Nat) (y : Sc) (W : World) : Prop where
  b : W.heap[g]? = some (scB y)
  a : y.at W W.heap.size
theorem Has.lt {g : Nat} {y : Sc} {W : World} (h : Has g y W) : g < W.heap.size := scB_lt h.b
theorem Has.below {g : Nat} {y : Sc} {W W' : World} (h : Has g y W) (hb : Below W.heap.size W W') : Has g y W' := ⟨(hb.block _ h.lt).trans h.b, (h.a.below hb).more hb.size⟩
theorem has_new {y : Sc} {W : World} (h : y.at W W.heap.size) : Has W.heap.size y (W.alloc (.cells #[.int .i64 y.w, .int .i64 y.h, .int .u8 y.k.r, .int .u8 y.k.g, .int .u8 y.k.b, .int .u8 y.k.a, .slice y.vA y.vs.length y.vc, .slice y.tA y.ts.length y.tc, .slice y.pA y.ps.length y.pc, .slice y.dA y.ds.length y.dc] 33)) := ⟨heap_alloc_new _ _, (h.below (new_below _ _)).more (by simp)⟩
/-- The scene, the vertex and the bytes of it lie as they lay. -/
structure Gr (w : World) (gF gV : Nat) (f : Sc) (v : U.V) (A : Option Addr) (bs : List Int) (W : World) : Prop where
  b : Below w.heap.size w W
  F : Has gF f W
  V : W.heap[gV]? = some (U.vB 43 v)
  s : P.Sl .u8 W W.heap.size A bs
theorem Gr.below {w W W' : World} {gF gV : Nat} {f : Sc} {v : U.V} {A : Option Addr} {bs : List Int} (h : Gr w gF gV f v A bs W) (hb : Below W.heap.size W W') : Gr w gF gV f v A bs W' :=
  ⟨bstep h.b h.b.size hb, h.F.below hb, (hb.block _ (U.vB_lt h.V)).trans h.V, (h.s.below hb).more hb.size⟩
section
variable {f : Sc} {u W : World} {g : Nat} {v2 : Value}
theorem in_t (ha : f.at u g) (hb : Below g u W) : ∀ l ∈ f.ts, EsP EC W (fun b => b ≠ g) l.A l.x.px := fun l hl => (((ha.tx l hl).below hb).toP).imp fun _ h1 _ => Nat.ne_of_lt h1
theorem in_d (ha : f.at u g) (hb : Below g u W) : ∀ l ∈ f.ds, EsP ER W (fun b => b ≠ g) l.A l.x.tris := fun l hl => (((ha.dx l hl).below hb).toP).imp fun _ h1 _ => Nat.ne_of_lt h1
theorem set_es {α : Type} {E : Elem α} {A : Option Addr} {xs : List α} {o : Nat} {x : Value} (h : EsP E W (fun b => b ≠ g) A xs) : Es E (W.setCell ⟨g, o, none⟩ x) (W.setCell ⟨g, o, none⟩ x).heap.size A xs :=
  (h.keep fun b hb _ => heap_setCell_other _ _ _ _ (by simpa using hb)).es fun _ _ h => h
theorem has_v {xs : List U.V} (ha : f.at u g) (hl : g < u.heap.size) (hb : Below u.heap.size u W) (hg : u.heap[g]? = some (scB f)) (ho : OwnE EV W u.heap.size v2 xs) :
    ∃ A c, v2 = .slice A xs.length c ∧ xs.length ≤ c ∧ Has g { f with vs := xs, vA := A, vc := c } (W.setCell ⟨g, 6, none⟩ (.slice A xs.length c)) ∧ Below g u (W.setCell ⟨g, 6, none⟩ (.slice A xs.length c)) := by
  obtain ⟨A, c, rfl, hc, -, -⟩ := ho.es
  have hbz : Below g u (W.setCell ⟨g, 6, none⟩ (.slice A xs.length c)) := (hb.mono (Nat.le_of_lt hl)).setCell (p := ⟨g, 6, none⟩) (Nat.le_refl _) _
  have hs := hbz.size
  have h' := (ha.below hbz).more (B' := (W.setCell ⟨g, 6, none⟩ (.slice A xs.length c)).heap.size) (by omega)
  have hW : W.heap[g]? = some (ouB f.w f.h f.k (.slice f.vA f.vs.length f.vc) (.slice f.tA f.ts.length f.tc) (.slice f.pA f.ps.length f.pc) (.slice f.dA f.ds.length f.dc)) := (hb.block _ hl).trans hg
  exact ⟨A, c, rfl, hc, ⟨ouB_set6 _ hW, (ownE_es (ho.setCell hl)).2.2, h'.t, h'.tx, h'.p, h'.px, h'.d, h'.dx⟩, hbz⟩
theorem has_t {xs : List (Lo Tx)} (ha : f.at u g) (hl : g < u.heap.size) (hb : Below u.heap.size u W) (hg : u.heap[g]? = some (scB f)) (ho : OwnE ET W u.heap.size v2 xs) (hx : ∀ l ∈ xs, EsP EC W (fun b => b ≠ g) l.A l.x.px) :
    ∃ A c, v2 = .slice A xs.length c ∧ xs.length ≤ c ∧ Has g { f with ts := xs, tA := A, tc := c } (W.setCell ⟨g, 7, none⟩ (.slice A xs.length c)) ∧ Below g u (W.setCell ⟨g, 7, none⟩ (.slice A xs.length c)) := by
  obtain ⟨A, c, rfl, hc, -, -⟩ := ho.es
  have hbz : Below g u (W.setCell ⟨g, 7, none⟩ (.slice A xs.length c)) := (hb.mono (Nat.le_of_lt hl)).setCell (p := ⟨g, 7, none⟩) (Nat.le_refl _) _
  have hs := hbz.size
  have h' := (ha.below hbz).more (B' := (W.setCell ⟨g, 7, none⟩ (.slice A xs.length c)).heap.size) (by omega)
  have hW : W.heap[g]? = some (ouB f.w f.h f.k (.slice f.vA f.vs.length f.vc) (.slice f.tA f.ts.length f.tc) (.slice f.pA f.ps.length f.pc) (.slice f.dA f.ds.length f.dc)) := (hb.block _ hl).trans hg
  exact ⟨A, c, rfl, hc, ⟨ouB_set7 _ hW, h'.v, (ownE_es (ho.setCell hl)).2.2, fun l h => set_es (hx l h), h'.p, h'.px, h'.d, h'.dx⟩, hbz⟩
theorem has_d {xs : List (Lo Dr)} (ha : f.at u g) (hl : g < u.heap.size) (hb : Below u.heap.size u W) (hg : u.heap[g]? = some (scB f)) (ho : OwnE ED W u.heap.size v2 xs) (hx : ∀ l ∈ xs, EsP ER W (fun b => b ≠ g) l.A l.x.tris) :
    ∃ A c, v2 = .slice A xs.length c ∧ xs.length ≤ c ∧ Has g { f with ds := xs, dA := A, dc := c } (W.setCell ⟨g, 9, none⟩ (.slice A xs.length c)) ∧ Below g u (W.setCell ⟨g, 9, none⟩ (.slice A xs.length c)) := by
  obtain ⟨A, c, rfl, hc, -, -⟩ := ho.es
  have hbz : Below g u (W.setCell ⟨g, 9, none⟩ (.slice A xs.length c)) := (hb.mono (Nat.le_of_lt hl)).setCell (p := ⟨g, 9, none⟩) (Nat.le_refl _) _
  have hs := hbz.size
  have h' := (ha.below hbz).more (B' := (W.setCell ⟨g, 9, none⟩ (.slice A xs.length c)).heap.size) (by omega)
  have hW : W.heap[g]? = some (ouB f.w f.h f.k (.slice f.vA f.vs.length f.vc) (.slice f.tA f.ts.length f.tc) (.slice f.pA f.ps.length f.pc) (.slice f.dA f.ds.length f.dc)) := (hb.block _ hl).trans hg
  exact ⟨A, c, rfl, hc, ⟨ouB_set9 _ hW, h'.v, h'.t, h'.tx, h'.p, h'.px, (ownE_es (ho.setCell hl)).2.2, fun l h => set_es (hx l h)⟩, hbz⟩
end
theorem below_drewN {B n : Nat} {w w' : World} (h : Below B w w') : Below B w (w'.drewN n) := ⟨h.os, h.tape, h.output, h.size, h.block⟩
/-- The texel of a new picture. -/
theorem px_keep {w7 w8 : World} {g base n c : Nat} {A : Option Addr} {xs : List (Lo Tx)} {T : Obj} (ho : OwnE ET w7 base (.slice A n c) xs) (hg : g < w7.heap.size)
    (h2 : ((w7.alloc (.cells #[.int .u8 0, .int .u8 0, .int .u8 0, .int .u8 9] 27)).alloc T).grownBy w8 (Value.slice A n c).ownBlock) : EsP EC w8 (fun b => b ≠ g) (some ⟨w7.heap.size, 0, none⟩) t9.px := by
  have hh : ((w7.alloc (.cells #[.int .u8 0, .int .u8 0, .int .u8 0, .int .u8 9] 27)).alloc T).heap[w7.heap.size]? = some (.cells #[.int .u8 0, .int .u8 0, .int .u8 0, .int .u8 9] 27) := (heap_alloc_old _ _ (by simp)).trans (heap_alloc_new _ _)
  have he := es_one (E := EC) (x := ⟨0, 0, 0, 9⟩) (cs := #[.int .u8 0, .int .u8 0, .int .u8 0, .int .u8 9]) rfl hh
  intro hne
  obtain ⟨b, off, e, hb, hc⟩ := he (by simp)
  cases e
  refine ⟨_, _, rfl, by omega, fun j x hj => (hc j x hj).same (h2.block _ hb fun e => ?_)⟩
  have := ownE_lt ho e.symm
  omega
end Go.Proofs.Ytfmmfaeognoleaa
/-
  The walk of glazierlaw03.WireSigns, at this seat's translation.
-/
namespace Go.Proofs.Ytfmmfaeognoleaa.P
open Go.RowKit

theorem put1_any (n : Int) (w : World) (h0 : -9223372036854775808 ≤ n) (h1 : n ≤ 9223372036854775807) :
    Calls Try.prog 27 #[.slice (some ⟨w.heap.size, 0, none⟩) 1 1] (w.alloc (.cells #[.int .i64 n] 3)) (Made 5 .u8 (w.heap.size + 1) (w.alloc (.cells #[.int .i64 n] 3)) (enc (fold n))) := by
  have h := put_any (some ⟨w.heap.size, 0, none⟩) 1 [n] (w.heap.size + 1) (w.alloc (.cells #[.int .i64 n] 3))
    (fun _ => ⟨w.heap.size, 0, rfl, by omega, fun j hj => by
      simp at hj
      subst hj
      simp [go_sem]⟩) (by simp) (by intro x hx; simp at hx; subst hx; exact ⟨h0, h1⟩) (by simp)
  rw [put_cons, put_nil, List.append_nil] at h
  simpa using h

theorem slice_from (A : Option Addr) (n c k m : Nat) (i : Int) (hk : n = k + m) (hn : n ≤ c) (hi : i = (k : Int)) :
    ∃ A', (∀ W, (Instr.slice 24 (.slice A n c) (some (.int .i64 i)) none none).run Try.prog W = .ok (.slice A' m (c - k)) W) ∧ (∀ q w B xs, xs.length = n → Sl q w B A xs → Sl q w B A' (xs.drop k)) := by
  subst hi
  refine ⟨if c = k then A else A.map fun x => x.add k, fun W => ?_, fun q w B xs hx h => h.cut (by omega)⟩
  have hkn : k ≤ n := by omega
  obtain rfl : m = n - k := by omega
  clear hk
  go_simp

theorem sl_keep {q : IntKind} {w w' : World} {A : Option Addr} {xs : List Int} (h : Sl q w w.heap.size A xs) (hb : Below w.heap.size w w') : Sl q w' w'.heap.size A xs := (h.below hb).more hb.size
theorem below_new {w w' : World} {o : Obj} (hb : Below (w.heap.size + 1) (w.alloc o) w') : Below w.heap.size w w' := ((Below.refl _ w).alloc (Nat.le_refl _) o).trans (hb.mono (Nat.le_succ _))

theorem fold_pos {m : Int} (h : 0 ≤ m) : fold m = 2 * m.toNat := by unfold fold; rw [if_neg (by omega)]
theorem fold_neg {m : Int} (h : 0 ≤ m) : fold (-m - 1) = 2 * m.toNat + 1 := by unfold fold; rw [if_pos (by omega)]; omega

end Go.Proofs.Ytfmmfaeognoleaa.P
/-
  The walk of glazierlaw03.WireOne, at this seat's translation.
-/
namespace Go.Proofs.Ytfmmfaeognoleaa.P
open Go.RowKit

theorem slice_to (A : Option Addr) (n c k : Nat) (i : Int) (hk : k ≤ c) (hi : i = (k : Int)) :
    ∀ W, (Instr.slice 24 (.slice A n c) none (some (.int .i64 i)) none).run Try.prog W = .ok (.slice A k c) W := by
  subst hi
  intro W
  go_simp

theorem take_of_app {L E D : List Int} {s : Nat} (h : L = E ++ D) (hs : s = E.length) : E = L.take s := by subst h hs; simp

theorem fold_half {n h : Int} (e : h = n.tdiv 2) : fold h ≤ fold n := by
  subst e
  unfold fold
  by_cases h : n < 0
  · obtain ⟨k, rfl⟩ : ∃ k, n = -k := ⟨-n, by omega⟩
    rw [Int.neg_tdiv, Int.tdiv_eq_ediv_of_nonneg (by omega), if_pos h]
    split <;> omega
  · rw [Int.tdiv_eq_ediv_of_nonneg (by omega), if_neg (by omega), if_neg (by omega)]
    omega

theorem half_in {n : Int} (n0 : -9223372036854775808 ≤ n) (n1 : n ≤ 9223372036854775807) : -9223372036854775808 ≤ n.tdiv 2 ∧ n.tdiv 2 ≤ 9223372036854775807 := by
  by_cases h : n < 0
  · obtain ⟨k, rfl⟩ : ∃ k, n = -k := ⟨-n, by omega⟩
    rw [Int.neg_tdiv, Int.tdiv_eq_ediv_of_nonneg (by omega)]
    omega
  · rw [Int.tdiv_eq_ediv_of_nonneg (by omega)]
    omega

end Go.Proofs.Ytfmmfaeognoleaa.P
/-
  The walk of glazierlaw03.WireBack, at this seat's translation.
-/
namespace Go.Proofs.Ytfmmfaeognoleaa.P
open Go.RowKit

def BackAt (w : World) (L : List Int) (rest i : Value) (wr : World) : Prop :=
  ∃ (k : Nat) (A : Option Addr) (c : Nat), k ≤ L.length ∧ i = .int .i64 k ∧ rest = .slice A (put (L.drop k)).length c ∧ (put (L.drop k)).length ≤ c ∧ Sl .u8 wr wr.heap.size A (put (L.drop k)) ∧ Below w.heap.size w wr

theorem slice_to22 (A : Option Addr) (n c k : Nat) (i : Int) (hk : k ≤ c) (hi : i = (k : Int)) :
    ∀ W, (Instr.slice 22 (.slice A n c) none (some (.int .i64 i)) none).run Try.prog W = .ok (.slice A k c) W := by
  subst hi
  intro W
  go_simp

end Go.Proofs.Ytfmmfaeognoleaa.P
/-
  A region that draws its order: its quiet rest, walked in the text's order, in a class of worlds that is narrower than what was held so far.
-/
namespace Go.Proofs.Ytfmmfaeognoleaa.P
open Go.RowKit

theorem held_narrow {P : Program} {ops : Array Oper} {md : Region.Mode} {C S : World → Prop} {Q : Exit → Act → World → Prop} (hCS : ∀ w, C w → S w) :
    ∀ (fuel : Nat) (listed : Array Bool) (a : Act) (w : World), wpAnyH P md ops Q C fuel listed a w → wpAnyH P md ops Q S fuel listed a w
  | 0, _, _, _, h => h
  | fuel + 1, _, _, _, h => ⟨h.1, fun i hi => wpOp_mono (fun a' w' h' => ⟨hCS _ h'.1, held_narrow hCS fuel _ a' w' h'.2⟩) (h.2 i hi)⟩
theorem held_rest {P : Program} {ops : Array Oper} {md : Region.Mode} {C : World → Prop} {Q : Act → Prop} {Q' : Exit → Act → World → Prop} (hQ : ∀ a w, C w → Q a → Q' .normal a w) :
    ∀ (fuel : Nat) (listed : Array Bool) (a : Act) (w : World), C w → wpAnyQ P md ops C Q fuel listed a → wpAnyH P md ops Q' C fuel listed a w
  | 0, _, _, _, hw, h => ⟨h.1, hQ _ _ hw h.2⟩
  | fuel + 1, _, _, _, hw, h => ⟨fun h0 => hQ _ _ hw (h.1 h0), fun i hi => wpOp_of_qOp hw (fun a' w' hw' h' => ⟨hw', held_rest hQ fuel _ a' w' hw' h'⟩) (h.2 i hi)⟩
theorem held_from {P : Program} {l : List Oper} {S : World → Prop} {Q' : Exit → Act → World → Prop} {a : Act} {w : World} {listed : Array Bool} {fuel : Nat} (k : Nat) (hs : Region.noSelect l.toArray = true)
    (hB : Region.lexFrom .any l.toArray fuel k listed = true) (hl : (l.drop k).length = fuel) (hS : ∀ w', (∃ n, w' = w.drewN n) → S w')
    (h : wpQuiet P l.toArray (fun w' => ∃ n, w' = w.drewN n) (fun a => ∀ w', (∃ n, w' = w.drewN n) → Q' .normal a w') (l.drop k) a) : wpAnyH P .any l.toArray Q' S fuel listed a w := by
  subst hl
  exact held_narrow hS _ _ _ _ (held_rest (Q := fun a => ∀ w', (∃ n, w' = w.drewN n) → Q' .normal a w') (fun a w hw h => h w hw) _ _ _ _ ⟨0, rfl⟩ (wpAnyQ_lex hs (l.drop k) k listed a (fun j => by simp) hB h))
end Go.Proofs.Ytfmmfaeognoleaa.P
/-
  The walk of glazierlaw03.WireJoins, at this seat's translation.
-/
namespace Go.Proofs.Ytfmmfaeognoleaa.P
open Go.RowKit

/-- append onto a row of the call's own, whatever the source: nil, empty or not. -/
theorem wpList_append_sl {P : Program} (w : World) {ops : Array Oper} {rest : List Oper} {o : Oper} {a : Act} {Q : Exit → Act → World → Prop} (hgd : o.guard = none) (s x : Operand) (t : TypeId)
    (ho : o.op = .call { callee := .builtin .append, args := #[s, x], argTypes := #[t, t] })
    (base : Nat) (e : TypeId) (i : TypeInfo) (z : Value) (bytes : Nat) (ht : P.underlying t = some (.slice e)) (hi : P.info? e = some i) (hz : i.zero = some z) (hsize : i.size = 1) (hby : i.bytes = bytes) (hzs : z.cells.size = 1)
    (k : IntKind) (v : Value) (xs : List Int) (hs : a.eval s = v) (hown : OwnS e k w base v xs)
    (A : Option Addr) (c B : Nat) (ys : List Int) (hx : a.eval x = .slice A ys.length c) (hsl : Sl k w B A ys) (hnil : A = none → c = 0)
    (h63 : xs.length + ys.length ≤ 20000000000) (hbytes : bytes ≤ 8) (hbase : base ≤ w.heap.size)
    (h : ∀ v' w', OwnS e k w' base v' (xs ++ ys) → Below base w w' → wpList P ops Q rest (a.put o.dst v') w') : wpList P ops Q (o :: rest) a w := by
  have hb2 : (xs.length + ys.length) * bytes ≤ 140737488355328 := Nat.le_trans (Nat.mul_le_mul h63 hbytes) (by decide)
  cases A with
  | some ad =>
    refine wpList_append_own w hgd s x t ho base e i z 1 bytes ht hi hz hsize hby hzs (by decide) v _ _ hs hown.row ad ys.length c (ys.map (Value.int k)) hx (by simp) ?_ (ints_oneCell _ _) (by unfold maxLen; omega) hb2 hbase ?_
    · intro j u hu
      by_cases hne : ys = []
      · subst hne; simp at hu
      · obtain ⟨b, off, hA, _, hc⟩ := hsl hne
        cases hA
        exact news_of hc j u hu
    · intro v' w' h2 h3 _
      exact h v' w' (by unfold OwnS; simpa using h2) ((Below.refl base w).grown h3 hbase fun j ej => own_ge hown.row j ej)
  | none =>
    have hy : ys = [] := by
      by_cases hne : ys = []
      · exact hne
      · obtain ⟨b, off, hA, _⟩ := hsl hne
        cases hA
    subst hy
    obtain rfl := hnil rfl
    refine wpList_plain hgd fun K hK' => ?_
    have hrun := run_append_owned_none (P := P) w base t o.type e i 1 ht hi v xs.length _ hown.row
    unfold Oper.wp
    simp [execOp, ho, resolve, invoke, builtin, hs, hx, hrun, Result.andThen]
    exact hK' _ _ (h v w (by simpa using hown) (Below.refl _ _))

theorem OwnS.sl2 {t : TypeId} {k : IntKind} {w : World} {base : Nat} {v : Value} {xs : List Int} (h : OwnS t k w base v xs) :
    ∃ A c, v = .slice A xs.length c ∧ xs.length ≤ c ∧ c ≤ 9223372036854775807 ∧ Sl k w w.heap.size A xs ∧ (A = none → c = 0) := by
  obtain ⟨A, c, hv, h1, h2, h3⟩ := h.sl
  refine ⟨A, c, hv, h1, h2, h3, fun hA => ?_⟩
  subst hA
  rcases h.2 with ⟨rfl, _⟩ | ⟨g, cap, cur, rfl, _⟩
  · injection hv with _ _ e; exact e.symm
  · injection hv with e; cases e

end Go.Proofs.Ytfmmfaeognoleaa.P
/-
  The reference's one and Put, at this seat's translation.
-/
namespace Go.Proofs.Ytfmmfaeognoleaa.P
open Go.RowKit

set_option maxRecDepth 100000 in
set_option maxHeartbeats 2000000 in
theorem rone_any (n : Int) (w : World) (h0 : -9223372036854775808 ≤ n) (h1 : n ≤ 9223372036854775807) :
    Calls Try.prog 15 #[.int .i64 n] w (Made 5 .u8 w.heap.size w (enc (fold n))) := by
  obtain ⟨i0, hi, hz0, hz1, hz2⟩ := info_parts Try.info5
  have HI := Lib.hid hi
  have HZ := Lib.hid (And.intro hz0 (And.intro hz1 hz2))
  clear hi hz0 hz1 hz2
  have hf := fold_lt ⟨h0, h1⟩
  have hel := enc_len10 hf
  have hfo : ((fold n : Nat) : Int) = if n < 0 then -(n + 1) * 2 + 1 else n * 2 := by unfold fold; split <;> omega
  have HFO := Lib.hid hfo
  have HE := Lib.hid (own_empty 5 w)
  clear hfo
  by_cases hn : n < 0
  all_goals
    go_enter Try.func15, Try.ntmps15
    go_wp2_with fail
    go_loopw [4, 3] (fun b u wr => PutAt w.heap.size w [] n b u wr) (fun _ u _ => (intOf u).toNat)
    case atStart =>
      refine ⟨fold n, [], ?_, hf, HE.out, rfl, (Below.refl _ w).alloc (Nat.le_refl _) _⟩
      rw [HFO.out]
      first | (rw [if_pos hn]) | (rw [if_neg (by omega)])
    case round =>
      obtain ⟨k, cs, rfl, hk, ho, hcs, hb⟩ := hrel
      have hlen : cs.length + (enc k).length = (enc (fold n)).length := by simpa using congrArg List.length hcs
      have hsz := hb.size
      have HB := Lib.hid hb
      have HW := Lib.hid ho
      have HC := Lib.hid hcs
      have hep := enc_pos k
      have hcl : cs.length ≤ 10 := by omega
      clear hb ho hcs hlen hep
      by_cases hge : 128 ≤ k
      · go_wp2_with (at_builtin; refine wpList_append_own _ rfl _ _ 24 rfl w.heap.size 5 i0 (.int .u8 0) 1 1 Try.underlying24 HI.out HZ.out.1 HZ.out.2.1 HZ.out.2.2 rfl (by decide) _ _ _ rfl (HW.out.row.alloc _) _ 1 1 [_] rfl rfl (cell_one_new _ _ _) (by simp [Value.oneCell']) (by unfold maxLen; omega) (by omega) (by simp; omega) ?_; intro v' w1 hown' hgrow _)
        obtain ⟨ho', hb'⟩ := append_of HW.out (by omega) hown' hgrow
        refine ⟨⟨k / 128, cs ++ [((k % 128 + 128 : Nat) : Int)], by simp, by omega, by simpa using ho', ?_, HB.out.trans hb'⟩, by simp [intOf]; omega⟩
        rw [← HC.out, enc_ge (u := k) (by omega)]; simp
      · go_wp2_with (at_builtin; refine wpList_append_own _ rfl _ _ 24 rfl w.heap.size 5 i0 (.int .u8 0) 1 1 Try.underlying24 HI.out HZ.out.1 HZ.out.2.1 HZ.out.2.2 rfl (by decide) _ _ _ rfl (HW.out.row.alloc _) _ 1 1 [_] rfl rfl (cell_one_new _ _ _) (by simp [Value.oneCell']) (by unfold maxLen; omega) (by omega) (by simp; omega) ?_; intro v' w1 hown' hgrow _)
        go_ret
        obtain ⟨ho', hb'⟩ := append_of HW.out (by omega) hown' hgrow
        refine ⟨v', rfl, ?_, HB.out.trans hb'⟩
        have e := HC.out
        rw [List.nil_append, enc_lt (u := k) (by omega)] at e
        rw [← e]; exact ho'

set_option maxRecDepth 100000 in
set_option maxHeartbeats 2000000 in
theorem rput_any (A : Option Addr) (c : Nat) (l : List Int) (B : Nat) (w : World) (hs : Sl .i64 w B A l) (hB : B ≤ w.heap.size) (hi : Ins l) (hl : l.length ≤ 100000000) :
    Calls Try.prog 7 #[.slice A l.length c] w (Made 5 .u8 w.heap.size w (put l)) := by
  obtain ⟨i0, hi0, hz0, hz1, hz2⟩ := info_parts Try.info5
  have HZ := Lib.hid (And.intro hi0 (And.intro hz0 (And.intro hz1 hz2)))
  clear hi0 hz0 hz1 hz2
  have HS := Lib.hid hs
  have HI := Lib.hid hi
  have HE := Lib.hid (own_empty 5 w)
  clear hs hi
  go_enter Try.func7, Try.ntmps7
  go_wp2_with fail
  go_loopw [3, 4] (fun b i wr => AllAt w.heap.size w l b i wr) (fun _ i _ => l.length - (intOf i).toNat)
  case atStart => exact ⟨0, by omega, rfl, HE.out, (Below.refl _ w).alloc (Nat.le_refl _) _⟩
  case round =>
    obtain ⟨k, hk, rfl, ho, hb⟩ := hrel
    have hpl := put_len (HI.out.take k)
    have hlt' : (l.take k).length ≤ 100000000 := by simp; omega
    have hpl2 : (put (l.take k)).length ≤ 1000000000 := by omega
    have hsz := hb.size
    have HO := Lib.hid ho
    have HB := Lib.hid hb
    clear ho hb hpl hlt'
    by_cases hlt : k < l.length
    · obtain ⟨b, off, rfl, hbB, hcell⟩ := HS.out.at hlt
      have hn := HI.out.get k
      generalize hp : l.getD k 0 = n at hcell hn
      obtain ⟨hn0, hn1⟩ := hn
      have hel := enc_len10 (fold_lt ⟨hn0, hn1⟩)
      have HP := Lib.hid hp
      clear hp
      have hcell' : wr.cell? ⟨b, off + k, none⟩ = some (.int .i64 n) := (HB.out.cell (p := ⟨b, off + k, none⟩) (by show b < _; omega)).trans hcell
      clear hcell
      go_wp2_with fail
      refine (rone_any n wr hn0 hn1).mono ?_
      rintro e w1 ⟨v1, rfl, ho1, hb1⟩
      obtain ⟨A1, c1, rfl, -, -, hs1, hn1'⟩ := ho1.sl2
      have HO1 := Lib.hid (HO.out.keep hb1)
      have HS1 := Lib.hid (And.intro hs1 hn1')
      have HB1 := Lib.hid (HB.out.trans (hb1.mono hsz))
      clear ho1 hs1 hn1' hb1 HO
      go_wp2_with (at_builtin; refine wpList_append_sl _ rfl _ _ 24 rfl w.heap.size 5 i0 (.int .u8 0) 1 Try.underlying24 HZ.out.1 HZ.out.2.1 HZ.out.2.2.1 HZ.out.2.2.2 rfl .u8 _ (put (l.take k)) rfl HO1.out A1 c1 w1.heap.size (enc (fold n)) rfl HS1.out.1 HS1.out.2 (by omega) (by decide) HB1.out.size ?_; intro v2 w2 ho2 hb2)
      go_roundw
      case rel => exact ⟨k + 1, by omega, by go_num, by rw [take_at hlt HP.out, put_snoc]; exact ho2, HB1.out.trans hb2⟩
      case measure => simp [intOf]; omega
    · go_wp2
      go_ret
      have e : l.take k = l := List.take_of_length_le (by omega)
      exact ⟨_, rfl, by have := HO.out; rwa [e] at this, HB.out⟩
end Go.Proofs.Ytfmmfaeognoleaa.P
/-
  The reference's Take, at this seat's translation.
-/
namespace Go.Proofs.Ytfmmfaeognoleaa.P
open Go.RowKit

def RAt (xs : List Int) (x s i : Value) : Prop :=
  ∃ k v sc : Nat, k ≤ 10 ∧ k ≤ xs.length ∧ v < 18446744073709551616 ∧ sc < 18446744073709551616 ∧ i = .int .i64 k ∧ x = .int .u64 v ∧ s = .int .u64 sc ∧ sc = 128 ^ k % 18446744073709551616 ∧ At xs k v

theorem rstep {v sc k : Nat} {p : Int} (hk : k < 10) (hs : sc = 128 ^ k % 18446744073709551616) :
    ∃ t z sc' : Nat, IntKind.u64.wrap (p % 128 * (sc : Int)) = (t : Int) ∧ IntKind.u64.wrap ((v : Int) + (t : Int)) = (z : Int) ∧ IntKind.u64.wrap ((sc : Int) * 128) = (sc' : Int) ∧ t < 18446744073709551616 ∧ z < 18446744073709551616 ∧ sc' < 18446744073709551616 ∧
      sc' = 128 ^ (k + 1) % 18446744073709551616 ∧ (v < 128 ^ k → (p % 128).toNat * 128 ^ k < 18446744073709551616 → z = v + (p % 128).toNat * 128 ^ k) := by
  have hq : ((p % 128).toNat : Int) = p % 128 := by omega
  have hq2 : (p % 128).toNat < 128 := by omega
  generalize (p % 128).toNat = q at *
  have hsc : sc = 128 ^ k := by
    rw [hs]
    rcases ten_cases hk with rfl | rfl | rfl | rfl | rfl | rfl | rfl | rfl | rfl | rfl <;> rfl
  refine ⟨q * sc % 18446744073709551616, (v + q * sc % 18446744073709551616) % 18446744073709551616, sc * 128 % 18446744073709551616, ?_, ?_, ?_, Nat.mod_lt _ (by decide), Nat.mod_lt _ (by decide), Nat.mod_lt _ (by decide), by rw [hsc, pow_parts], ?_⟩
  · rw [IntKind.wrap_u64, ← hq, Int.natCast_emod, Int.natCast_mul]; rfl
  · generalize q * sc % 18446744073709551616 = t
    rw [IntKind.wrap_u64]; omega
  · rw [IntKind.wrap_u64, Int.natCast_emod, Int.natCast_mul]; rfl
  · intro hv hqk
    rw [hsc, Nat.mod_eq_of_lt hqk, Nat.mod_eq_of_lt]
    by_cases h9 : k = 9
    · subst h9
      have := last_small hqk
      simp only [Nat.reducePow] at hv ⊢
      omega
    · have h1 := small_sum hv hq2
      have h2 : 128 ^ (k + 1) ≤ 18446744073709551616 := by
        rcases ten_cases hk with rfl | rfl | rfl | rfl | rfl | rfl | rfl | rfl | rfl | rfl <;> first | decide | omega
      omega

theorem unf_odd {z : Nat} (h : z % 2 = 1) : -((z : Int) / 2) - 1 = unf z := by unfold unf; rw [if_pos h]; omega
theorem unf_even {z : Nat} (h : ¬ z % 2 = 1) : (z : Int) / 2 = unf z := by unfold unf; rw [if_neg h]; omega

/-- Bytes that are no number are put otherwise. -/
theorem bad_differs {xs : List Int} {z k : Nat} (hz : z < 18446744073709551616) (h : (first xs).2 = 0) : enc z ≠ xs.take (k + 1) := by
  intro e
  have h1 := first_put (unf_in hz) (xs.drop (k + 1))
  rw [fold_unf, e, List.take_append_drop] at h1
  rw [h1] at h
  have := enc_pos z
  rw [e] at this
  simp only at h
  omega
theorem bytes_same {a b : ByteArray} (h : a.toList = b.toList) : a = b := by
  rw [ByteArray.toList_eq, ByteArray.toList_eq] at h
  obtain ⟨⟨x⟩⟩ := a
  obtain ⟨⟨y⟩⟩ := b
  simp at h
  rw [h]
theorem str_inj {a b : List Int} (ha : Byt a) (hb : Byt b) (h : strOfNums a = strOfNums b) : a = b := by
  have e : (a.map fun n => UInt8.ofNat n.toNat) = b.map fun n => UInt8.ofNat n.toNat := by
    rw [← strOfNums_data, ← strOfNums_data, h]
  clear h
  induction a generalizing b with
  | nil => cases b with
    | nil => rfl
    | cons y t => simp at e
  | cons x s ih =>
    cases b with
    | nil => simp at e
    | cons y t =>
      simp only [List.map_cons, List.cons.injEq] at e
      have hx := ha x (by simp)
      have hy := hb y (by simp)
      have h1 := congrArg UInt8.toNat e.1
      rw [UInt8.toNat_ofNat', UInt8.toNat_ofNat'] at h1
      have : x = y := by omega
      rw [this, ih (fun z hz => ha z (List.mem_cons_of_mem _ hz)) (fun z hz => hb z (List.mem_cons_of_mem _ hz)) e.2]

set_option maxRecDepth 100000 in
set_option maxHeartbeats 4000000 in
theorem rtake_no (A : Option Addr) (c : Nat) (xs : List Int) (w : World) (hs : Sl .u8 w w.heap.size A xs) (hb : Byt xs) (hc : xs.length ≤ c) (hm : xs.length ≤ 10000000000) (h : (first xs).2 = 0) :
    Calls Try.prog 28 #[.slice A xs.length c] w fun e w' => e = .returned (.tuple #[.int .i64 0, .slice none 0 0, .bool false]) ∧ Below w.heap.size w w' := by
  have HS := Lib.hid hs
  have HB := Lib.hid hb
  have HF := Lib.hid h
  clear hs hb h
  go_enter Try.func28, Try.ntmps28
  go_wp2
  go_loop [5, 6, 7] (fun x s i => RAt xs x s i) (fun _ _ i => 10 - (intOf i).toNat)
  case atStart => exact ⟨0, 0, 1, by omega, by omega, by decide, by decide, rfl, rfl, rfl, by decide, At.start xs⟩
  case round =>
    obtain ⟨k, v, sc, hk, hkl, hv, hsc, rfl, rfl, rfl, hse, hAt⟩ := hrel
    have HA := Lib.hid hAt
    have HE := Lib.hid hse
    clear hAt hse
    by_cases hlt : k < 10 ∧ k < xs.length
    · obtain ⟨hlt, hlx⟩ := hlt
      obtain ⟨b, off, rfl, hbB, hcell⟩ := HS.out.at (j := k) (by omega)
      have hpb := HB.out.get k
      generalize hp : xs.getD k 0 = p at hcell hpb
      obtain ⟨hp0, hp1⟩ := hpb
      have HP := Lib.hid hp
      clear hp
      obtain ⟨t, z, sc', e1, e2, e3, ht, hz, hsc', hse', hzz⟩ := rstep (v := v) (p := p) hlt HE.out
      have HZ := Lib.hid (And.intro hse' hzz)
      clear hse' hzz
      by_cases hp128 : 128 ≤ p
      · go_wp2
        exact ⟨⟨k + 1, z, sc', by omega, by omega, hz, hsc', by go_num, rfl, rfl, HZ.out.1, HA.out.more hlt hlx HP.out hp1 hp128 HZ.out.2⟩, by simp [intOf]; omega⟩
      · have HSW := Lib.hid (show Sl .u8 w.drew w.heap.size (some ⟨b, off, none⟩) xs from HS.out)
        have hON := rone_any (unf z) w.drew (unf_in hz).1 (unf_in hz).2
        have HON := Lib.hid hON
        clear hON
        have htk : (xs.take (k + 1)).length = k + 1 := by simp; omega
        have hne : strOfNums (enc (fold (unf z))) ≠ strOfNums (xs.take (k + 1)) := by
          rw [fold_unf]
          intro e
          exact bad_differs hz HF.out (str_inj (enc_byt _) (HB.out.take _) e)
        have HC2 := Lib.hid (show ∀ (W : World), Sl .u8 W w.heap.size (some ⟨b, off, none⟩) xs → (convert 24 9 (.slice (some ⟨b, off, none⟩) (k + 1) c)).run Try.prog W = .ok (.string (strOfNums (xs.take (k + 1)))) W from fun W hW => by
          have h := Sl.conv (hW.take (k + 1)) c
          rwa [htk] at h)
        obtain ⟨S1, hS1⟩ : ∃ S1, strOfNums (enc (fold (unf z))) = S1 := ⟨_, rfl⟩
        have HS1E := Lib.hid hS1
        rw [hS1] at hne
        clear hS1 htk
        generalize strOfNums (xs.take (k + 1)) = S2 at *
        have hcv := HC2.out w.drew HSW.out
        have hcut := slice_to (some ⟨b, off, none⟩) xs.length c (k + 1) ((k : Int) + 1) (by omega) (by simp)
        have hb0 : ¬ S1.toList = S2.toList := fun h => hne (bytes_same h)
        have hb1 : (S1.toList != S2.toList) = true := by simpa using hb0
        have hb2 : (S1.toList == S2.toList) = false := by simpa using hb0
        clear hne
        have g5 : IntKind.i64.wrap ((k : Int) + 1) = (k : Int) + 1 := by rw [IntKind.wrap_i64]; omega
        by_cases hz2 : z % 2 = 1
        · have hu := unf_odd hz2
          go_wp2_with fail
          clear hu
          refine wp_region_held_drew (S := fun w' => (convert 24 9 (.slice (some ⟨b, off, none⟩) (k + 1) c)).run Try.prog w' = .ok (.string S2) w') (by kernel_rfl) hcv (fun hS => ?_)
          change wpAnyH _ _ _ _ _ 9 #[false, false, false, false, false, false, false, false, false] _ _
          refine wpAnyH_take (i := 0) (v := (.int .i64 (unf z))) rfl (by kernel_rfl) (by kernel_rfl) (by kernel_rfl) (fun _ _ _ h => h) (Or.inl ⟨by rfl, fun w hw => by dsimp only at hw; go_simp⟩) hS ?_
          simp only [Act.put, List.setIfInBounds_toArray, List.set_cons_zero, List.set_cons_succ, List.getElem_toArray, List.getElem_cons_zero]
          refine wpAnyH_take (i := 3) (v := (.slice (some ⟨b, off, none⟩) xs.length c)) rfl (by kernel_rfl) (by kernel_rfl) (by kernel_rfl) (fun _ _ _ h => h) (Or.inl ⟨by rfl, fun w hw => by dsimp only at hw; go_simp⟩) hS ?_
          simp only [Act.put, List.setIfInBounds_toArray, List.set_cons_zero, List.set_cons_succ, List.getElem_toArray, List.getElem_cons_zero, List.getElem_cons_succ]
          refine wpAnyH_take (i := 4) (v := (.int .i64 k)) rfl (by kernel_rfl) (by kernel_rfl) (by kernel_rfl) (fun _ _ _ h => h) (Or.inl ⟨by rfl, fun w hw => by dsimp only at hw; go_simp⟩) hS ?_
          simp only [Act.put, List.setIfInBounds_toArray, List.set_cons_zero, List.set_cons_succ, List.getElem_toArray, List.getElem_cons_zero, List.getElem_cons_succ]
          refine wpAnyH_take (i := 5) (v := (.int .i64 (k + 1))) rfl (by kernel_rfl) (by kernel_rfl) (by kernel_rfl) (fun _ _ _ h => h) (Or.inl ⟨by rfl, fun w hw => by dsimp only at hw; go_simp⟩) hS ?_
          simp only [Act.put, List.setIfInBounds_toArray, List.set_cons_zero, List.set_cons_succ, List.getElem_toArray, List.getElem_cons_zero, List.getElem_cons_succ]
          refine wpAnyH_take (i := 6) (v := (.slice (some ⟨b, off, none⟩) (k + 1) c)) rfl (by kernel_rfl) (by kernel_rfl) (by kernel_rfl) (fun _ _ _ h => h) (Or.inl ⟨by rfl, fun w hw => by dsimp only at hw; go_simp⟩) hS ?_
          simp only [Act.put, List.setIfInBounds_toArray, List.set_cons_zero, List.set_cons_succ, List.getElem_toArray, List.getElem_cons_zero, List.getElem_cons_succ]
          refine wpAnyH_take (i := 7) (v := (.string S2)) rfl (by kernel_rfl) (by kernel_rfl) (by kernel_rfl) (fun _ _ _ h => h) (Or.inl ⟨by rfl, fun w hw => by dsimp only at hw; go_simp⟩) hS ?_
          simp only [Act.put, List.setIfInBounds_toArray, List.set_cons_zero, List.set_cons_succ, List.getElem_toArray, List.getElem_cons_zero, List.getElem_cons_succ]
          refine wpAnyH_ready (rs := [1]) (by kernel_rfl) (by simp) ?_
          refine AllReadyH.cons rfl (fun K hK => ?_) AllReadyH.nil
          go_simp
          refine HON.out.mono ?_
          rintro e w1 ⟨v1, rfl, ho1, hb1⟩
          obtain ⟨A1, c1, rfl, -, -, hs1⟩ := ho1.sl
          have hX1 := HSW.out.below hb1
          have hcv1 : ∀ j, (convert 24 9 (.slice A1 (enc (fold (unf z))).length c1)).run Try.prog (w1.drewN j) = .ok (.string S1) (w1.drewN j) := fun j => by
            have h := Sl.conv (hs1.drewN j) c1
            rwa [HS1E.out] at h
          refine hK.out _ _ (HC2.out w1 hX1) (fun hS => ?_)
          clear hK K hS hcv
          refine held_narrow (C := fun w' => ∃ j, w' = w1.drewN j) (by rintro _ ⟨j, rfl⟩; exact HC2.out _ (hX1.drewN j)) _ _ _ _ ?_
          have hS : ∃ j, w1 = w1.drewN j := ⟨0, rfl⟩
          simp only [List.setIfInBounds_toArray, List.set_cons_zero, List.set_cons_succ]
          refine wpAnyH_take (i := 2) (v := (.string S1)) rfl (by kernel_rfl) (by kernel_rfl) (by kernel_rfl) (fun _ _ _ h => h) (Or.inl ⟨by rfl, fun w hw => by obtain ⟨j, rfl⟩ := hw; go_simp⟩) hS ?_
          simp only [Act.put, List.setIfInBounds_toArray, List.set_cons_zero, List.set_cons_succ, List.getElem_toArray, List.getElem_cons_zero, List.getElem_cons_succ]
          refine wpAnyH_take (i := 8) (v := (.bool true)) rfl (by kernel_rfl) (by kernel_rfl) (by kernel_rfl) (fun _ _ _ h => h) (Or.inl ⟨by rfl, fun w hw => by obtain ⟨j, rfl⟩ := hw; go_simp⟩) hS ?_
          simp only [Act.put, List.setIfInBounds_toArray, List.set_cons_zero, List.set_cons_succ, List.getElem_toArray, List.getElem_cons_zero, List.getElem_cons_succ]
          refine wpAnyH_done (by kernel_rfl) ?_ _
          have HB1 := Lib.hid hb1
          clear hS hcv1 hX1 hs1 ho1 hb1
          go_wp2
          go_ret3
          exact ⟨rfl, (Below.refl _ w).drew.trans HB1.out⟩
        · have hu := unf_even hz2
          go_wp2_with fail
          clear hu
          refine wp_region_held_drew (S := fun w' => (convert 24 9 (.slice (some ⟨b, off, none⟩) (k + 1) c)).run Try.prog w' = .ok (.string S2) w') (by kernel_rfl) hcv (fun hS => ?_)
          change wpAnyH _ _ _ _ _ 9 #[false, false, false, false, false, false, false, false, false] _ _
          refine wpAnyH_take (i := 0) (v := (.int .i64 (unf z))) rfl (by kernel_rfl) (by kernel_rfl) (by kernel_rfl) (fun _ _ _ h => h) (Or.inl ⟨by rfl, fun w hw => by dsimp only at hw; go_simp⟩) hS ?_
          simp only [Act.put, List.setIfInBounds_toArray, List.set_cons_zero, List.set_cons_succ, List.getElem_toArray, List.getElem_cons_zero]
          refine wpAnyH_take (i := 3) (v := (.slice (some ⟨b, off, none⟩) xs.length c)) rfl (by kernel_rfl) (by kernel_rfl) (by kernel_rfl) (fun _ _ _ h => h) (Or.inl ⟨by rfl, fun w hw => by dsimp only at hw; go_simp⟩) hS ?_
          simp only [Act.put, List.setIfInBounds_toArray, List.set_cons_zero, List.set_cons_succ, List.getElem_toArray, List.getElem_cons_zero, List.getElem_cons_succ]
          refine wpAnyH_take (i := 4) (v := (.int .i64 k)) rfl (by kernel_rfl) (by kernel_rfl) (by kernel_rfl) (fun _ _ _ h => h) (Or.inl ⟨by rfl, fun w hw => by dsimp only at hw; go_simp⟩) hS ?_
          simp only [Act.put, List.setIfInBounds_toArray, List.set_cons_zero, List.set_cons_succ, List.getElem_toArray, List.getElem_cons_zero, List.getElem_cons_succ]
          refine wpAnyH_take (i := 5) (v := (.int .i64 (k + 1))) rfl (by kernel_rfl) (by kernel_rfl) (by kernel_rfl) (fun _ _ _ h => h) (Or.inl ⟨by rfl, fun w hw => by dsimp only at hw; go_simp⟩) hS ?_
          simp only [Act.put, List.setIfInBounds_toArray, List.set_cons_zero, List.set_cons_succ, List.getElem_toArray, List.getElem_cons_zero, List.getElem_cons_succ]
          refine wpAnyH_take (i := 6) (v := (.slice (some ⟨b, off, none⟩) (k + 1) c)) rfl (by kernel_rfl) (by kernel_rfl) (by kernel_rfl) (fun _ _ _ h => h) (Or.inl ⟨by rfl, fun w hw => by dsimp only at hw; go_simp⟩) hS ?_
          simp only [Act.put, List.setIfInBounds_toArray, List.set_cons_zero, List.set_cons_succ, List.getElem_toArray, List.getElem_cons_zero, List.getElem_cons_succ]
          refine wpAnyH_take (i := 7) (v := (.string S2)) rfl (by kernel_rfl) (by kernel_rfl) (by kernel_rfl) (fun _ _ _ h => h) (Or.inl ⟨by rfl, fun w hw => by dsimp only at hw; go_simp⟩) hS ?_
          simp only [Act.put, List.setIfInBounds_toArray, List.set_cons_zero, List.set_cons_succ, List.getElem_toArray, List.getElem_cons_zero, List.getElem_cons_succ]
          refine wpAnyH_ready (rs := [1]) (by kernel_rfl) (by simp) ?_
          refine AllReadyH.cons rfl (fun K hK => ?_) AllReadyH.nil
          go_simp
          refine HON.out.mono ?_
          rintro e w1 ⟨v1, rfl, ho1, hb1⟩
          obtain ⟨A1, c1, rfl, -, -, hs1⟩ := ho1.sl
          have hX1 := HSW.out.below hb1
          have hcv1 : ∀ j, (convert 24 9 (.slice A1 (enc (fold (unf z))).length c1)).run Try.prog (w1.drewN j) = .ok (.string S1) (w1.drewN j) := fun j => by
            have h := Sl.conv (hs1.drewN j) c1
            rwa [HS1E.out] at h
          refine hK.out _ _ (HC2.out w1 hX1) (fun hS => ?_)
          clear hK K hS hcv
          refine held_narrow (C := fun w' => ∃ j, w' = w1.drewN j) (by rintro _ ⟨j, rfl⟩; exact HC2.out _ (hX1.drewN j)) _ _ _ _ ?_
          have hS : ∃ j, w1 = w1.drewN j := ⟨0, rfl⟩
          simp only [List.setIfInBounds_toArray, List.set_cons_zero, List.set_cons_succ]
          refine wpAnyH_take (i := 2) (v := (.string S1)) rfl (by kernel_rfl) (by kernel_rfl) (by kernel_rfl) (fun _ _ _ h => h) (Or.inl ⟨by rfl, fun w hw => by obtain ⟨j, rfl⟩ := hw; go_simp⟩) hS ?_
          simp only [Act.put, List.setIfInBounds_toArray, List.set_cons_zero, List.set_cons_succ, List.getElem_toArray, List.getElem_cons_zero, List.getElem_cons_succ]
          refine wpAnyH_take (i := 8) (v := (.bool true)) rfl (by kernel_rfl) (by kernel_rfl) (by kernel_rfl) (fun _ _ _ h => h) (Or.inl ⟨by rfl, fun w hw => by obtain ⟨j, rfl⟩ := hw; go_simp⟩) hS ?_
          simp only [Act.put, List.setIfInBounds_toArray, List.set_cons_zero, List.set_cons_succ, List.getElem_toArray, List.getElem_cons_zero, List.getElem_cons_succ]
          refine wpAnyH_done (by kernel_rfl) ?_ _
          have HB1 := Lib.hid hb1
          clear hS hcv1 hX1 hs1 ho1 hb1
          go_wp2
          go_ret3
          exact ⟨rfl, (Below.refl _ w).drew.trans HB1.out⟩
    · go_wp2
      all_goals
        go_ret3
        exact ⟨rfl, Below.refl _ _⟩

theorem slice_from2 (b off n c k m : Nat) (i : Int) (hk : n = k + m) (hn : n ≤ c) (hi : i = (k : Int)) :
    ∃ A', (∀ W, (Instr.slice 24 (.slice (some ⟨b, off, none⟩) n c) (some (.int .i64 i)) none none).run Try.prog W = .ok (.slice A' m (c - k)) W) ∧ (∀ q w B xs, xs.length = n → Sl q w B (some ⟨b, off, none⟩) xs → Sl q w B A' (xs.drop k)) ∧ A' ≠ none := by
  subst hi
  refine ⟨if c = k then some ⟨b, off, none⟩ else (some ⟨b, off, none⟩ : Option Addr).map fun x => x.add k, fun W => ?_, fun q w B xs hx h => h.cut (by omega), by split <;> simp⟩
  have hkn : k ≤ n := by omega
  obtain rfl : m = n - k := by omega
  clear hk
  go_simp

set_option maxRecDepth 100000 in
set_option maxHeartbeats 4000000 in
theorem rtake_yes (A : Option Addr) (c : Nat) (xs : List Int) (w : World) (hs : Sl .u8 w w.heap.size A xs) (hb : Byt xs) (hc : xs.length ≤ c) (hm : xs.length ≤ 10000000000) (n : Int) (s : Nat) (h : first xs = (n, s)) (h0 : s ≠ 0) :
    Calls Try.prog 28 #[.slice A xs.length c] w (TookS w n (xs.drop s)) := by
  have HS := Lib.hid hs
  have HB := Lib.hid hb
  have HF := Lib.hid (And.intro h h0)
  clear hs hb h h0
  obtain ⟨i0, hi0, hz0, hz1, hz2⟩ := info_parts Try.info5
  have HY := Lib.hid (And.intro hi0 (And.intro hz0 (And.intro hz1 hz2)))
  clear hi0 hz0 hz1 hz2
  go_enter Try.func28, Try.ntmps28
  go_wp2
  go_loop [5, 6, 7] (fun x s i => RAt xs x s i) (fun _ _ i => 10 - (intOf i).toNat)
  case atStart => exact ⟨0, 0, 1, by omega, by omega, by decide, by decide, rfl, rfl, rfl, by decide, At.start xs⟩
  case round =>
    obtain ⟨k, v, sc, hk, hkl, hv, hsc, rfl, rfl, rfl, hse, hAt⟩ := hrel
    have HA := Lib.hid hAt
    have HE := Lib.hid hse
    clear hAt hse
    by_cases hlt : k < 10 ∧ k < xs.length
    · obtain ⟨hlt, hlx⟩ := hlt
      obtain ⟨b, off, rfl, hbB, hcell⟩ := HS.out.at (j := k) (by omega)
      have hpb := HB.out.get k
      generalize hp : xs.getD k 0 = p at hcell hpb
      obtain ⟨hp0, hp1⟩ := hpb
      have HP := Lib.hid hp
      clear hp
      obtain ⟨t, z, sc', e1, e2, e3, ht, hz, hsc', hse', hzz⟩ := rstep (v := v) (p := p) hlt HE.out
      have HZ := Lib.hid (And.intro hse' hzz)
      clear hse' hzz
      by_cases hp128 : 128 ≤ p
      · go_wp2
        exact ⟨⟨k + 1, z, sc', by omega, by omega, hz, hsc', by go_num, rfl, rfl, HZ.out.1, HA.out.more hlt hlx HP.out hp1 hp128 HZ.out.2⟩, by simp [intOf]; omega⟩
      · have hgood : ¬ ((0 < k ∧ p = 0) ∨ (k = 9 ∧ 1 < p)) := fun hbad => by
          have h1 := HA.out.bad hlt hlx HP.out (by omega) hbad
          have h2 := HF.out.1
          rw [h1] at h2
          injection h2 with _ h3
          exact HF.out.2 h3.symm
        have hfirst := HA.out.good hlt hlx HP.out hp0 (by omega) hgood HZ.out.2
        obtain ⟨hn, hs'⟩ : unf z = n ∧ k + 1 = s := by
          have h2 := HF.out.1
          rw [hfirst] at h2
          injection h2 with h3 h4
          exact ⟨h3, h4⟩
        subst hn
        subst hs'
        obtain ⟨-, hsl, happ, hle, -, -⟩ := first_inv HB.out hfirst (by omega)
        have hen : enc (fold (unf z)) = xs.take (k + 1) := take_of_app happ hsl
        have HSW := Lib.hid (show Sl .u8 w.drew w.heap.size (some ⟨b, off, none⟩) xs from HS.out)
        have HON := Lib.hid (rone_any (unf z) w.drew (unf_in hz).1 (unf_in hz).2)
        have htk : (xs.take (k + 1)).length = k + 1 := by simp; omega
        have HC2 := Lib.hid (show ∀ (W : World), Sl .u8 W w.heap.size (some ⟨b, off, none⟩) xs → (convert 24 9 (.slice (some ⟨b, off, none⟩) (k + 1) c)).run Try.prog W = .ok (.string (strOfNums (xs.take (k + 1)))) W from fun W hW => by
          have h := Sl.conv (hW.take (k + 1)) c
          rwa [htk] at h)
        have HS1E := Lib.hid (show strOfNums (enc (fold (unf z))) = strOfNums (xs.take (k + 1)) by rw [hen])
        clear htk hsl happ hle hen hfirst hgood
        generalize strOfNums (xs.take (k + 1)) = S2 at *
        have hcv := HC2.out w.drew HSW.out
        have hcut := slice_to (some ⟨b, off, none⟩) xs.length c (k + 1) ((k : Int) + 1) (by omega) (by simp)
        have g5 : IntKind.i64.wrap ((k : Int) + 1) = (k : Int) + 1 := by rw [IntKind.wrap_i64]; omega
        obtain ⟨A', hcutf, hto, hA'⟩ := slice_from2 b off xs.length c (k + 1) (xs.length - (k + 1)) ((k : Int) + 1) (by omega) (by omega) (by simp)
        have HTO := Lib.hid (And.intro hto hA')
        clear hto hA'
        by_cases hz2 : z % 2 = 1
        · have hu := unf_odd hz2
          go_wp2_with fail
          clear hu
          refine wp_region_held_drew (S := fun w' => (convert 24 9 (.slice (some ⟨b, off, none⟩) (k + 1) c)).run Try.prog w' = .ok (.string S2) w') (by kernel_rfl) hcv (fun hS => ?_)
          change wpAnyH _ _ _ _ _ 9 #[false, false, false, false, false, false, false, false, false] _ _
          refine wpAnyH_take (i := 0) (v := (.int .i64 (unf z))) rfl (by kernel_rfl) (by kernel_rfl) (by kernel_rfl) (fun _ _ _ h => h) (Or.inl ⟨by rfl, fun w hw => by dsimp only at hw; go_simp⟩) hS ?_
          simp only [Act.put, List.setIfInBounds_toArray, List.set_cons_zero, List.set_cons_succ, List.getElem_toArray, List.getElem_cons_zero]
          refine wpAnyH_take (i := 3) (v := (.slice (some ⟨b, off, none⟩) xs.length c)) rfl (by kernel_rfl) (by kernel_rfl) (by kernel_rfl) (fun _ _ _ h => h) (Or.inl ⟨by rfl, fun w hw => by dsimp only at hw; go_simp⟩) hS ?_
          simp only [Act.put, List.setIfInBounds_toArray, List.set_cons_zero, List.set_cons_succ, List.getElem_toArray, List.getElem_cons_zero, List.getElem_cons_succ]
          refine wpAnyH_take (i := 4) (v := (.int .i64 k)) rfl (by kernel_rfl) (by kernel_rfl) (by kernel_rfl) (fun _ _ _ h => h) (Or.inl ⟨by rfl, fun w hw => by dsimp only at hw; go_simp⟩) hS ?_
          simp only [Act.put, List.setIfInBounds_toArray, List.set_cons_zero, List.set_cons_succ, List.getElem_toArray, List.getElem_cons_zero, List.getElem_cons_succ]
          refine wpAnyH_take (i := 5) (v := (.int .i64 (k + 1))) rfl (by kernel_rfl) (by kernel_rfl) (by kernel_rfl) (fun _ _ _ h => h) (Or.inl ⟨by rfl, fun w hw => by dsimp only at hw; go_simp⟩) hS ?_
          simp only [Act.put, List.setIfInBounds_toArray, List.set_cons_zero, List.set_cons_succ, List.getElem_toArray, List.getElem_cons_zero, List.getElem_cons_succ]
          refine wpAnyH_take (i := 6) (v := (.slice (some ⟨b, off, none⟩) (k + 1) c)) rfl (by kernel_rfl) (by kernel_rfl) (by kernel_rfl) (fun _ _ _ h => h) (Or.inl ⟨by rfl, fun w hw => by dsimp only at hw; go_simp⟩) hS ?_
          simp only [Act.put, List.setIfInBounds_toArray, List.set_cons_zero, List.set_cons_succ, List.getElem_toArray, List.getElem_cons_zero, List.getElem_cons_succ]
          refine wpAnyH_take (i := 7) (v := (.string S2)) rfl (by kernel_rfl) (by kernel_rfl) (by kernel_rfl) (fun _ _ _ h => h) (Or.inl ⟨by rfl, fun w hw => by dsimp only at hw; go_simp⟩) hS ?_
          simp only [Act.put, List.setIfInBounds_toArray, List.set_cons_zero, List.set_cons_succ, List.getElem_toArray, List.getElem_cons_zero, List.getElem_cons_succ]
          refine wpAnyH_ready (rs := [1]) (by kernel_rfl) (by simp) ?_
          refine AllReadyH.cons rfl (fun K hK => ?_) AllReadyH.nil
          go_simp
          refine HON.out.mono ?_
          rintro e w1 ⟨v1, rfl, ho1, hb1⟩
          obtain ⟨A1, c1, rfl, -, -, hs1⟩ := ho1.sl
          have hX1 := HSW.out.below hb1
          have hcv1 : ∀ j, (convert 24 9 (.slice A1 (enc (fold (unf z))).length c1)).run Try.prog (w1.drewN j) = .ok (.string S2) (w1.drewN j) := fun j => by
            have h := Sl.conv (hs1.drewN j) c1
            rwa [HS1E.out] at h
          refine hK.out _ _ (HC2.out w1 hX1) (fun hS => ?_)
          clear hK K hS hcv
          refine held_narrow (C := fun w' => ∃ j, w' = w1.drewN j) (by rintro _ ⟨j, rfl⟩; exact HC2.out _ (hX1.drewN j)) _ _ _ _ ?_
          have hS : ∃ j, w1 = w1.drewN j := ⟨0, rfl⟩
          simp only [List.setIfInBounds_toArray, List.set_cons_zero, List.set_cons_succ]
          refine wpAnyH_take (i := 2) (v := (.string S2)) rfl (by kernel_rfl) (by kernel_rfl) (by kernel_rfl) (fun _ _ _ h => h) (Or.inl ⟨by rfl, fun w hw => by obtain ⟨j, rfl⟩ := hw; go_simp⟩) hS ?_
          simp only [Act.put, List.setIfInBounds_toArray, List.set_cons_zero, List.set_cons_succ, List.getElem_toArray, List.getElem_cons_zero, List.getElem_cons_succ]
          refine wpAnyH_take (i := 8) (v := (.bool false)) rfl (by kernel_rfl) (by kernel_rfl) (by kernel_rfl) (fun _ _ _ h => h) (Or.inl ⟨by rfl, fun w hw => by obtain ⟨j, rfl⟩ := hw; go_simp⟩) hS ?_
          simp only [Act.put, List.setIfInBounds_toArray, List.set_cons_zero, List.set_cons_succ, List.getElem_toArray, List.getElem_cons_zero, List.getElem_cons_succ]
          refine wpAnyH_done (by kernel_rfl) ?_ _
          have HB1 := Lib.hid hb1
          clear hS hcv1 hX1 hs1 ho1 hb1
          have HE1 := Lib.hid (show OwnS 5 .u8 (w1.alloc (.cells #[] 5)) w1.heap.size (.slice (some ⟨w1.heap.size, 0, none⟩) 0 0) [] from own_empty 5 w1)
          have HBE := Lib.hid (show Below w1.heap.size w1 (w1.alloc (.cells #[] 5)) from (Below.refl _ _).alloc (Nat.le_refl _) _)
          have HSE := Lib.hid (show Sl .u8 (w1.alloc (.cells #[] 5)) w.heap.size A' (xs.drop (k + 1)) from (HTO.out.1 .u8 _ _ _ rfl (HSW.out.below HB1.out)).below (HBE.out.mono HB1.out.size))
          have hdl : (xs.drop (k + 1)).length = xs.length - (k + 1) := List.length_drop
          have HDL := Lib.hid hdl
          clear hdl
          go_wp2_with (at_builtin; refine wpList_append_sl _ rfl _ _ 24 rfl w1.heap.size 5 i0 (.int .u8 0) 1 Try.underlying24 HY.out.1 HY.out.2.1 HY.out.2.2.1 HY.out.2.2.2 rfl .u8 _ [] rfl HE1.out A' (c - (k + 1)) w.heap.size (xs.drop (k + 1)) (by rw [HDL.out]; rfl) HSE.out (fun h => absurd h HTO.out.2) (by rw [HDL.out]; simp; omega) (by decide) (by simp) ?_; intro v2 w2 ho2 hb2)
          go_ret3
          rw [List.nil_append] at ho2
          exact ⟨v2, rfl, ho2.less HB1.out.size, ((Below.refl _ w).drew.trans HB1.out).trans ((HBE.out.trans hb2).mono HB1.out.size)⟩
        · have hu := unf_even hz2
          go_wp2_with fail
          clear hu
          refine wp_region_held_drew (S := fun w' => (convert 24 9 (.slice (some ⟨b, off, none⟩) (k + 1) c)).run Try.prog w' = .ok (.string S2) w') (by kernel_rfl) hcv (fun hS => ?_)
          change wpAnyH _ _ _ _ _ 9 #[false, false, false, false, false, false, false, false, false] _ _
          refine wpAnyH_take (i := 0) (v := (.int .i64 (unf z))) rfl (by kernel_rfl) (by kernel_rfl) (by kernel_rfl) (fun _ _ _ h => h) (Or.inl ⟨by rfl, fun w hw => by dsimp only at hw; go_simp⟩) hS ?_
          simp only [Act.put, List.setIfInBounds_toArray, List.set_cons_zero, List.set_cons_succ, List.getElem_toArray, List.getElem_cons_zero]
          refine wpAnyH_take (i := 3) (v := (.slice (some ⟨b, off, none⟩) xs.length c)) rfl (by kernel_rfl) (by kernel_rfl) (by kernel_rfl) (fun _ _ _ h => h) (Or.inl ⟨by rfl, fun w hw => by dsimp only at hw; go_simp⟩) hS ?_
          simp only [Act.put, List.setIfInBounds_toArray, List.set_cons_zero, List.set_cons_succ, List.getElem_toArray, List.getElem_cons_zero, List.getElem_cons_succ]
          refine wpAnyH_take (i := 4) (v := (.int .i64 k)) rfl (by kernel_rfl) (by kernel_rfl) (by kernel_rfl) (fun _ _ _ h => h) (Or.inl ⟨by rfl, fun w hw => by dsimp only at hw; go_simp⟩) hS ?_
          simp only [Act.put, List.setIfInBounds_toArray, List.set_cons_zero, List.set_cons_succ, List.getElem_toArray, List.getElem_cons_zero, List.getElem_cons_succ]
          refine wpAnyH_take (i := 5) (v := (.int .i64 (k + 1))) rfl (by kernel_rfl) (by kernel_rfl) (by kernel_rfl) (fun _ _ _ h => h) (Or.inl ⟨by rfl, fun w hw => by dsimp only at hw; go_simp⟩) hS ?_
          simp only [Act.put, List.setIfInBounds_toArray, List.set_cons_zero, List.set_cons_succ, List.getElem_toArray, List.getElem_cons_zero, List.getElem_cons_succ]
          refine wpAnyH_take (i := 6) (v := (.slice (some ⟨b, off, none⟩) (k + 1) c)) rfl (by kernel_rfl) (by kernel_rfl) (by kernel_rfl) (fun _ _ _ h => h) (Or.inl ⟨by rfl, fun w hw => by dsimp only at hw; go_simp⟩) hS ?_
          simp only [Act.put, List.setIfInBounds_toArray, List.set_cons_zero, List.set_cons_succ, List.getElem_toArray, List.getElem_cons_zero, List.getElem_cons_succ]
          refine wpAnyH_take (i := 7) (v := (.string S2)) rfl (by kernel_rfl) (by kernel_rfl) (by kernel_rfl) (fun _ _ _ h => h) (Or.inl ⟨by rfl, fun w hw => by dsimp only at hw; go_simp⟩) hS ?_
          simp only [Act.put, List.setIfInBounds_toArray, List.set_cons_zero, List.set_cons_succ, List.getElem_toArray, List.getElem_cons_zero, List.getElem_cons_succ]
          refine wpAnyH_ready (rs := [1]) (by kernel_rfl) (by simp) ?_
          refine AllReadyH.cons rfl (fun K hK => ?_) AllReadyH.nil
          go_simp
          refine HON.out.mono ?_
          rintro e w1 ⟨v1, rfl, ho1, hb1⟩
          obtain ⟨A1, c1, rfl, -, -, hs1⟩ := ho1.sl
          have hX1 := HSW.out.below hb1
          have hcv1 : ∀ j, (convert 24 9 (.slice A1 (enc (fold (unf z))).length c1)).run Try.prog (w1.drewN j) = .ok (.string S2) (w1.drewN j) := fun j => by
            have h := Sl.conv (hs1.drewN j) c1
            rwa [HS1E.out] at h
          refine hK.out _ _ (HC2.out w1 hX1) (fun hS => ?_)
          clear hK K hS hcv
          refine held_narrow (C := fun w' => ∃ j, w' = w1.drewN j) (by rintro _ ⟨j, rfl⟩; exact HC2.out _ (hX1.drewN j)) _ _ _ _ ?_
          have hS : ∃ j, w1 = w1.drewN j := ⟨0, rfl⟩
          simp only [List.setIfInBounds_toArray, List.set_cons_zero, List.set_cons_succ]
          refine wpAnyH_take (i := 2) (v := (.string S2)) rfl (by kernel_rfl) (by kernel_rfl) (by kernel_rfl) (fun _ _ _ h => h) (Or.inl ⟨by rfl, fun w hw => by obtain ⟨j, rfl⟩ := hw; go_simp⟩) hS ?_
          simp only [Act.put, List.setIfInBounds_toArray, List.set_cons_zero, List.set_cons_succ, List.getElem_toArray, List.getElem_cons_zero, List.getElem_cons_succ]
          refine wpAnyH_take (i := 8) (v := (.bool false)) rfl (by kernel_rfl) (by kernel_rfl) (by kernel_rfl) (fun _ _ _ h => h) (Or.inl ⟨by rfl, fun w hw => by obtain ⟨j, rfl⟩ := hw; go_simp⟩) hS ?_
          simp only [Act.put, List.setIfInBounds_toArray, List.set_cons_zero, List.set_cons_succ, List.getElem_toArray, List.getElem_cons_zero, List.getElem_cons_succ]
          refine wpAnyH_done (by kernel_rfl) ?_ _
          have HB1 := Lib.hid hb1
          clear hS hcv1 hX1 hs1 ho1 hb1
          have HE1 := Lib.hid (show OwnS 5 .u8 (w1.alloc (.cells #[] 5)) w1.heap.size (.slice (some ⟨w1.heap.size, 0, none⟩) 0 0) [] from own_empty 5 w1)
          have HBE := Lib.hid (show Below w1.heap.size w1 (w1.alloc (.cells #[] 5)) from (Below.refl _ _).alloc (Nat.le_refl _) _)
          have HSE := Lib.hid (show Sl .u8 (w1.alloc (.cells #[] 5)) w.heap.size A' (xs.drop (k + 1)) from (HTO.out.1 .u8 _ _ _ rfl (HSW.out.below HB1.out)).below (HBE.out.mono HB1.out.size))
          have hdl : (xs.drop (k + 1)).length = xs.length - (k + 1) := List.length_drop
          have HDL := Lib.hid hdl
          clear hdl
          go_wp2_with (at_builtin; refine wpList_append_sl _ rfl _ _ 24 rfl w1.heap.size 5 i0 (.int .u8 0) 1 Try.underlying24 HY.out.1 HY.out.2.1 HY.out.2.2.1 HY.out.2.2.2 rfl .u8 _ [] rfl HE1.out A' (c - (k + 1)) w.heap.size (xs.drop (k + 1)) (by rw [HDL.out]; rfl) HSE.out (fun h => absurd h HTO.out.2) (by rw [HDL.out]; simp; omega) (by decide) (by simp) ?_; intro v2 w2 ho2 hb2)
          go_ret3
          rw [List.nil_append] at ho2
          exact ⟨v2, rfl, ho2.less HB1.out.size, ((Below.refl _ w).drew.trans HB1.out).trans ((HBE.out.trans hb2).mono HB1.out.size)⟩
    · exfalso
      have h1 := HA.out.ends (by omega)
      have h2 := HF.out.1
      rw [h1] at h2
      injection h2 with _ h3
      exact HF.out.2 h3.symm
end Go.Proofs.Ytfmmfaeognoleaa.P
/-
  The reference's All, at this seat's translation.
-/
namespace Go.Proofs.Ytfmmfaeognoleaa.P
open Go.RowKit

def RAllAt (w : World) (xs : List Int) (b out : Value) (wr : World) : Prop :=
  ∃ (o ys : List Int) (A : Option Addr) (c : Nat), b = .slice A ys.length c ∧ ys.length ≤ c ∧ ys.length + o.length ≤ xs.length ∧ Byt ys ∧ Sl .u8 wr wr.heap.size A ys ∧ seq xs = o.map (fun n => (n, true)) ++ seq ys ∧ OwnS 3 .i64 wr w.heap.size out o ∧ Below w.heap.size w wr

def RAll (w : World) (xs : List Int) (e : Ending) (w' : World) : Prop :=
  ∃ v, e = .returned (.tuple #[v, .bool (flag (seq xs))]) ∧ OwnS 3 .i64 w' w.heap.size v (nums (seq xs)) ∧ Below w.heap.size w w'

theorem OwnS.reads {t : TypeId} {k : IntKind} {w : World} {base n c : Nat} {A : Option Addr} {xs : List Int} (h : OwnS t k w base (.slice A n c) xs) : Sl k w w.heap.size A xs := by
  obtain ⟨A', c', e, _, _, hs⟩ := h.sl
  injection e with e1
  subst e1
  exact hs
theorem own_apart {t1 t2 : TypeId} {k1 k2 : IntKind} {w : World} {b1 b2 : Nat} {v1 v2 : Value} {xs ys : List Int} (h1 : OwnS t1 k1 w b1 v1 xs) (h2 : OwnS t2 k2 w b2 v2 ys) (ht : t1 ≠ t2) : v1.ownBlock = none ∨ v1.ownBlock ≠ v2.ownBlock := by
  rcases h1.2 with ⟨rfl, _⟩ | ⟨g, cap, cur, rfl, _, hg, _⟩
  · exact .inl rfl
  · rcases h2.2 with ⟨rfl, _⟩ | ⟨g', cap', cur', rfl, _, hg', _⟩
    · exact .inr (by simp [Value.ownBlock])
    · refine .inr fun e => ?_
      obtain rfl : g = g' := by simpa [Value.ownBlock] using e
      rw [hg] at hg'
      injection hg' with hg'
      injection hg' with _ ht'
      exact ht ht'
theorem RAll.mk {w w' : World} {xs o : List Int} {v : Value} {f : Bool} (hf : flag (seq xs) = f) (hn : nums (seq xs) = o) (ho : OwnS 3 .i64 w' w.heap.size v o) (hb : Below w.heap.size w w') : RAll w xs (.returned (.tuple #[v, .bool f])) w' := by
  subst hf hn
  exact ⟨v, rfl, ho, hb⟩
theorem nums_app (a b : List (Int × Bool)) : nums (a ++ b) = nums a ++ nums b := by simp [nums]
theorem flag_app (a b : List (Int × Bool)) : flag (a ++ b) = (flag a || flag b) := by simp [flag]

set_option maxRecDepth 100000 in
set_option maxHeartbeats 2000000 in
theorem rall_any (A : Option Addr) (c : Nat) (xs : List Int) (w : World) (hs : Sl .u8 w w.heap.size A xs) (hb : Byt xs) (hc : xs.length ≤ c) (hm : xs.length ≤ 100000) :
    Calls Try.prog 14 #[.slice A xs.length c] w (RAll w xs) := by
  obtain ⟨i0, hi, hz0, hz1, hz2⟩ := info_parts Try.info3
  have HZ := Lib.hid (And.intro hi (And.intro hz0 (And.intro hz1 hz2)))
  clear hi hz0 hz1 hz2
  have HS := Lib.hid hs
  have HB := Lib.hid hb
  have HE := Lib.hid (own_empty 3 w)
  clear hs hb
  go_enter Try.func14, Try.ntmps14
  go_wp2_with fail
  go_loopw [0, 4] (fun b out wr => RAllAt w xs b out wr) (fun b _ _ => match b with | .slice _ n _ => n | _ => 0)
  case atStart =>
    have hB0 : Below w.heap.size w (w.alloc (.cells #[] 3)) := (Below.refl _ w).alloc (Nat.le_refl _) _
    exact ⟨[], xs, A, c, rfl, hc, by simp, HB.out, (HS.out.below hB0).more hB0.size, rfl, HE.out, hB0⟩
  case round =>
    obtain ⟨o, ys, A', c', rfl, hc', hlen, hby, hsl, hsq, ho, hb⟩ := hrel
    have HBy := Lib.hid hby
    have HSl := Lib.hid hsl
    have HQ := Lib.hid hsq
    have HO := Lib.hid ho
    have HBl := Lib.hid hb
    have hsz := hb.size
    clear hby hsl hsq ho hb
    by_cases hne : ys = []
    · subst hne
      go_wp2
      go_ret2
      exact RAll.mk (by rw [HQ.out, seq_nil, List.append_nil, flag_trues]) (by rw [HQ.out, seq_nil, List.append_nil, nums_trues]) HO.out HBl.out
    · have hpos : 0 < ys.length := List.length_pos_iff.2 hne
      have HNE := Lib.hid hne
      clear hne
      obtain ⟨x, s, hf⟩ : ∃ x s, first ys = (x, s) := ⟨_, _, rfl⟩
      by_cases hz : s = 0
      · subst hz
        have HT := Lib.hid (rtake_no A' c' ys wr HSl.out HBy.out hc' (by omega) (by rw [hf]))
        have HSB := Lib.hid (seq_bad HNE.out hf)
        clear hf
        go_wp2_with fail
        refine HT.out.mono ?_
        rintro e w1 ⟨rfl, hb1⟩
        have HB1 := Lib.hid hb1
        clear hb1
        go_wp2
        go_ret2
        exact RAll.mk (by rw [HQ.out, HSB.out, flag_app]; simp [flag]) (by rw [HQ.out, HSB.out, nums_app, nums_trues]; simp [nums]) (HO.out.keep HB1.out) (HBl.out.trans (HB1.out.mono hsz))
      · have HT := Lib.hid (rtake_yes A' c' ys wr HSl.out HBy.out hc' (by omega) x s hf hz)
        have HSG := Lib.hid (seq_good HBy.out hf hz)
        obtain ⟨-, -, -, hle, hs1, -⟩ := first_inv HBy.out hf hz
        clear hf hz
        go_wp2_with fail
        refine HT.out.mono ?_
        rintro e w1 ⟨v1, rfl, ho1, hb1⟩
        obtain ⟨A1, c1, rfl, hc1, -, hs1'⟩ := ho1.sl
        have hdl : (ys.drop s).length = ys.length - s := List.length_drop
        rw [hdl] at hc1
        have HDL := Lib.hid hdl
        have HS1 := Lib.hid ho1
        have HO1 := Lib.hid (HO.out.keep hb1)
        have HB1 := Lib.hid (HBl.out.trans (hb1.mono hsz))
        clear hb1 ho1 hs1' hdl HO HT
        go_wp2_with (at_builtin; refine wpList_append_own _ rfl _ _ 22 rfl w.heap.size 3 i0 (.int .i64 0) 1 8 Try.underlying22 HZ.out.1 HZ.out.2.1 HZ.out.2.2.1 HZ.out.2.2.2 rfl (by decide) _ _ _ rfl (HO1.out.row.alloc _) _ 1 1 [_] rfl rfl (cell_one_new _ _ _) (by simp [Value.oneCell']) (by unfold maxLen; omega) (by omega) (by have := HB1.out.size; simp; omega) ?_; intro v2 w2 hown' hgrow _)
        obtain ⟨ho', hb'⟩ := append_of HO1.out HB1.out.size hown' hgrow
        refine ⟨⟨o ++ [x], ys.drop s, A1, c1, by rw [HDL.out], by rw [HDL.out]; exact hc1, by rw [HDL.out]; simp; omega, HBy.out.drop s, ?_, ?_, ho', HB1.out.trans hb'⟩, by simp; omega⟩
        · exact OwnS.reads (base := wr.heap.size) ((HS1.out.row.alloc _).kept hgrow (own_apart HS1.out HO1.out (by decide)))
        · rw [HQ.out, HSG.out]; simp
end Go.Proofs.Ytfmmfaeognoleaa.P
