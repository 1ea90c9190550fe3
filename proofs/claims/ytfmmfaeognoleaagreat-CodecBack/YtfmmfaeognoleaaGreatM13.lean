/-
  What the reference's Fit answers, as a scene that may be.
-/
import Derived.Test.YtfmmfaeognoleaaGreatSFit
import Derived.Test.YtfmmfaeognoleaaGreatM9
import Derived.Test.YtfmmfaeognoleaaGreatM6
import Derived.Deep.RegionHeld3
import Derived.BigQuiet
import Derived.Test.YtfmmfaeognoleaaGreatM10
import Derived.Test.YtfmmfaeognoleaaGreatM11
namespace Go.Proofs.YtfmmfaeognoleaaGreat
open Go.RowKit

/-- Where the rows of a scene lie that Fit made. -/
structure FitR (w w' : World) (x : Sc) (h1 h2 h3 : Nat) : Prop where
  l1 : w.heap.size ≤ h1
  l2 : h1 ≤ h2
  l3 : h2 ≤ h3
  l4 : h3 ≤ w'.heap.size
  v : OwnE EV w' w.heap.size (.slice x.vA x.vs.length x.vc) x.vs
  vb : ∀ b, (Value.slice x.vA x.vs.length x.vc).ownBlock = some b → b < h1
  t : OwnB ET EC Tx.px w' h1 h2 (.slice x.tA x.ts.length x.tc) x.ts
  p : OwnB EP C.EI (fun l => l) w' h2 h3 (.slice x.pA x.ps.length x.pc) x.ps
  d : OwnB ED ER Dr.tris w' h3 w'.heap.size (.slice x.dA x.ds.length x.dc) x.ds
  b : Below w.heap.size w w'
theorem FitR.cap {w w' : World} {x : Sc} {h1 h2 h3 : Nat} (h : FitR w w' x h1 h2 h3) : x.cap :=
  ⟨(ownE_es h.v).2.1, (ownE_es h.t.own).2.1, h.t.cap, (ownE_es h.p.own).2.1, h.p.cap, (ownE_es h.d.own).2.1, h.d.cap⟩
theorem FitR.at {w w' : World} {x : Sc} {h1 h2 h3 : Nat} (h : FitR w w' x h1 h2 h3) : x.at w' w'.heap.size :=
  ⟨(ownE_es h.v).2.2, (ownE_es h.t.own).2.2, fun l hl => (h.t.els l hl).es (fun _ _ hb => hb), (ownE_es h.p.own).2.2, fun l hl => (h.p.els l hl).es (fun _ _ hb => hb), (ownE_es h.d.own).2.2, fun l hl => (h.d.els l hl).es (fun _ _ hb => hb)⟩
/-- What Fit answers, and that it may be. -/
def FitsR (s : Sc) (most verts draws tris : Nat) (w : World) (e : Ending) (w' : World) : Prop :=
  ∃ (x : Sc) (h1 h2 h3 : Nat), e = .returned (.agg #[.int .i64 x.w, .int .i64 x.h, .int .u8 x.k.r, .int .u8 x.k.g, .int .u8 x.k.b, .int .u8 x.k.a, .slice x.vA x.vs.length x.vc, .slice x.tA x.ts.length x.tc, .slice x.pA x.ps.length x.pc, .slice x.dA x.ds.length x.dc]) ∧ x.p = fitS s.p most verts draws tris ∧ x.ok ∧ x.few ∧ FitR w w' x h1 h2 h3
theorem fitr_any (s : Sc) (most verts draws tris : Nat) (hm0 : 1 ≤ most) (hm1 : most ≤ 64) (hv63 : verts ≤ 63) (hd8 : draws ≤ 8) (ht32 : tris ≤ 32) (w : World) (ha : s.at w w.heap.size) (hc : s.ok) :
    Calls Tryz.prog 15 #[.agg #[.int .i64 s.w, .int .i64 s.h, .int .u8 s.k.r, .int .u8 s.k.g, .int .u8 s.k.b, .int .u8 s.k.a, .slice s.vA s.vs.length s.vc, .slice s.tA s.ts.length s.tc, .slice s.pA s.ps.length s.pc, .slice s.dA s.ds.length s.dc], .int .i64 most, .int .i64 verts, .int .i64 draws, .int .i64 tris] w (FitsR s most verts draws tris w) := by
  refine (sfit_any s most verts draws tris hm0 hm1 hv63 hd8 ht32 w ha hc).mono ?_
  rintro e w' ⟨x, h1, h2, h3, rfl, hp, l1, l2, l3, l4, v, vb, t, p, d, b⟩
  have hR : FitR w w' x h1 h2 h3 := ⟨l1, l2, l3, l4, v, vb, t, p, d, b⟩
  exact ⟨x, h1, h2, h3, rfl, hp, ok_of hp (fitS_ok (ok_p hc) hm0 hm1 hv63 hd8 ht32) hR.cap, few_of hp (fitS_few hv63 hd8 ht32), hR⟩
end Go.Proofs.YtfmmfaeognoleaaGreat
/-
  The walk of glazierlaw03.WireSigns, at this seat's translation.
-/
namespace Go.Proofs.YtfmmfaeognoleaaGreat.P
open Go.RowKit

theorem put1_any (n : Int) (w : World) (h0 : -9223372036854775808 ≤ n) (h1 : n ≤ 9223372036854775807) :
    Calls Tryz.prog 26 #[.slice (some ⟨w.heap.size, 0, none⟩) 1 1] (w.alloc (.cells #[.int .i64 n] 3)) (Made 5 .u8 (w.heap.size + 1) (w.alloc (.cells #[.int .i64 n] 3)) (enc (fold n))) := by
  have h := put_any (some ⟨w.heap.size, 0, none⟩) 1 [n] (w.heap.size + 1) (w.alloc (.cells #[.int .i64 n] 3))
    (fun _ => ⟨w.heap.size, 0, rfl, by omega, fun j hj => by
      simp at hj
      subst hj
      simp [go_sem]⟩) (by simp) (by intro x hx; simp at hx; subst hx; exact ⟨h0, h1⟩) (by simp)
  rw [put_cons, put_nil, List.append_nil] at h
  simpa using h

theorem slice_from (A : Option Addr) (n c k m : Nat) (i : Int) (hk : n = k + m) (hn : n ≤ c) (hi : i = (k : Int)) :
    ∃ A', (∀ W, (Instr.slice 30 (.slice A n c) (some (.int .i64 i)) none none).run Tryz.prog W = .ok (.slice A' m (c - k)) W) ∧ (∀ q w B xs, xs.length = n → Sl q w B A xs → Sl q w B A' (xs.drop k)) := by
  subst hi
  refine ⟨if c = k then A else A.map fun x => x.add k, fun W => ?_, fun q w B xs hx h => h.cut (by omega)⟩
  have hkn : k ≤ n := by omega
  obtain rfl : m = n - k := by omega
  clear hk
  go_simp

theorem sl_keep {q : IntKind} {w w' : World} {A : Option Addr} {xs : List Int} (h : Sl q w w.heap.size A xs) (hb : Below w.heap.size w w') : Sl q w' w'.heap.size A xs := (h.below hb).more hb.size
theorem below_new {w w' : World} {o : Obj} (hb : Below (w.heap.size + 1) (w.alloc o) w') : Below w.heap.size w w' := ((Below.refl _ w).alloc (Nat.le_refl _) o).trans (hb.mono (Nat.le_succ _))

theorem fold_pos {m : Int} (h : 0 ≤ m) : fold m = 2 * m.toNat := by unfold fold; rw [if_neg (by omega)]
theorem fold_neg {m : Int} (h : 0 ≤ m) : fold (-m - 1) = 2 * m.toNat + 1 := by unfold fold; rw [if_pos (by omega)]; omega

end Go.Proofs.YtfmmfaeognoleaaGreat.P
/-
  The walk of glazierlaw03.WireOne, at this seat's translation.
-/
namespace Go.Proofs.YtfmmfaeognoleaaGreat.P
open Go.RowKit

theorem slice_to (A : Option Addr) (n c k : Nat) (i : Int) (hk : k ≤ c) (hi : i = (k : Int)) :
    ∀ W, (Instr.slice 30 (.slice A n c) none (some (.int .i64 i)) none).run Tryz.prog W = .ok (.slice A k c) W := by
  subst hi
  intro W
  go_simp

theorem take_of_app {L E D : List Int} {s : Nat} (h : L = E ++ D) (hs : s = E.length) : E = L.take s := by subst h hs; simp

theorem fold_half {n h : Int} (e : h = n.tdiv 2) : fold h ≤ fold n := by
  subst e
  unfold fold
  by_cases h : n < 0
  · obtain ⟨k, rfl⟩ : ∃ k, n = -k := ⟨-n, by omega⟩
    rw [Int.neg_tdiv, Int.tdiv_eq_ediv_of_nonneg (by omega), if_pos h]
    split <;> omega
  · rw [Int.tdiv_eq_ediv_of_nonneg (by omega), if_neg (by omega), if_neg (by omega)]
    omega

theorem half_in {n : Int} (n0 : -9223372036854775808 ≤ n) (n1 : n ≤ 9223372036854775807) : -9223372036854775808 ≤ n.tdiv 2 ∧ n.tdiv 2 ≤ 9223372036854775807 := by
  by_cases h : n < 0
  · obtain ⟨k, rfl⟩ : ∃ k, n = -k := ⟨-n, by omega⟩
    rw [Int.neg_tdiv, Int.tdiv_eq_ediv_of_nonneg (by omega)]
    omega
  · rw [Int.tdiv_eq_ediv_of_nonneg (by omega)]
    omega

end Go.Proofs.YtfmmfaeognoleaaGreat.P
/-
  The walk of glazierlaw03.WireBack, at this seat's translation.
-/
namespace Go.Proofs.YtfmmfaeognoleaaGreat.P
open Go.RowKit

def BackAt (w : World) (L : List Int) (rest i : Value) (wr : World) : Prop :=
  ∃ (k : Nat) (A : Option Addr) (c : Nat), k ≤ L.length ∧ i = .int .i64 k ∧ rest = .slice A (put (L.drop k)).length c ∧ (put (L.drop k)).length ≤ c ∧ Sl .u8 wr wr.heap.size A (put (L.drop k)) ∧ Below w.heap.size w wr

theorem slice_to22 (A : Option Addr) (n c k : Nat) (i : Int) (hk : k ≤ c) (hi : i = (k : Int)) :
    ∀ W, (Instr.slice 54 (.slice A n c) none (some (.int .i64 i)) none).run Tryz.prog W = .ok (.slice A k c) W := by
  subst hi
  intro W
  go_simp

end Go.Proofs.YtfmmfaeognoleaaGreat.P
/-
  A region that draws its order: its quiet rest, walked in the text's order, in a class of worlds that is narrower than what was held so far.
-/
namespace Go.Proofs.YtfmmfaeognoleaaGreat.P
open Go.RowKit

theorem held_narrow {P : Program} {ops : Array Oper} {md : Region.Mode} {C S : World → Prop} {Q : Exit → Act → World → Prop} (hCS : ∀ w, C w → S w) :
    ∀ (fuel : Nat) (listed : Array Bool) (a : Act) (w : World), wpAnyH P md ops Q C fuel listed a w → wpAnyH P md ops Q S fuel listed a w
  | 0, _, _, _, h => h
  | fuel + 1, _, _, _, h => ⟨h.1, fun i hi => wpOp_mono (fun a' w' h' => ⟨hCS _ h'.1, held_narrow hCS fuel _ a' w' h'.2⟩) (h.2 i hi)⟩
theorem held_rest {P : Program} {ops : Array Oper} {md : Region.Mode} {C : World → Prop} {Q : Act → Prop} {Q' : Exit → Act → World → Prop} (hQ : ∀ a w, C w → Q a → Q' .normal a w) :
    ∀ (fuel : Nat) (listed : Array Bool) (a : Act) (w : World), C w → wpAnyQ P md ops C Q fuel listed a → wpAnyH P md ops Q' C fuel listed a w
  | 0, _, _, _, hw, h => ⟨h.1, hQ _ _ hw h.2⟩
  | fuel + 1, _, _, _, hw, h => ⟨fun h0 => hQ _ _ hw (h.1 h0), fun i hi => wpOp_of_qOp hw (fun a' w' hw' h' => ⟨hw', held_rest hQ fuel _ a' w' hw' h'⟩) (h.2 i hi)⟩
theorem held_from {P : Program} {l : List Oper} {S : World → Prop} {Q' : Exit → Act → World → Prop} {a : Act} {w : World} {listed : Array Bool} {fuel : Nat} (k : Nat) (hs : Region.noSelect l.toArray = true)
    (hB : Region.lexFrom .any l.toArray fuel k listed = true) (hl : (l.drop k).length = fuel) (hS : ∀ w', (∃ n, w' = w.drewN n) → S w')
    (h : wpQuiet P l.toArray (fun w' => ∃ n, w' = w.drewN n) (fun a => ∀ w', (∃ n, w' = w.drewN n) → Q' .normal a w') (l.drop k) a) : wpAnyH P .any l.toArray Q' S fuel listed a w := by
  subst hl
  exact held_narrow hS _ _ _ _ (held_rest (Q := fun a => ∀ w', (∃ n, w' = w.drewN n) → Q' .normal a w') (fun a w hw h => h w hw) _ _ _ _ ⟨0, rfl⟩ (wpAnyQ_lex hs (l.drop k) k listed a (fun j => by simp) hB h))
end Go.Proofs.YtfmmfaeognoleaaGreat.P
/-
  The walk of glazierlaw03.WireJoins, at this seat's translation.
-/
namespace Go.Proofs.YtfmmfaeognoleaaGreat.P
open Go.RowKit

/-- append onto a row of the call's own, whatever the source: nil, empty or not. -/
theorem wpList_append_sl {P : Program} (w : World) {ops : Array Oper} {rest : List Oper} {o : Oper} {a : Act} {Q : Exit → Act → World → Prop} (hgd : o.guard = none) (s x : Operand) (t : TypeId)
    (ho : o.op = .call { callee := .builtin .append, args := #[s, x], argTypes := #[t, t] })
    (base : Nat) (e : TypeId) (i : TypeInfo) (z : Value) (bytes : Nat) (ht : P.underlying t = some (.slice e)) (hi : P.info? e = some i) (hz : i.zero = some z) (hsize : i.size = 1) (hby : i.bytes = bytes) (hzs : z.cells.size = 1)
    (k : IntKind) (v : Value) (xs : List Int) (hs : a.eval s = v) (hown : OwnS e k w base v xs)
    (A : Option Addr) (c B : Nat) (ys : List Int) (hx : a.eval x = .slice A ys.length c) (hsl : Sl k w B A ys) (hnil : A = none → c = 0)
    (h63 : xs.length + ys.length ≤ 20000000000) (hbytes : bytes ≤ 8) (hbase : base ≤ w.heap.size)
    (h : ∀ v' w', OwnS e k w' base v' (xs ++ ys) → Below base w w' → wpList P ops Q rest (a.put o.dst v') w') : wpList P ops Q (o :: rest) a w := by
  have hb2 : (xs.length + ys.length) * bytes ≤ 140737488355328 := Nat.le_trans (Nat.mul_le_mul h63 hbytes) (by decide)
  cases A with
  | some ad =>
    refine wpList_append_own w hgd s x t ho base e i z 1 bytes ht hi hz hsize hby hzs (by decide) v _ _ hs hown.row ad ys.length c (ys.map (Value.int k)) hx (by simp) ?_ (ints_oneCell _ _) (by unfold maxLen; omega) hb2 hbase ?_
    · intro j u hu
      by_cases hne : ys = []
      · subst hne; simp at hu
      · obtain ⟨b, off, hA, _, hc⟩ := hsl hne
        cases hA
        exact news_of hc j u hu
    · intro v' w' h2 h3 _
      exact h v' w' (by unfold OwnS; simpa using h2) ((Below.refl base w).grown h3 hbase fun j ej => own_ge hown.row j ej)
  | none =>
    have hy : ys = [] := by
      by_cases hne : ys = []
      · exact hne
      · obtain ⟨b, off, hA, _⟩ := hsl hne
        cases hA
    subst hy
    obtain rfl := hnil rfl
    refine wpList_plain hgd fun K hK' => ?_
    have hrun := run_append_owned_none (P := P) w base t o.type e i 1 ht hi v xs.length _ hown.row
    unfold Oper.wp
    simp [execOp, ho, resolve, invoke, builtin, hs, hx, hrun, Result.andThen]
    exact hK' _ _ (h v w (by simpa using hown) (Below.refl _ _))

theorem OwnS.sl2 {t : TypeId} {k : IntKind} {w : World} {base : Nat} {v : Value} {xs : List Int} (h : OwnS t k w base v xs) :
    ∃ A c, v = .slice A xs.length c ∧ xs.length ≤ c ∧ c ≤ 9223372036854775807 ∧ Sl k w w.heap.size A xs ∧ (A = none → c = 0) := by
  obtain ⟨A, c, hv, h1, h2, h3⟩ := h.sl
  refine ⟨A, c, hv, h1, h2, h3, fun hA => ?_⟩
  subst hA
  rcases h.2 with ⟨rfl, _⟩ | ⟨g, cap, cur, rfl, _⟩
  · injection hv with _ _ e; exact e.symm
  · injection hv with e; cases e

end Go.Proofs.YtfmmfaeognoleaaGreat.P
/-
  The walk of glazierlaw15.CodecBack.
-/
namespace Go.Proofs.YtfmmfaeognoleaaGreat
open Go.RowKit
attribute [local go_sem ↓] Go.wp_at_zero Go.wp_at_succ

theorem slice_bytes (A : Option Addr) (n c k : Nat) (i : Int) (hk : k ≤ c) (hi : i = k) (W : World) :
    (Instr.slice 30 (.slice A n c) none (some (.int .i64 i)) none).run Tryz.prog W = .ok (.slice A k c) W := by
  subst hi
  go_simp
theorem P.sl_one (w : World) (a : Int) : P.Sl .u8 (w.alloc (.cells #[.int .u8 a] 5)) (w.heap.size + 1) (some ⟨w.heap.size, 0, none⟩) [a] := fun _ => by
  refine ⟨w.heap.size, 0, rfl, Nat.lt_succ_self _, fun j hj => ?_⟩
  have h0 : j = 0 := by simpa using hj
  subst h0
  have hg : (w.alloc (.cells #[.int .u8 a] 5)).heap[w.heap.size]? = some (.cells #[.int .u8 a] 5 (0, 0)) := heap_alloc_new _ _
  exact Joins.cell_of_block hg 0
set_option maxRecDepth 100000 in
set_option maxHeartbeats 8000000 in
theorem back_walk (s : Sc) (n a : Int) (hn : 0 ≤ n ∧ n ≤ 65535) (ha : 0 ≤ a ∧ a ≤ 255) (w : World) (ok : s.ok) (at0 : s.at w w.heap.size) :
    Calls Tryz.prog 4 #[.agg #[.int .i64 s.w, .int .i64 s.h, .int .u8 s.k.r, .int .u8 s.k.g, .int .u8 s.k.b, .int .u8 s.k.a, .slice s.vA s.vs.length s.vc, .slice s.tA s.ts.length s.tc, .slice s.pA s.ps.length s.pc, .slice s.dA s.ds.length s.dc], .int .u16 n, .int .u8 a] w fun e w' => e = .returned (.bool true) ∧ Below w.heap.size w w' := by
  have hb0 := new_below w (.cells #[.int .i64 s.w, .int .i64 s.h, .int .u8 s.k.r, .int .u8 s.k.g, .int .u8 s.k.b, .int .u8 s.k.a, .slice s.vA s.vs.length s.vc, .slice s.tA s.ts.length s.tc, .slice s.pA s.ps.length s.pc, .slice s.dA s.ds.length s.dc] 29)
  have HG0 := Lib.hid (show (w.alloc (.cells #[.int .i64 s.w, .int .i64 s.h, .int .u8 s.k.r, .int .u8 s.k.g, .int .u8 s.k.b, .int .u8 s.k.a, .slice s.vA s.vs.length s.vc, .slice s.tA s.ts.length s.tc, .slice s.pA s.ps.length s.pc, .slice s.dA s.ds.length s.dc] 29)).heap[w.heap.size]? = some (scB s) from heap_alloc_new _ _)
  have HB0 := Lib.hid hb0
  have HF := Lib.hid (show ∀ w1, Below w.heap.size w w1 → Calls Tryz.prog 15 #[.agg #[.int .i64 s.w, .int .i64 s.h, .int .u8 s.k.r, .int .u8 s.k.g, .int .u8 s.k.b, .int .u8 s.k.a, .slice s.vA s.vs.length s.vc, .slice s.tA s.ts.length s.tc, .slice s.pA s.ps.length s.pc, .slice s.dA s.ds.length s.dc], .int .i64 64, .int .i64 30, .int .i64 6, .int .i64 10] w1 (FitsR s 64 30 6 10 w1) from fun w1 (h : Below w.heap.size w w1) => fitr_any s 64 30 6 10 (by decide) (by decide) (by decide) (by decide) (by decide) w1 ((at0.below h).more h.size) ok)
  have HCk := Lib.hid (fitS_check (p := s.p) (most := 64) (verts := 30) (draws := 6) (tris := 10) (ok_p ok).k (by decide) (by decide) (by decide) (by decide) (by decide))
  unfold FitsR at HF
  clear hb0 ok at0
  go_enter Tryz.func4, Tryz.ntmps4
  go_wp2_with fail
  with_reducible refine (cshown_any _).mono ?_
  rintro e w1 ⟨rfl, hb⟩
  have HB1 := Lib.hid (bstep HB0.out HB0.out.size hb)
  have hg1 := scB_keep HG0.out hb (scB_lt HG0.out)
  obtain ⟨c0, c1, c2, c3, c4, c5, c6, c7, c8, c9⟩ := scB_cell hg1
  have gl := scB_lt hg1
  clear hb HG0 HB0 hg1
  go_wp2_with fail
  with_reducible refine (HF.out w1 HB1.out).mono ?_
  rintro e w2 ⟨f, h1, h2, h3, rfl, hfp, hfo, hff, hfr⟩
  have HB2 := Lib.hid (bstep HB1.out HB1.out.size hfr.b)
  have HA2 := Lib.hid (hfr.at.below (new_below w2 (.cells #[.int .i64 f.w, .int .i64 f.h, .int .u8 f.k.r, .int .u8 f.k.g, .int .u8 f.k.b, .int .u8 f.k.a, .slice f.vA f.vs.length f.vc, .slice f.tA f.ts.length f.tc, .slice f.pA f.ps.length f.pc, .slice f.dA f.ds.length f.dc] 29)))
  have HX2 := Lib.hid (show (w2.alloc (.cells #[.int .i64 f.w, .int .i64 f.h, .int .u8 f.k.r, .int .u8 f.k.g, .int .u8 f.k.b, .int .u8 f.k.a, .slice f.vA f.vs.length f.vc, .slice f.tA f.ts.length f.tc, .slice f.pA f.ps.length f.pc, .slice f.dA f.ds.length f.dc] 29)).heap[w2.heap.size]? = some (scB f) from heap_alloc_new _ _)
  have HB3 := Lib.hid (bstep HB2.out HB2.out.size (new_below w2 (.cells #[.int .i64 f.w, .int .i64 f.h, .int .u8 f.k.r, .int .u8 f.k.g, .int .u8 f.k.b, .int .u8 f.k.a, .slice f.vA f.vs.length f.vc, .slice f.tA f.ts.length f.tc, .slice f.pA f.ps.length f.pc, .slice f.dA f.ds.length f.dc] 29)))
  have hck : check f.p = 0 := by rw [hfp]; exact HCk.out
  clear c0 c1 c2 c3 c4 c5 c6 c7 c8 c9 gl HF HCk hfr hfp HB1
  go_upto_region 3 with fail
  obtain ⟨t, ht⟩ : ∃ t, w2.alloc (.cells #[.int .i64 f.w, .int .i64 f.h, .int .u8 f.k.r, .int .u8 f.k.g, .int .u8 f.k.b, .int .u8 f.k.a, .slice f.vA f.vs.length f.vc, .slice f.tA f.ts.length f.tc, .slice f.pA f.ps.length f.pc, .slice f.dA f.ds.length f.dc] 29) = t := ⟨_, rfl⟩
  rw [ht] at HA2 HX2 HB3
  rw [ht]
  have hst : t.heap.size = w2.heap.size + 1 := by rw [← ht]; simp
  clear ht
  have HAt := Lib.hid (HA2.out.more (B' := t.heap.size) (by omega))
  obtain ⟨hl1, hl2, htk⟩ := take_back (ok_p hfo) hck
  have hfp := few_p hff
  have HPt := Lib.hid (show Calls Tryz.prog 8 #[.agg #[.int .i64 f.w, .int .i64 f.h, .int .u8 f.k.r, .int .u8 f.k.g, .int .u8 f.k.b, .int .u8 f.k.a, .slice f.vA f.vs.length f.vc, .slice f.tA f.ts.length f.tc, .slice f.pA f.ps.length f.pc, .slice f.dA f.ds.length f.dc]] t (PutA 0 (P.put (nS f.p)) t) from by
    have h := cput_any f hfo hff t HAt.out (by have := len_check hck; omega)
    rw [hck] at h
    exact h)
  have HBy := Lib.hid (P.put_byt (nS f.p))
  have HT0 := Lib.hid htk
  have HT1 := Lib.hid (fun k (hk : k < (P.put (nS f.p)).length) => takeP_none (read_cut (ok_p hfo) hfp hk))
  have HT2 := Lib.hid (takeP_none (read_more (ok_p hfo) hfp ha))
  unfold PutA at HPt
  have HFo := Lib.hid (And.intro hfo hff)
  generalize P.put (nS f.p) = bs at *
  obtain ⟨x0, x1, x2, x3, x4, x5, x6, x7, x8, x9⟩ := scB_cell HX2.out
  have xl := scB_lt HX2.out
  clear hck htk hfp hfo hff HA2
  go_wp2_with fail
  with_reducible refine (HPt.out).mono ?_
  rintro e w3 ⟨hb, h | ⟨-, v1, rfl, ho⟩⟩
  · exact absurd rfl h.1
  obtain ⟨A1, e1, rfl, hc1, hcm1, hsl, hnil⟩ := ho.sl2
  have HS3 := Lib.hid hsl
  have HB4 := Lib.hid (bstep HB3.out HB3.out.size hb)
  have HX3 := Lib.hid (scB_keep HX2.out hb xl)
  have HA3 := Lib.hid ((HAt.out.below hb).more hb.size)
  have HTa := Lib.hid (take_any A1 e1 bs hc1 (by omega) HBy.out w3 hsl)
  clear hb ho hsl x0 x1 x2 x3 x4 x5 x6 x7 x8 x9 xl HPt HX2 HAt HB3 hst
  unfold TakeA at HTa
  have hten : ¬ (bs.length : Int) < 10 := by omega
  go_wp2_with fail
  with_reducible refine (HTa.out).mono ?_
  rintro e w4 ⟨x, err, rfl, hb, hon, hcap, htk⟩
  obtain ⟨hxf, rfl⟩ : x.p = f.p ∧ err = 0 := by
    have h := htk.symm.trans HT0.out
    exact ⟨congrArg Prod.fst h, congrArg Prod.snd h⟩
  have HXF := Lib.hid hxf
  clear hxf
  clear htk HTa HT0
  have HB5 := Lib.hid (bstep HB4.out HB4.out.size hb)
  have HB6 := Lib.hid (bstep HB5.out HB5.out.size (new_below w4 (.cells #[.int .i64 x.w, .int .i64 x.h, .int .u8 x.k.r, .int .u8 x.k.g, .int .u8 x.k.b, .int .u8 x.k.a, .slice x.vA x.vs.length x.vc, .slice x.tA x.ts.length x.tc, .slice x.pA x.ps.length x.pc, .slice x.dA x.ds.length x.dc] 29)))
  have HX6 := Lib.hid (show (w4.alloc (.cells #[.int .i64 x.w, .int .i64 x.h, .int .u8 x.k.r, .int .u8 x.k.g, .int .u8 x.k.b, .int .u8 x.k.a, .slice x.vA x.vs.length x.vc, .slice x.tA x.ts.length x.tc, .slice x.pA x.ps.length x.pc, .slice x.dA x.ds.length x.dc] 29)).heap[w4.heap.size]? = some (scB x) from heap_alloc_new _ _)
  have HF6 := Lib.hid (scB_alloc (.cells #[.int .i64 x.w, .int .i64 x.h, .int .u8 x.k.r, .int .u8 x.k.g, .int .u8 x.k.b, .int .u8 x.k.a, .slice x.vA x.vs.length x.vc, .slice x.tA x.ts.length x.tc, .slice x.pA x.ps.length x.pc, .slice x.dA x.ds.length x.dc] 29) (scB_keep HX3.out hb (scB_lt HX3.out)))
  have HO6 := Lib.hid ((hon.keep (w' := w4.alloc (.cells #[.int .i64 x.w, .int .i64 x.h, .int .u8 x.k.r, .int .u8 x.k.g, .int .u8 x.k.b, .int .u8 x.k.a, .slice x.vA x.vs.length x.vc, .slice x.tA x.ts.length x.tc, .slice x.pA x.ps.length x.pc, .slice x.dA x.ds.length x.dc] 29)) fun b _ hlt => (new_below w4 _).block b hlt).at)
  have HA6 := Lib.hid (((HA3.out.below hb).more hb.size).below (new_below w4 (.cells #[.int .i64 x.w, .int .i64 x.h, .int .u8 x.k.r, .int .u8 x.k.g, .int .u8 x.k.b, .int .u8 x.k.a, .slice x.vA x.vs.length x.vc, .slice x.tA x.ts.length x.tc, .slice x.pA x.ps.length x.pc, .slice x.dA x.ds.length x.dc] 29)) |>.more (new_below w4 (.cells #[.int .i64 x.w, .int .i64 x.h, .int .u8 x.k.r, .int .u8 x.k.g, .int .u8 x.k.b, .int .u8 x.k.a, .slice x.vA x.vs.length x.vc, .slice x.tA x.ts.length x.tc, .slice x.pA x.ps.length x.pc, .slice x.dA x.ds.length x.dc] 29)).size)
  have HS6 := Lib.hid (((HS3.out.below hb).more hb.size).below (new_below w4 (.cells #[.int .i64 x.w, .int .i64 x.h, .int .u8 x.k.r, .int .u8 x.k.g, .int .u8 x.k.b, .int .u8 x.k.a, .slice x.vA x.vs.length x.vc, .slice x.tA x.ts.length x.tc, .slice x.pA x.ps.length x.pc, .slice x.dA x.ds.length x.dc] 29)) |>.more (new_below w4 (.cells #[.int .i64 x.w, .int .i64 x.h, .int .u8 x.k.r, .int .u8 x.k.g, .int .u8 x.k.b, .int .u8 x.k.a, .slice x.vA x.vs.length x.vc, .slice x.tA x.ts.length x.tc, .slice x.pA x.ps.length x.pc, .slice x.dA x.ds.length x.dc] 29)).size)
  clear hb hon hcap HX3 HA3 HS3 HB5 HB4
  go_upto_region 7 with fail
  obtain ⟨t, ht⟩ : ∃ t, w4.alloc (.cells #[.int .i64 x.w, .int .i64 x.h, .int .u8 x.k.r, .int .u8 x.k.g, .int .u8 x.k.b, .int .u8 x.k.a, .slice x.vA x.vs.length x.vc, .slice x.tA x.ts.length x.tc, .slice x.pA x.ps.length x.pc, .slice x.dA x.ds.length x.dc] 29) = t := ⟨_, rfl⟩
  rw [ht] at HX6 HF6 HO6 HA6 HS6 HB6
  rw [ht]
  clear ht
  obtain ⟨x0, x1, x2, x3, x4, x5, x6, x7, x8, x9⟩ := scB_cell HX6.out
  obtain ⟨y0, y1, y2, y3, y4, y5, y6, y7, y8, y9⟩ := scB_cell HF6.out
  have xl := scB_lt HX6.out
  have yl := scB_lt HF6.out
  have HSm := Lib.hid (same_any x f t HO6.out HA6.out (few_of HXF.out (few_p HFo.out.2)) true (by simp only [true_iff]; exact HXF.out))
  go_wp2_with fail
  with_reducible refine (HSm.out).mono ?_
  rintro e w5 ⟨rfl, hb⟩
  have HB7 := Lib.hid (bstep HB6.out HB6.out.size hb)
  have HS7 := Lib.hid ((HS6.out.below hb).more hb.size)
  clear hb x0 x1 x2 x3 x4 x5 x6 x7 x8 x9 y0 y1 y2 y3 y4 y5 y6 y7 y8 y9 xl yl HSm HX6 HF6 HO6 HA6 HB6 HS6
  have hwn : IntKind.i64.wrap n = n := by rw [IntKind.wrap_i64]; omega
  have hm0 : ¬ (bs.length : Int) = 0 := by omega
  have hpos : (0 : Int) < bs.length := by omega
  obtain ⟨k, hk⟩ : ∃ k : Nat, n.tmod (bs.length : Int) = k := ⟨(n % (bs.length : Int)).toNat, by
    rw [Int.tmod_eq_emod_of_nonneg hn.1]
    have := Int.emod_nonneg n (show (bs.length : Int) ≠ 0 by omega)
    omega⟩
  have hkl : k < bs.length := by
    have h1 := Int.tmod_lt_of_pos n hpos
    omega
  have hslc := slice_bytes A1 bs.length e1 k k (by omega) rfl
  have hkt : (bs.take k).length = k := by rw [List.length_take]; omega
  have HTb := Lib.hid (show Calls Tryz.prog 10 #[.slice A1 k e1] w5 (TakeA (bs.take k) w5) from by
    have h := take_any A1 e1 (bs.take k) (by omega) (by omega) (HBy.out.take k) w5 (HS7.out.take k)
    rw [hkt] at h
    exact h)
  have HT1k := Lib.hid (HT1.out k hkl)
  unfold TakeA at HTb
  clear HT1 hkt
  go_wp2_with fail
  with_reducible refine (HTb.out).mono ?_
  rintro e w6 ⟨x', err, rfl, hb, -, -, htk⟩
  obtain rfl : err = 10 := congrArg Prod.snd (htk.symm.trans HT1k.out)
  have HB8 := Lib.hid (bstep (bstep HB7.out HB7.out.size hb) (by have := HB7.out.size; have := hb.size; omega) (new_below w6 (.cells #[.int .i64 x'.w, .int .i64 x'.h, .int .u8 x'.k.r, .int .u8 x'.k.g, .int .u8 x'.k.b, .int .u8 x'.k.a, .slice x'.vA x'.vs.length x'.vc, .slice x'.tA x'.ts.length x'.tc, .slice x'.pA x'.ps.length x'.pc, .slice x'.dA x'.ds.length x'.dc] 29)))
  have HS8 := Lib.hid (((HS7.out.below hb).more hb.size).below (new_below w6 (.cells #[.int .i64 x'.w, .int .i64 x'.h, .int .u8 x'.k.r, .int .u8 x'.k.g, .int .u8 x'.k.b, .int .u8 x'.k.a, .slice x'.vA x'.vs.length x'.vc, .slice x'.tA x'.ts.length x'.tc, .slice x'.pA x'.ps.length x'.pc, .slice x'.dA x'.ds.length x'.dc] 29)) |>.more (new_below w6 (.cells #[.int .i64 x'.w, .int .i64 x'.h, .int .u8 x'.k.r, .int .u8 x'.k.g, .int .u8 x'.k.b, .int .u8 x'.k.a, .slice x'.vA x'.vs.length x'.vc, .slice x'.tA x'.ts.length x'.tc, .slice x'.pA x'.ps.length x'.pc, .slice x'.dA x'.ds.length x'.dc] 29)).size)
  clear hb htk HTb HS7 HB7 hslc hk hkl HT1k hwn
  obtain ⟨i0, hi, hz0, hz1, hz2⟩ := info_parts P.Tryz.info5
  have HI := Lib.hid hi
  have HZ := Lib.hid (And.intro hz0 (And.intro hz1 hz2))
  clear hi hz0 hz1 hz2
  go_upto_region 9 with fail
  obtain ⟨t2, ht⟩ : ∃ t, w6.alloc (.cells #[.int .i64 x'.w, .int .i64 x'.h, .int .u8 x'.k.r, .int .u8 x'.k.g, .int .u8 x'.k.b, .int .u8 x'.k.a, .slice x'.vA x'.vs.length x'.vc, .slice x'.tA x'.ts.length x'.tc, .slice x'.pA x'.ps.length x'.pc, .slice x'.dA x'.ds.length x'.dc] 29) = t := ⟨_, rfl⟩
  rw [ht] at HS8 HB8
  rw [ht]
  clear ht
  have HO9 := Lib.hid (show P.OwnS 5 .u8 (t2.alloc (.cells #[] 5)) t2.heap.size (.slice (some ⟨t2.heap.size, 0, none⟩) 0 0) [] from P.own_empty 5 t2)
  have HB9 := Lib.hid (new_below t2 (.cells #[] 5))
  have HS9 := Lib.hid (HS8.out.below HB9.out)
  have hbsl : bs.length ≤ 65536 := by omega
  go_wp2_with (at_builtin; first
    | (refine P.wpList_append_sl _ rfl _ _ 30 rfl t2.heap.size 5 i0 (.int .u8 0) 1 Tryz.underlying30 HI.out HZ.out.1 HZ.out.2.1 HZ.out.2.2 rfl .u8 _ [] rfl HO9.out A1 e1 _ bs rfl HS9.out hnil (by simp; omega) (by decide) (by simp) ?_; intro v2 w7 ho2 hb2; have hz2 := hb2.size; obtain ⟨A2, e2, rfl, -, -, -, -⟩ := ho2.sl2)
    | (refine P.wpList_append_sl _ rfl _ _ 30 rfl t2.heap.size 5 i0 (.int .u8 0) 1 Tryz.underlying30 HI.out HZ.out.1 HZ.out.2.1 HZ.out.2.2 rfl .u8 _ bs rfl (ho2.keep (new_below w7 (.cells #[.int .u8 a] 5))) (some ⟨w7.heap.size, 0, none⟩) 1 (w7.heap.size + 1) [a] rfl (P.sl_one w7 a) (fun h => by cases h) (by simp; omega) (by decide) (by simp at hz2; simp; omega) ?_; intro v3 w8 ho3 hb3; obtain ⟨A3, e3, rfl, hc3, -, hsl3, -⟩ := ho3.sl2))
  have hlb : (bs ++ [a]).length = bs.length + 1 := by simp
  have HTc := Lib.hid (take_any A3 e3 (bs ++ [a]) hc3 (by omega) (HBy.out.app fun y hy => by
    obtain rfl : y = a := by simpa using hy
    exact ha) w8 hsl3)
  rw [hlb] at HTc
  unfold TakeA at HTc
  have HB10 := Lib.hid (bstep HB8.out HB8.out.size ((HB9.out.trans (hb2.mono (Nat.le_refl _))).trans (((Below.refl _ _).alloc (by simp at hz2; omega) _).trans hb3)))
  clear ho2 hb2 hb3 ho3 hsl3
  with_reducible refine (HTc.out).mono ?_
  rintro e w9 ⟨x'', err, rfl, hb, -, -, htk⟩
  obtain rfl : err = 10 := congrArg Prod.snd (htk.symm.trans HT2.out)
  have HB11 := Lib.hid (bstep HB10.out HB10.out.size hb)
  have HB12 := Lib.hid (bstep HB11.out HB11.out.size (new_below w9 (.cells #[.int .i64 x''.w, .int .i64 x''.h, .int .u8 x''.k.r, .int .u8 x''.k.g, .int .u8 x''.k.b, .int .u8 x''.k.a, .slice x''.vA x''.vs.length x''.vc, .slice x''.tA x''.ts.length x''.tc, .slice x''.pA x''.ps.length x''.pc, .slice x''.dA x''.ds.length x''.dc] 29)))
  clear hb htk HTc
  go_wp2_with fail
  go_ret
  exact ⟨rfl, HB12.out⟩
end Go.Proofs.YtfmmfaeognoleaaGreat
