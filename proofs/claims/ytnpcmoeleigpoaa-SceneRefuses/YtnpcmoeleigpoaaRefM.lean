/-
  What SceneRefuses makes on the way.
-/
import Derived.Test.YtnpcmoeleigpoaaRowsR
namespace Go.Proofs.Ytnpcmoeleigpoaa
open Go.RowKit

/-- 33 triangles, all the same. -/
def tz : List Tr := List.replicate 33 ⟨0, 0, 0, 0⟩
theorem tz_ok : ∀ t ∈ tz, t.ok := fun t ht => by
  obtain rfl := (List.mem_replicate.1 ht).2
  exact ⟨i64s (by decide) (by decide), i64s (by decide) (by decide), i64s (by decide) (by decide), i64s (by decide) (by decide)⟩
theorem make33 (W : World) : ∃ w', (Instr.makeSlice 40 (.int .i64 33) (.int .i64 33)).run Try.prog W = .ok (.slice (some ⟨W.heap.size, 0, none⟩) 33 33) w' ∧ OwnE ER w' W.heap.size (.slice (some ⟨W.heap.size, 0, none⟩) 33 33) tz ∧ Below W.heap.size W w' := by
  obtain ⟨i0, hi, hz0, hz1, hz2⟩ := info_parts (show (Try.prog.info? ER.t).map (fun i => (i.zero, i.size, i.bytes)) = some (some (.agg (Array.replicate 4 (.int .i64 0))), ER.size, 32) by kernel_rfl)
  obtain ⟨w', hr, ho, hg⟩ := run_make_full (P := Try.prog) W W.heap.size 40 47 i0 _ 4 Try.underlying40 hi hz0 hz1 .i64 .i64 33 (by rw [hz2]; omega) (by unfold maxLen; omega) (Nat.le_refl _)
  refine ⟨w', hr, ?_, (Below.refl _ _).grown hg (Nat.le_refl _) (fun j e => by cases e)⟩
  have e : (madeCells (Value.agg (Array.replicate 4 (.int .i64 0))).cells (33 * 4)).toList = ER.flat tz := by kernel_rfl
  rw [e] at ho
  exact ho
theorem ouB_setk {w : World} {g : Nat} {W H : Int} {k : Col} {v1 v2 v3 v4 : Value} (r y b a : Int) (h : w.heap[g]? = some (ouB W H k v1 v2 v3 v4)) :
    ((((w.setCell ⟨g, 2, none⟩ (.int .u8 r)).setCell ⟨g, 3, none⟩ (.int .u8 y)).setCell ⟨g, 4, none⟩ (.int .u8 b)).setCell ⟨g, 5, none⟩ (.int .u8 a)).heap[g]? = some (ouB W H ⟨r, y, b, a⟩ v1 v2 v3 v4) := by
  unfold ouB at h
  exact Eq.trans (heap_setCell_same _ _ _ _ _ _ (heap_setCell_same _ _ _ _ _ _ (heap_setCell_same _ _ _ _ _ _ (heap_setCell_same _ _ _ _ _ _ h)))) (by simp [ouB])
theorem rf_mk {w w4 t w7 : World} {f : Sc} {k1 k2 k3 gF gT g c : Nat} (hR : FitR w w4 f k1 k2 k3) (hfit : f.p.fit) (hok : f.p.ok) (hfew : f.p.few) (hb : Below w4.heap.size w4 t)
    (hF : t.heap[gF]? = some (scB f)) (hT : t.heap[gT]? = some (.cells #[.int .i64 1, .int .i64 0, .int .i64 0, .int .i64 0] 47 (0, 0))) (aF : w4.heap.size ≤ gF) (aT : w4.heap.size ≤ gT) (nFT : gF ≠ gT)
    (h1 : w7.ownsRow k3 ED.t ED.size (.slice (some ⟨g, 0, none⟩) (f.ds.length + 1) c) (f.ds.length + 1) (ED.flat f.ds ++ ED.flat [⟨d0, some ⟨gT, 0, none⟩, 1⟩]))
    (h2 : t.grownBy w7 (Value.slice f.dA f.ds.length f.dc).ownBlock) (h3 : (Value.slice (some ⟨g, 0, none⟩) (f.ds.length + 1) c).ownBlock = (Value.slice f.dA f.ds.length f.dc).ownBlock ∨ (Value.slice (some ⟨g, 0, none⟩) (f.ds.length + 1) c).ownBlock = some t.heap.size) :
    Rf w.heap.size k1 k2 k3 gF gT g c (w7.setCell ⟨gF, 9, none⟩ (.slice (some ⟨g, 0, none⟩) (f.ds.length + 1) c)) f ∧ Below w.heap.size w (w7.setCell ⟨gF, 9, none⟩ (.slice (some ⟨g, 0, none⟩) (f.ds.length + 1) c)) := by
  have l1 := hR.l1
  have l2 := hR.l2
  have l3 := hR.l3
  have l4 := hR.l4
  have hFt : gF < t.heap.size := (Array.getElem?_eq_some_iff.1 hF).1
  have hTt : gT < t.heap.size := (Array.getElem?_eq_some_iff.1 hT).1
  have hob : ∀ b, (Value.slice f.dA f.ds.length f.dc).ownBlock = some b → k3 ≤ b ∧ b < w4.heap.size := fun b e => ⟨ownE_ge hR.d.own b e, hR.d.blk b e⟩
  have hgo : some g = (Value.slice f.dA f.ds.length f.dc).ownBlock ∨ g = t.heap.size := by
    rcases h3 with e | e
    · exact .inl (by rw [← e]; simp [Value.ownBlock])
    · exact .inr (by simpa [Value.ownBlock] using e)
  have hg3 : k3 ≤ g ∧ g ≠ gF ∧ g ≠ gT := by
    have := hb.size
    rcases hgo with e | e
    · have := hob g e.symm
      omega
    · omega
  have oM : Om (fun b => (Value.slice f.dA f.ds.length f.dc).ownBlock = some b) t w7 := (om_refl _ _).grown h2 fun r e => .inl e
  have oZ : Om (fun b => (Value.slice f.dA f.ds.length f.dc).ownBlock = some b ∨ b = gF) t (w7.setCell ⟨gF, 9, none⟩ (.slice (some ⟨g, 0, none⟩) (f.ds.length + 1) c)) := Om.set ⟨oM.1, fun b h1 h2 => oM.2 b h1 fun e => h2 (.inl e)⟩ (.inl (.inr rfl))
  have noM : ∀ b, b < k3 → ¬ ((Value.slice f.dA f.ds.length f.dc).ownBlock = some b ∨ b = gF) := fun b hb e => e.elim (fun e => by have := hob b e; omega) (fun e => by omega)
  have hF7 : w7.heap[gF]? = some (scB f) := oM.blk hF fun e => by have := hob gF e; omega
  refine ⟨⟨l1, l2, l3, by omega, by omega, hg3.1, nFT, fun e => hg3.2.1 e.symm, fun e => hg3.2.2 e.symm, ?_, hR.vb, ?_, ?_, ?_, ?_, hR.d.cap, ?_, ?_, hfit, hok, hfew⟩, ?_⟩
  · exact own_om (hR.v.keep hb) oZ fun b e => noM b (by have := hR.vb b e; omega)
  · exact ⟨own_om (hR.t.own.keep hb) oZ fun b e => noM b (by have := hR.t.blk b e; omega), hR.t.blk, fun l hl => esP_om ((hR.t.els l hl).keep fun b _ hl => hb.block b hl) oZ fun b hb => noM b (by omega), hR.t.cap⟩
  · exact ⟨own_om (hR.p.own.keep hb) oZ fun b e => noM b (by have := hR.p.blk b e; omega), hR.p.blk, fun l hl => esP_om ((hR.p.els l hl).keep fun b _ hl => hb.block b hl) oZ fun b hb => noM b (by omega), hR.p.cap⟩
  · refine own_om (M := fun b => b = gF) (X := w7) ?_ (Om.set (om_refl _ _) (.inl rfl)) fun b e => ?_
    · unfold OwnE
      rw [List.length_append, Elem.flat_append]
      exact h1
    · have : g = b := by simpa [Value.ownBlock] using e
      omega
  · intro l hl
    have e1 := (hR.d.els l hl).imp (q := fun b => k3 ≤ b ∧ b < w4.heap.size ∧ (Value.slice f.dA f.ds.length f.dc).ownBlock ≠ some b) fun b hb _ => hb
    have e2 := e1.keep (w' := t) fun b _ hl => hb.block b hl
    refine (esP_om e2 oZ fun b hb e => e.elim hb.2.2 (fun e => by omega)).imp fun b hb _ => ⟨hb.1, by omega, by omega, fun e => ?_⟩
    subst e
    have := hob
    rcases hgo with e | e
    · exact hb.2.2 e.symm
    · have hs : w4.heap.size ≤ t.heap.size := by have := hFt; omega
      omega
  · exact ouB_set9 _ hF7
  · exact oZ.blk hT fun e => e.elim (fun e => by have := hob gT e; omega) (fun e => nFT e.symm)
  · refine Below.setCell ((hR.b.trans (hb.mono (by omega))).grown h2 ?_ fun j e => ?_) (by show w.heap.size ≤ gF; omega) _
    · have := hb.size
      omega
    · have := hob j e
      omega
section
variable {lo h1 h2 h3 gF gT g c g2 c2 : Nat} {X w7 : World} {f : Sc}
theorem own_set_ne {α : Type} {E : Elem α} {base n c o : Nat} {u : Value} {xs : List α} (h : OwnE E X base (.slice (some ⟨g, 0, none⟩) n c) xs) (hne : g ≠ gF) : OwnE E (X.setCell ⟨gF, o, none⟩ u) base (.slice (some ⟨g, 0, none⟩) n c) xs :=
  own_om h (Om.set (om_refl (fun b => b = gF) _) (.inl rfl)) fun b e => by
    have : g = b := by simpa [Value.ownBlock] using e
    omega
theorem slice_own {n c : Nat} {g : Nat} {v : Option Nat} (h : (Value.slice (some ⟨g, 0, none⟩) n c).ownBlock = v) : v = some g := by
  rw [← h]
  simp [Value.ownBlock]
/-- The vertex of no numbers. -/
def v0 : U.V := ⟨0, 0, 0, 0, 0, 0, 0, 0⟩
def vB0 : Obj := .cells #[.int .i64 0, .int .i64 0, .int .i64 0, .int .i64 0, .int .i64 0, .int .i64 0, .int .i64 0, .int .i64 0] 50
theorem Rf.w3 (h : Rf lo h1 h2 h3 gF gT g c X f)
    (k1 : w7.ownsRow lo EV.t EV.size (.slice (some ⟨g2, 0, none⟩) (f.vs.length + 1) c2) (f.vs.length + 1) (EV.flat f.vs ++ EV.flat [v0])) (k2 : (X.alloc vB0).grownBy w7 (Value.slice f.vA f.vs.length f.vc).ownBlock)
    (k3 : (Value.slice (some ⟨g2, 0, none⟩) (f.vs.length + 1) c2).ownBlock = (Value.slice f.vA f.vs.length f.vc).ownBlock ∨ (Value.slice (some ⟨g2, 0, none⟩) (f.vs.length + 1) c2).ownBlock = some (X.alloc vB0).heap.size) :
    Good (w7.setCell ⟨gF, 6, none⟩ (.slice (some ⟨g2, 0, none⟩) (f.vs.length + 1) c2)) gF 21 ∧ w7.heap[gF]? = some (ouB f.w f.h f.k (.slice f.vA f.vs.length f.vc) (.slice f.tA f.ts.length f.tc) (.slice f.pA f.ps.length f.pc) (.slice (some ⟨g, 0, none⟩) (f.ds.length + 1) c)) := by
  have l1 := h.l1
  have l2 := h.l2
  have l3 := h.l3
  have aF := h.aF
  have hFX : gF < X.heap.size := (Array.getElem?_eq_some_iff.1 h.F).1
  have o7 : Om (fun b => b < h1) X w7 := (Om.alloc (om_refl _ _) vB0).grown k2 fun r e => .inl (h.vb r e)
  have F7 := o7.blk h.F (by omega)
  have hne : g2 ≠ gF := by
    rcases k3 with e | e
    · have := h.vb g2 (slice_own e)
      omega
    · have := slice_own e
      simp only [World.size_alloc] at this
      have : X.heap.size + 1 = g2 := by simpa using this
      omega
  refine ⟨h.vert v0 (some ⟨g2, 0, none⟩) c2 21 (Om.set (o7.weak fun b hb => .inl hb) (.inl (.inr rfl))) (ouB_set6 _ F7) (own_set_ne ?_ hne) ?_ (ref3 (fit_head h.fit) (by have := h.fit.v; omega) (fit_len h.fit) (fit_32 h.fit (by decide)) (by decide)), F7⟩
  · unfold OwnE
    rw [List.length_append, Elem.flat_append]
    exact k1
  · constructor <;> exact i64s (by decide) (by decide)
/-- The picture of no colours. -/
def x0 : Lo Tx := ⟨⟨1, 1, []⟩, none, 0⟩
def xB0 : Obj := .cells #[.int .i64 1, .int .i64 1, .slice none 0 0] 53
theorem Rf.w4 (h : Rf lo h1 h2 h3 gF gT g c X f)
    (k1 : w7.ownsRow h1 ET.t ET.size (.slice (some ⟨g2, 0, none⟩) (f.ts.length + 1) c2) (f.ts.length + 1) (ET.flat f.ts ++ ET.flat [x0])) (k2 : (X.alloc xB0).grownBy w7 (Value.slice f.tA f.ts.length f.tc).ownBlock)
    (k3 : (Value.slice (some ⟨g2, 0, none⟩) (f.ts.length + 1) c2).ownBlock = (Value.slice f.tA f.ts.length f.tc).ownBlock ∨ (Value.slice (some ⟨g2, 0, none⟩) (f.ts.length + 1) c2).ownBlock = some (X.alloc xB0).heap.size) :
    Good (w7.setCell ⟨gF, 7, none⟩ (.slice (some ⟨g2, 0, none⟩) (f.ts.length + 1) c2)) gF 22 ∧ w7.heap[gF]? = some (ouB f.w f.h f.k (.slice f.vA f.vs.length f.vc) (.slice f.tA f.ts.length f.tc) (.slice f.pA f.ps.length f.pc) (.slice (some ⟨g, 0, none⟩) (f.ds.length + 1) c)) := by
  have l1 := h.l1
  have l2 := h.l2
  have l3 := h.l3
  have aF := h.aF
  have hFX : gF < X.heap.size := (Array.getElem?_eq_some_iff.1 h.F).1
  have hob : ∀ b, (Value.slice f.tA f.ts.length f.tc).ownBlock = some b → h1 ≤ b ∧ b < h2 := fun b e => ⟨ownE_ge h.t.own b e, h.t.blk b e⟩
  have o6 : Om (fun b => (Value.slice f.tA f.ts.length f.tc).ownBlock = some b) X w7 := (Om.alloc (om_refl _ _) xB0).grown k2 fun r e => .inl e
  have o7 : Om (fun b => h1 ≤ b ∧ b < h2) X w7 := o6.weak hob
  have F7 := o7.blk h.F (by omega)
  have hne : g2 ≠ gF := by
    rcases k3 with e | e
    · have := hob g2 (slice_own e)
      omega
    · have := slice_own e
      simp only [World.size_alloc] at this
      have : X.heap.size + 1 = g2 := by simpa using this
      omega
  have oZ : Om (fun b => (Value.slice f.tA f.ts.length f.tc).ownBlock = some b ∨ b = gF) X (w7.setCell ⟨gF, 7, none⟩ (.slice (some ⟨g2, 0, none⟩) (f.ts.length + 1) c2)) := Om.set (o6.weak fun b hb => .inl hb) (.inl (.inr rfl))
  refine ⟨h.tex x0 (some ⟨g2, 0, none⟩) c2 22 (Om.set (o7.weak fun b hb => .inl hb) (.inl (.inr rfl))) (ouB_set7 _ F7) (own_set_ne ?_ hne) ?_ ?_ ⟨i64s (by decide) (by decide), i64s (by decide) (by decide), fun c hc => (by cases hc)⟩ (Nat.zero_le _) (ref4 (fit_head h.fit) (by have := h.fit.t; omega) (fit_len h.fit) (fit_32 h.fit (by decide)) (by decide)), F7⟩
  · unfold OwnE
    rw [List.length_append, Elem.flat_append]
    exact k1
  · intro l hl
    rcases List.mem_append.1 hl with hl | hl
    · exact esP_sz (esP_om (h.t.els l hl) oZ fun b hb e => e.elim hb.2.2 (fun e => by omega))
    · obtain rfl : l = x0 := by simpa using hl
      exact Es.none_
  · intro l hl
    rcases List.mem_append.1 hl with hl | hl
    · exact h.t.cap l hl
    · obtain rfl : l = x0 := by simpa using hl
      exact Nat.le_refl _
/-- The programs' row is there. -/
theorem Rf.pa (h : Rf lo h1 h2 h3 gF gT g c X f) : ∃ gP, f.pA = some ⟨gP, 0, none⟩ ∧ h2 ≤ gP ∧ gP < h3 := by
  have hq := h.fit.q
  have hl : f.p.ps.length = f.ps.length := List.length_map _
  obtain ⟨gP, cP, e, e1, -⟩ := ownE_at0 h.p.own (fun e => by rw [e] at hl; simp only [List.length_nil] at hl; omega)
  have e2 : f.pA = some ⟨gP, 0, none⟩ := by injection e
  exact ⟨gP, e2, e1, h.p.blk gP (by rw [e2]; simp [Value.ownBlock])⟩
theorem Rf.w5 (h : Rf lo h1 h2 h3 gF gT g c X f) {gP : Nat} (e : f.pA = some ⟨gP, 0, none⟩) (e1 : h2 ≤ gP) (e2 : gP < h3) : Good (X.setCell ⟨gP, 0, none⟩ (.slice none 0 0)) gF 23 := by
  have hq := h.fit.q
  have hl : f.p.ps.length = f.ps.length := List.length_map _
  obtain ⟨u, hu⟩ := get_lt (l := f.ps) (k := 0) (by omega)
  have ho := h.p.own
  rw [e] at ho
  have hs := ownE_set (u' := (⟨[], none, 0⟩ : Lo (List C.In))) (x := .slice none 0 0) (r := 0) ho hu (by decide) rfl
  refine h.code 23 (Om.set (om_refl _ _) (.inl ⟨e1, e2⟩)) (by rw [e]; simpa using hs) (fun l hl => ?_) (ref5 (fit_head h.fit) (by omega) (fit_len h.fit) (fit_32 h.fit (by decide)))
  refine esP_sz (esP_om (h.p.els l hl) (Om.set (om_refl (fun b => b = gP) _) (.inl rfl)) fun b hb eb => hb.2.2 ?_)
  rw [e, eb]
  simp [Value.ownBlock]
/-- A number of the last draw is told otherwise. -/
theorem Rf.wn (h : Rf lo h1 h2 h3 gF gT g c X f) (r : Nat) (v : Int) (id prog tex : Int) (hr : r < 5) (k : Int)
    (e : [Value.int .i64 id, .int .i64 prog, .int .i64 tex, .bool false, .slice (some ⟨gT, 0, none⟩) 1 1] = [Value.int .i64 9999, .int .i64 0, .int .i64 (-1), .bool false, .slice (some ⟨gT, 0, none⟩) 1 1].set r (.int .i64 v))
    (h1' : I64 id) (h2' : I64 prog) (h3' : I64 tex) (hk : check (f.p.wd (f.p.ds ++ [⟨id, prog, tex, false, [t0]⟩])) = k) : Good (X.setCell ⟨g, f.ds.length * 5 + r, none⟩ (.int .i64 v)) gF k := by
  have hs := ownE_set (k := f.ds.length) (u := (⟨d0, some ⟨gT, 0, none⟩, 1⟩ : Lo Dr)) (u' := (⟨⟨id, prog, tex, false, [t0]⟩, some ⟨gT, 0, none⟩, 1⟩ : Lo Dr)) (x := .int .i64 v) (r := r) h.d (by rw [List.getElem?_append_right (Nat.le_refl _), Nat.sub_self]; rfl) hr e
  have ho : Om (fun b => b = g) X (X.setCell ⟨g, f.ds.length * 5 + r, none⟩ (.int .i64 v)) := Om.set (om_refl _ _) (.inl rfl)
  exact h.draw ⟨id, prog, tex, false, [t0]⟩ (some ⟨gT, 0, none⟩) 1 k ho hs (tri_es (t := t0) (ho.blk h.T h.nTg)) (Nat.le_refl 1) (by omega) (d_ok h1' h2' h3' t0_ok) hk
theorem len_map_ps (f : Sc) : f.p.ps.length = f.ps.length := List.length_map _
theorem len_map_ts (f : Sc) : f.p.ts.length = f.ts.length := List.length_map _
theorem Rf.w6 (h : Rf lo h1 h2 h3 gF gT g c X f) : Good (X.setCell ⟨g, f.ds.length * 5 + 1, none⟩ (.int .i64 f.ps.length)) gF 24 := by
  have := ref6 h.fit
  have hq := h.fit.q
  rw [len_map_ps] at this hq
  exact h.wn 1 f.ps.length 9999 f.ps.length (-1) (by omega) 24 rfl (i64s (by omega) (by omega)) (i64s (by omega) (by omega)) (i64s (by omega) (by omega)) this
theorem Rf.wt (h : Rf lo h1 h2 h3 gF gT g c X f) : Good (X.setCell ⟨g, f.ds.length * 5 + 2, none⟩ (.int .i64 f.ts.length)) gF 24 := by
  have := ref7 h.fit
  have hq := h.fit.t
  rw [len_map_ts] at this hq
  exact h.wn 2 f.ts.length 9999 0 f.ts.length (by omega) 24 rfl (i64s (by omega) (by omega)) (i64s (by omega) (by omega)) (i64s (by omega) (by omega)) this
theorem Rf.w9 (h : Rf lo h1 h2 h3 gF gT g c X f) : Good (X.setCell ⟨g, f.ds.length * 5, none⟩ (.int .i64 10000)) gF 24 :=
  h.wn 0 10000 10000 0 (-1) (by omega) 24 rfl (i64s (by omega) (by omega)) (i64s (by omega) (by omega)) (i64s (by omega) (by omega)) (ref9 h.fit)
theorem Rf.w8 (h : Rf lo h1 h2 h3 gF gT g c X f) : Good (X.setCell ⟨gT, 3, none⟩ (.int .i64 f.vs.length)) gF 24 := by
  have hv := h.fit.v
  refine h.tri ⟨1, 0, 0, f.vs.length⟩ 24 (Om.set (om_refl _ _) (.inl rfl)) ?_ ⟨i64s (by show -10000 ≤ (1 : Int); omega) (by show (1 : Int) ≤ 10000; omega), i64s (by show -10000 ≤ (0 : Int); omega) (by show (0 : Int) ≤ 10000; omega), i64s (by show -10000 ≤ (0 : Int); omega) (by show (0 : Int) ≤ 10000; omega), i64s (by show -10000 ≤ ((f.vs.length : Nat) : Int); omega) (by show ((f.vs.length : Nat) : Int) ≤ 10000; have : f.vs.length ≤ 21 := hv.2; omega)⟩ (ref8 h.fit)
  rw [heap_setCell_same _ _ _ _ _ _ h.T]
  simp
/-- 2: 33 triangles. -/
theorem Rf.w2 (h : Rf lo h1 h2 h3 gF gT g c X f) {N : Nat} (o7 : Om (fun _ => False) X w7) (hN : OwnE ER w7 N (.slice (some ⟨N, 0, none⟩) 33 33) tz) (hX : X.heap.size ≤ N) : Good (w7.setCell ⟨g, f.ds.length * 5 + 4, none⟩ (.slice (some ⟨N, 0, none⟩) 33 33)) gF 26 := by
  have hg : g < X.heap.size := by
    obtain ⟨g', c', e, -, e2⟩ := ownE_at0 h.d (by simp)
    have e3 : g = g' := by injection e with e4 _ _; injection e4 with e5; injection e5
    omega
  have hs := ownE_set (k := f.ds.length) (u := (⟨d0, some ⟨gT, 0, none⟩, 1⟩ : Lo Dr)) (u' := (⟨⟨9999, 0, -1, false, tz⟩, some ⟨N, 0, none⟩, 33⟩ : Lo Dr)) (x := .slice (some ⟨N, 0, none⟩) 33 33) (r := 4) (own_om h.d o7 fun _ _ e => e) (by rw [List.getElem?_append_right (Nat.le_refl _), Nat.sub_self]; rfl) (by decide) rfl
  have ho : Om (fun b => b = g) X (w7.setCell ⟨g, f.ds.length * 5 + 4, none⟩ (.slice (some ⟨N, 0, none⟩) 33 33)) := Om.set (o7.weak fun b e => e.elim) (.inl rfl)
  have hN2 := own_set_ne (gF := g) (o := f.ds.length * 5 + 4) (u := .slice (some ⟨N, 0, none⟩) 33 33) hN (by omega)
  refine h.draw ⟨9999, 0, -1, false, tz⟩ (some ⟨N, 0, none⟩) 33 26 ho hs (ownE_es hN2).2.2 (by show tz.length ≤ 33; unfold tz; rw [List.length_replicate]; omega) (by omega) (d_ok (i64s (by decide) (by decide)) (i64s (by decide) (by decide)) (i64s (by decide) (by decide)) tz_ok) (ref2 (fit_head h.fit) (d := ⟨9999, 0, -1, false, tz⟩) (by simp) (by show 32 < tz.length; unfold tz; rw [List.length_replicate]; omega))
theorem Rf.w0 (h : Rf lo h1 h2 h3 gF gT g c X f) : Good (X.setCell ⟨gF, 1, none⟩ (.int .i64 0)) gF 20 :=
  h.head f.w 0 f.k 20 (Om.set (om_refl _ _) (.inl rfl)) (ouB_set1 0 h.F) h.ok.w (i64s (by decide) (by decide)) h.ok.k (ref0 f.p _)
theorem Rf.w1 (h : Rf lo h1 h2 h3 gF gT g c X f) : Good ((((X.setCell ⟨gF, 2, none⟩ (.int .u8 2)).setCell ⟨gF, 3, none⟩ (.int .u8 0)).setCell ⟨gF, 4, none⟩ (.int .u8 0)).setCell ⟨gF, 5, none⟩ (.int .u8 1)) gF 1 :=
  h.head f.w f.h ⟨2, 0, 0, 1⟩ 1 (Om.set (Om.set (Om.set (Om.set (om_refl _ _) (.inl rfl)) (.inl rfl)) (.inl rfl)) (.inl rfl)) (ouB_setk 2 0 0 1 h.F) h.ok.w h.ok.h (by constructor <;> decide) (ref1 (fit_head h.fit) _)
theorem rf_drew (h : Rf lo h1 h2 h3 gF gT g c X f) : Rf lo h1 h2 h3 gF gT g c X.drew f :=
  ⟨h.l1, h.l2, h.l3, h.aF, h.aT, h.ag, h.nFT, h.nFg, h.nTg, own_om h.v (om_drew (fun _ => False) X) (fun _ _ e => e), h.vb, ⟨own_om h.t.own (om_drew (fun _ => False) X) (fun _ _ e => e), h.t.blk, fun l hl => esP_om (h.t.els l hl) (om_drew (fun _ => False) X) (fun _ _ e => e), h.t.cap⟩, ⟨own_om h.p.own (om_drew (fun _ => False) X) (fun _ _ e => e), h.p.blk, fun l hl => esP_om (h.p.els l hl) (om_drew (fun _ => False) X) (fun _ _ e => e), h.p.cap⟩, own_om h.d (om_drew (fun _ => False) X) (fun _ _ e => e), fun l hl => esP_om (h.de l hl) (om_drew (fun _ => False) X) (fun _ _ e => e), h.dc, h.F, h.T, h.fit, h.ok, h.few⟩
end
end Go.Proofs.Ytnpcmoeleigpoaa
