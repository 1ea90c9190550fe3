/-
  The reference's reader: a scene.
-/
import Derived.Test.YtfmmfaeognoleaaGreatM11
namespace Go.Proofs.YtfmmfaeognoleaaGreat
open Go.RowKit
attribute [local go_sem ↓] Go.wp_at_zero Go.wp_at_succ

/-- Block w.heap.size + 1 holds O, the one before it Z. -/
structure Ra (S : Src) (p : Nat) (w : World) (Z O : Obj) (l : List Int) (W : World) : Prop where
  n : Rn S p w (w.heap.size + 1) O l W
  r : W.heap[w.heap.size]? = some Z
section
variable {S : Src} {p o g : Nat} {w W W' W1 : World} {Z O O' : Obj} {l l' : List Int} {u : Value} {W0 : World} {B B1 : Nat}
theorem Ra.call (h : Ra S p w Z O l W) (hp : p < w.heap.size) (hr : Nm S W' p l') (hb : But p W W') : Ra S p w Z O l' W' :=
  ⟨h.n.call (by omega) hr hb, (hb.block (Array.getElem?_eq_some_iff.1 h.r).1 (by omega)).trans h.r⟩
theorem Ra.set {cs : Array Value} {T : TypeId} (h : Ra S p w Z (.cells cs T) l W) (hp : p < w.heap.size) : Ra S p w Z (.cells (cs.setIfInBounds o u) T) l (W.setCell ⟨w.heap.size + 1, o, none⟩ u) :=
  ⟨h.n.set hp (Nat.le_succ _), (heap_setCell_other _ _ _ _ (by simp)).trans h.r⟩
theorem Ra.cast (h : Ra S p w Z O l W) (e : O = O') : Ra S p w Z O' l W := e ▸ h
theorem Ra.cell {cs : Array Value} {T : TypeId} (h : Ra S p w Z (.cells cs T) l W) (o : Nat) : W.cell? ⟨w.heap.size + 1, o, none⟩ = cs[o]? := cell_of_row W _ o cs T (0, 0) h.n.g
theorem Ra.free {cs : Array Value} {T : TypeId} (h : Ra S p w Z (.cells cs T) l W) (o : Nat) : W.frozen? ⟨w.heap.size + 1, o, none⟩ = false := by simp [World.frozen?, h.n.g]
theorem Ra.lp (h : Ra S p w Z O l W) (hp : p < w.heap.size) (hB : W.heap.size = B) : Lp S p w W B (w.heap.size + 1) O l W := h.n.lp hp (Nat.le_succ _) hB
/-- A loop's end. -/
theorem Lp.ra (h : Lp S p w W0 B (w.heap.size + 1) O l W) (hz : W0.heap[w.heap.size]? = some Z) : Ra S p w Z O l W :=
  ⟨h.r, (h.stay (Array.getElem?_eq_some_iff.1 hz).1 (by have := h.hp; omega) (by omega)).trans hz⟩
theorem Om.trans {M : Nat → Prop} {a b c : World} (h : Om M a b) (k : Om M b c) : Om M a c := ⟨Nat.le_trans h.1 k.1, fun i h1 h2 => (k.2 i (Nat.lt_of_lt_of_le h1 h.1) h2).trans (h.2 i h1 h2)⟩
theorem Lp.join (h : Lp S p w W0 B g O l W1) (k : Lp S p w W1 B1 g O' l' W) : Lp S p w W0 B g O' l' W :=
  ⟨h.hp, h.hg, h.h0, h.hB, h.gB, Nat.le_trans h.z k.m.1, k.r, h.m.trans k.m⟩
/-- A scene whose rows lie above both blocks: they stay in a loop. -/
theorem Lp.on {x : Sc} (h : Lp S p w W0 B (w.heap.size + 1) O l W) (hx : x.on W0 (fun b => w.heap.size + 2 ≤ b)) : x.on W (fun b => w.heap.size + 2 ≤ b) :=
  hx.keep fun b hb hlt => h.stay hlt (by have := h.hp; omega) (by omega)
theorem But.on {x : Sc} {k : Nat} (h : But p W W') (hp : p < k) (hx : x.on W (fun b => k ≤ b)) : x.on W' (fun b => k ≤ b) := hx.keep fun b hb hlt => h.block hlt (by omega)
theorem Sc.on.v0 {x : Sc} {P : Nat → Prop} {A : Option Addr} {c : Nat} {vs : List U.V} (h : x.on W P) (e : EsP EV W P A vs) : ({ x with vs := vs, vA := A, vc := c } : Sc).on W P := ⟨e, h.t, h.tx, h.p, h.px, h.d, h.dx⟩
theorem Sc.on.t0 {x : Sc} {P : Nat → Prop} {A : Option Addr} {c : Nat} {ts : List (Lo Tx)} (h : x.on W P) (e : EsP ET W P A ts) (f : ∀ u ∈ ts, EsP EC W P u.A (Tx.px u.x)) : ({ x with ts := ts, tA := A, tc := c } : Sc).on W P := ⟨h.v, e, f, h.p, h.px, h.d, h.dx⟩
theorem Sc.on.p0 {x : Sc} {P : Nat → Prop} {A : Option Addr} {c : Nat} {ps : List (Lo (List C.In))} (h : x.on W P) (e : EsP EP W P A ps) (f : ∀ u ∈ ps, EsP C.EI W P u.A (id u.x)) : ({ x with ps := ps, pA := A, pc := c } : Sc).on W P := ⟨h.v, h.t, h.tx, e, f, h.d, h.dx⟩
theorem Sc.on.d0 {x : Sc} {P : Nat → Prop} {A : Option Addr} {c : Nat} {ds : List (Lo Dr)} (h : x.on W P) (e : EsP ED W P A ds) (f : ∀ u ∈ ds, EsP ER W P u.A (Dr.tris u.x)) : ({ x with ds := ds, dA := A, dc := c } : Sc).on W P := ⟨h.v, h.t, h.tx, h.p, h.px, e, f⟩
theorem OwnN.toP {α β : Type} {E : Elem (Lo α)} {F : Elem β} {inn : α → List β} {ls : List (Lo α)} {A : Option Addr} {n c k : Nat} (h : OwnN E F inn W B (.slice A n c) ls) (hk : k ≤ B) : EsP E W (fun b => k ≤ b) A ls ∧ (∀ u ∈ ls, EsP F W (fun b => k ≤ b) u.A (inn u.x)) ∧ ls.length ≤ c ∧ ∀ u ∈ ls, (inn u.x).length ≤ u.c :=
  ⟨h.own.toP.imp fun _ hb _ => Nat.le_trans hk hb, fun u hu => (h.els u hu).imp fun _ hb _ => Nat.le_trans hk hb.1, (ownE_es h.own).2.1, h.cap⟩
theorem Nm.other (h : Nm S W p l) (hp : p < w.heap.size) (hB : Below w.heap.size W W') (hO : ∀ k, k ≠ w.heap.size → W'.heap[k]? = W.heap[k]?) : Nm S W' p l := by
  obtain ⟨k, h1, h2, h3, h4⟩ := h
  exact ⟨k, h1, (hO p (by omega)).trans h2, h3.below (hB.mono (by omega)), h4⟩
theorem But.other (h : But p w W) (hp : p < w.heap.size) (hB : Below w.heap.size W W') (hO : ∀ k, k ≠ w.heap.size → W'.heap[k]? = W.heap[k]?) : But p w W' :=
  ⟨h.b.trans (hB.mono (by omega)), fun b h1 h2 => (hO b (by omega)).trans (h.f b h1 h2)⟩
end
/-- What the reader tells of a scene. -/
def NRS (S : Src) (p : Nat) (q : PS) (t : List Int) (w : World) (e : Ending) (w' : World) : Prop := ∃ x : Sc, e = .returned (.agg #[.int .i64 x.w, .int .i64 x.h, .int .u8 x.k.r, .int .u8 x.k.g, .int .u8 x.k.b, .int .u8 x.k.a, .slice x.vA x.vs.length x.vc, .slice x.tA x.ts.length x.tc, .slice x.pA x.ps.length x.pc, .slice x.dA x.ds.length x.dc]) ∧ x.p = q ∧ x.on w' (fun b => w.heap.size ≤ b) ∧ x.cap ∧ Nm S w' p t ∧ But p w w'
set_option maxRecDepth 100000 in
set_option maxHeartbeats 16000000 in
theorem nscene_any {S : Src} (hS : S.L.length ≤ 100000) {p : Nat} {l : List Int} (w : World) (h : Nm S w p l) :
    Calls Tryz.prog 20 #[.pointer (some ⟨p, 0, none⟩)] w (NRS S p (nScn S.L.length l).1 (nScn S.L.length l).2 w) := by
  obtain ⟨RV⟩ := rowV
  obtain ⟨RT⟩ := rowT
  obtain ⟨RC⟩ := rowC
  obtain ⟨RP⟩ := rowP
  obtain ⟨RI⟩ := rowI
  obtain ⟨RD⟩ := rowD
  have hp := h.lt
  obtain ⟨sW, t1, e1⟩ : ∃ x t, nNum l = (x, t) := ⟨_, _, rfl⟩
  obtain ⟨sH, t2, e2⟩ : ∃ x t, nNum t1 = (x, t) := ⟨_, _, rfl⟩
  obtain ⟨sK, t3, e3⟩ : ∃ x t, nCol t2 = (x, t) := ⟨_, _, rfl⟩
  obtain ⟨n4, t4, emV⟩ : ∃ n t, nMany S.L.length t3 = (n, t) := ⟨_, _, rfl⟩
  have hNV : n4 ≤ 100000 := by
    have h1 : min (nNum t3).1 (S.L.length : Int) = n4 := congrArg Prod.fst emV
    omega
  obtain ⟨kV, hkV⟩ : ∃ k, n4.toNat = k := ⟨_, rfl⟩
  obtain ⟨xV, tV, eXV⟩ : ∃ x r, nRep nVec kV t4 = (x, r) := ⟨_, _, rfl⟩
  have hV : nList S.L.length nVec t3 = (xV, tV) := by
    unfold nList
    rw [emV]
    show nRep nVec n4.toNat t4 = _
    rw [hkV, eXV]
  have HV := Lib.hid (show ∀ j, nRep nVec (j + 1) t4 = ((nRep nVec j t4).1 ++ [(nVec (nRep nVec j t4).2).1], (nVec (nRep nVec j t4).2).2) from fun j => rfl)
  have HVL := Lib.hid (show ∀ j, (nRep nVec j t4).1.length = j from fun j => nrep_len j t4)
  have HV0 := Lib.hid (show nRep nVec 0 t4 = ([], t4) from rfl)
  have HVk := Lib.hid eXV
  have HMV := Lib.hid emV
  obtain ⟨V, hY⟩ : ∃ V : Nat → List (U.V) × List Int, (fun j => nRep nVec j t4) = V := ⟨_, rfl⟩
  have hYj : ∀ j, nRep nVec j t4 = V j := fun j => congrFun hY j
  simp only [hYj] at HV HVL HV0 HVk
  clear hY hYj eXV emV
  obtain ⟨n5, t5, emT⟩ : ∃ n t, nMany S.L.length tV = (n, t) := ⟨_, _, rfl⟩
  have hNT : n5 ≤ 100000 := by
    have h1 : min (nNum tV).1 (S.L.length : Int) = n5 := congrArg Prod.fst emT
    omega
  obtain ⟨kT, hkT⟩ : ∃ k, n5.toNat = k := ⟨_, rfl⟩
  obtain ⟨xT, tT, eXT⟩ : ∃ x r, nRep (nTex S.L.length) kT t5 = (x, r) := ⟨_, _, rfl⟩
  have hT : nList S.L.length (nTex S.L.length) tV = (xT, tT) := by
    unfold nList
    rw [emT]
    show nRep (nTex S.L.length) n5.toNat t5 = _
    rw [hkT, eXT]
  have HT := Lib.hid (show ∀ j, nRep (nTex S.L.length) (j + 1) t5 = ((nRep (nTex S.L.length) j t5).1 ++ [((nTex S.L.length) (nRep (nTex S.L.length) j t5).2).1], ((nTex S.L.length) (nRep (nTex S.L.length) j t5).2).2) from fun j => rfl)
  have HTL := Lib.hid (show ∀ j, (nRep (nTex S.L.length) j t5).1.length = j from fun j => nrep_len j t5)
  have HT0 := Lib.hid (show nRep (nTex S.L.length) 0 t5 = ([], t5) from rfl)
  have HTk := Lib.hid eXT
  have HMT := Lib.hid emT
  obtain ⟨T, hY⟩ : ∃ T : Nat → List (Tx) × List Int, (fun j => nRep (nTex S.L.length) j t5) = T := ⟨_, rfl⟩
  have hYj : ∀ j, nRep (nTex S.L.length) j t5 = T j := fun j => congrFun hY j
  simp only [hYj] at HT HTL HT0 HTk
  clear hY hYj eXT emT
  obtain ⟨n6, t6, emP⟩ : ∃ n t, nMany S.L.length tT = (n, t) := ⟨_, _, rfl⟩
  have hNP : n6 ≤ 100000 := by
    have h1 : min (nNum tT).1 (S.L.length : Int) = n6 := congrArg Prod.fst emP
    omega
  obtain ⟨kP, hkP⟩ : ∃ k, n6.toNat = k := ⟨_, rfl⟩
  obtain ⟨xP, tP, eXP⟩ : ∃ x r, nRep (nPrg S.L.length) kP t6 = (x, r) := ⟨_, _, rfl⟩
  have hP : nList S.L.length (nPrg S.L.length) tT = (xP, tP) := by
    unfold nList
    rw [emP]
    show nRep (nPrg S.L.length) n6.toNat t6 = _
    rw [hkP, eXP]
  have HP := Lib.hid (show ∀ j, nRep (nPrg S.L.length) (j + 1) t6 = ((nRep (nPrg S.L.length) j t6).1 ++ [((nPrg S.L.length) (nRep (nPrg S.L.length) j t6).2).1], ((nPrg S.L.length) (nRep (nPrg S.L.length) j t6).2).2) from fun j => rfl)
  have HPL := Lib.hid (show ∀ j, (nRep (nPrg S.L.length) j t6).1.length = j from fun j => nrep_len j t6)
  have HP0 := Lib.hid (show nRep (nPrg S.L.length) 0 t6 = ([], t6) from rfl)
  have HPk := Lib.hid eXP
  have HMP := Lib.hid emP
  obtain ⟨P, hY⟩ : ∃ P : Nat → List (List C.In) × List Int, (fun j => nRep (nPrg S.L.length) j t6) = P := ⟨_, rfl⟩
  have hYj : ∀ j, nRep (nPrg S.L.length) j t6 = P j := fun j => congrFun hY j
  simp only [hYj] at HP HPL HP0 HPk
  clear hY hYj eXP emP
  obtain ⟨n7, t7, emD⟩ : ∃ n t, nMany S.L.length tP = (n, t) := ⟨_, _, rfl⟩
  have hND : n7 ≤ 100000 := by
    have h1 : min (nNum tP).1 (S.L.length : Int) = n7 := congrArg Prod.fst emD
    omega
  obtain ⟨kD, hkD⟩ : ∃ k, n7.toNat = k := ⟨_, rfl⟩
  obtain ⟨xD, tD, eXD⟩ : ∃ x r, nRep (nDrw S.L.length) kD t7 = (x, r) := ⟨_, _, rfl⟩
  have hD : nList S.L.length (nDrw S.L.length) tP = (xD, tD) := by
    unfold nList
    rw [emD]
    show nRep (nDrw S.L.length) n7.toNat t7 = _
    rw [hkD, eXD]
  have HD := Lib.hid (show ∀ j, nRep (nDrw S.L.length) (j + 1) t7 = ((nRep (nDrw S.L.length) j t7).1 ++ [((nDrw S.L.length) (nRep (nDrw S.L.length) j t7).2).1], ((nDrw S.L.length) (nRep (nDrw S.L.length) j t7).2).2) from fun j => rfl)
  have HDL := Lib.hid (show ∀ j, (nRep (nDrw S.L.length) j t7).1.length = j from fun j => nrep_len j t7)
  have HD0 := Lib.hid (show nRep (nDrw S.L.length) 0 t7 = ([], t7) from rfl)
  have HDk := Lib.hid eXD
  have HMD := Lib.hid emD
  obtain ⟨D, hY⟩ : ∃ D : Nat → List (Dr) × List Int, (fun j => nRep (nDrw S.L.length) j t7) = D := ⟨_, rfl⟩
  have hYj : ∀ j, nRep (nDrw S.L.length) j t7 = D j := fun j => congrFun hY j
  simp only [hYj] at HD HDL HD0 HDk
  clear hY hYj eXD emD
  have hSc : nScn S.L.length l = (⟨sW, sH, sK, xV, xT, xP, xD⟩, tD) := by
    unfold nScn
    simp only [e1, e2, e3, hV, hT, hP, hD]
  rw [hSc]
  show Calls Tryz.prog 20 #[.pointer (some ⟨p, 0, none⟩)] w (NRS S p ⟨sW, sH, sK, xV, xT, xP, xD⟩ tD w)
  have C1 := Lib.hid (show ∀ w, Nm S w p l → Calls Tryz.prog 55 #[.pointer (some ⟨p, 0, none⟩)] w (NR S p (.int .i64 sW) t1 w) from fun w h => by have h2 := next_any hS w h; rw [e1] at h2; exact h2)
  have C2 := Lib.hid (show ∀ w, Nm S w p t1 → Calls Tryz.prog 55 #[.pointer (some ⟨p, 0, none⟩)] w (NR S p (.int .i64 sH) t2 w) from fun w h => by have h2 := next_any hS w h; rw [e2] at h2; exact h2)
  have C3 := Lib.hid (show ∀ w, Nm S w p t2 → Calls Tryz.prog 56 #[.pointer (some ⟨p, 0, none⟩)] w (NR S p (.agg #[.int .u8 sK.r, .int .u8 sK.g, .int .u8 sK.b, .int .u8 sK.a]) t3 w) from fun w h => by have h2 := ncol_any hS w h; rw [e3] at h2; exact h2)
  have C4 := Lib.hid (show ∀ w, Nm S w p t3 → Calls Tryz.prog 57 #[.pointer (some ⟨p, 0, none⟩)] w (NR S p (.int .i64 n4) t4 w) from fun w h => by have h2 := nmany_any hS w h; rw [HMV.out] at h2; exact h2)
  have C5 := Lib.hid (show ∀ w, Nm S w p tV → Calls Tryz.prog 57 #[.pointer (some ⟨p, 0, none⟩)] w (NR S p (.int .i64 n5) t5 w) from fun w h => by have h2 := nmany_any hS w h; rw [HMT.out] at h2; exact h2)
  have C6 := Lib.hid (show ∀ w, Nm S w p tT → Calls Tryz.prog 57 #[.pointer (some ⟨p, 0, none⟩)] w (NR S p (.int .i64 n6) t6 w) from fun w h => by have h2 := nmany_any hS w h; rw [HMP.out] at h2; exact h2)
  have C7 := Lib.hid (show ∀ w, Nm S w p tP → Calls Tryz.prog 57 #[.pointer (some ⟨p, 0, none⟩)] w (NR S p (.int .i64 n7) t7 w) from fun w h => by have h2 := nmany_any hS w h; rw [HMD.out] at h2; exact h2)
  have H0 := Lib.hid (show Ra S p w (.cells #[.int .i64 0, .int .i64 0, .int .u8 0, .int .u8 0, .int .u8 0, .int .u8 0, .slice none 0 0, .slice none 0 0, .slice none 0 0, .slice none 0 0] 29) (.cells #[.int .i64 0, .int .i64 0, .int .u8 0, .int .u8 0, .int .u8 0, .int .u8 0, .slice none 0 0, .slice none 0 0, .slice none 0 0, .slice none 0 0] 29) l ((w.alloc (.cells #[.int .i64 0, .int .i64 0, .int .u8 0, .int .u8 0, .int .u8 0, .int .u8 0, .slice none 0 0, .slice none 0 0, .slice none 0 0, .slice none 0 0] 29)).alloc (.cells #[.int .i64 0, .int .i64 0, .int .u8 0, .int .u8 0, .int .u8 0, .int .u8 0, .slice none 0 0, .slice none 0 0, .slice none 0 0, .slice none 0 0] 29)) from
    ⟨((⟨h.alloc _, (But.refl p w).alloc hp _, heap_alloc_new _ _⟩ : Rn S p w w.heap.size (.cells #[.int .i64 0, .int .i64 0, .int .u8 0, .int .u8 0, .int .u8 0, .int .u8 0, .slice none 0 0, .slice none 0 0, .slice none 0 0, .slice none 0 0] 29) l (w.alloc (.cells #[.int .i64 0, .int .i64 0, .int .u8 0, .int .u8 0, .int .u8 0, .int .u8 0, .slice none 0 0, .slice none 0 0, .slice none 0 0, .slice none 0 0] 29))).alloc hp _).two (by have h := heap_alloc_new (w.alloc (.cells #[.int .i64 0, .int .i64 0, .int .u8 0, .int .u8 0, .int .u8 0, .int .u8 0, .slice none 0 0, .slice none 0 0, .slice none 0 0, .slice none 0 0] 29)) (.cells #[.int .i64 0, .int .i64 0, .int .u8 0, .int .u8 0, .int .u8 0, .int .u8 0, .slice none 0 0, .slice none 0 0, .slice none 0 0, .slice none 0 0] 29); rwa [World.size_alloc] at h), (heap_alloc_old _ _ (by simp)).trans (heap_alloc_new _ _)⟩)
  clear h hSc e1 e2 e3 hV hT hP hD HMV HMT HMP HMD
  go_enter Tryz.func20, Tryz.ntmps20
  go_wp2_with fail
  with_reducible refine (C1.out _ H0.out.n.n).mono ?_
  rintro e w1 ⟨rfl, hr, hb⟩
  have HC1 := Lib.hid (H0.out.call hp hr hb)
  have c0 : w1.cell? ⟨w.heap.size + 1, 0, none⟩ = some (.int .i64 0) := HC1.out.cell 0
  have f0 := HC1.out.free 0
  have gl1 := HC1.out.n.lt
  have H1 := Lib.hid (show Ra S p w (.cells #[.int .i64 0, .int .i64 0, .int .u8 0, .int .u8 0, .int .u8 0, .int .u8 0, .slice none 0 0, .slice none 0 0, .slice none 0 0, .slice none 0 0] 29) (.cells #[.int .i64 sW, .int .i64 0, .int .u8 0, .int .u8 0, .int .u8 0, .int .u8 0, .slice none 0 0, .slice none 0 0, .slice none 0 0, .slice none 0 0] 29) t1 (w1.setCell ⟨w.heap.size + 1, 0, none⟩ (.int .i64 sW)) from Ra.cast (HC1.out.set hp) (by simp))
  clear hr hb C1 H0 HC1
  go_wp2_with fail
  with_reducible refine (C2.out _ H1.out.n.n).mono ?_
  rintro e w2 ⟨rfl, hr, hb⟩
  have HC2 := Lib.hid (H1.out.call hp hr hb)
  have c1 : w2.cell? ⟨w.heap.size + 1, 1, none⟩ = some (.int .i64 0) := HC2.out.cell 1
  have f1 := HC2.out.free 1
  have gl2 := HC2.out.n.lt
  have H2 := Lib.hid (show Ra S p w (.cells #[.int .i64 0, .int .i64 0, .int .u8 0, .int .u8 0, .int .u8 0, .int .u8 0, .slice none 0 0, .slice none 0 0, .slice none 0 0, .slice none 0 0] 29) (.cells #[.int .i64 sW, .int .i64 sH, .int .u8 0, .int .u8 0, .int .u8 0, .int .u8 0, .slice none 0 0, .slice none 0 0, .slice none 0 0, .slice none 0 0] 29) t2 (w2.setCell ⟨w.heap.size + 1, 1, none⟩ (.int .i64 sH)) from Ra.cast (HC2.out.set hp) (by simp))
  clear hr hb C2 H1 HC2
  go_wp2_with fail
  with_reducible refine (C3.out _ H2.out.n.n).mono ?_
  rintro e w3 ⟨rfl, hr, hb⟩
  have HC3 := Lib.hid (H2.out.call hp hr hb)
  have c2 : w3.cell? ⟨w.heap.size + 1, 2, none⟩ = some (.int .u8 0) := HC3.out.cell 2
  have f2 := HC3.out.free 2
  have c3 : w3.cell? ⟨w.heap.size + 1, 3, none⟩ = some (.int .u8 0) := HC3.out.cell 3
  have f3 := HC3.out.free 3
  have c4 : w3.cell? ⟨w.heap.size + 1, 4, none⟩ = some (.int .u8 0) := HC3.out.cell 4
  have f4 := HC3.out.free 4
  have c5 : w3.cell? ⟨w.heap.size + 1, 5, none⟩ = some (.int .u8 0) := HC3.out.cell 5
  have f5 := HC3.out.free 5
  have gl3 := HC3.out.n.lt
  have H3 := Lib.hid (show Ra S p w (.cells #[.int .i64 0, .int .i64 0, .int .u8 0, .int .u8 0, .int .u8 0, .int .u8 0, .slice none 0 0, .slice none 0 0, .slice none 0 0, .slice none 0 0] 29) (.cells #[.int .i64 sW, .int .i64 sH, .int .u8 sK.r, .int .u8 sK.g, .int .u8 sK.b, .int .u8 sK.a, .slice none 0 0, .slice none 0 0, .slice none 0 0, .slice none 0 0] 29) t3 ((((w3.setCell ⟨w.heap.size + 1, 2, none⟩ (.int .u8 sK.r)).setCell ⟨w.heap.size + 1, 3, none⟩ (.int .u8 sK.g)).setCell ⟨w.heap.size + 1, 4, none⟩ (.int .u8 sK.b)).setCell ⟨w.heap.size + 1, 5, none⟩ (.int .u8 sK.a)) from Ra.cast ((((HC3.out.set hp).set hp).set hp).set hp) (by simp))
  clear hr hb C3 H2 HC3
  have HX0 := Lib.hid (show (⟨sW, sH, sK, [], none, 0, [], none, 0, [], none, 0, [], none, 0⟩ : Sc).on ((((w3.setCell ⟨w.heap.size + 1, 2, none⟩ (.int .u8 sK.r)).setCell ⟨w.heap.size + 1, 3, none⟩ (.int .u8 sK.g)).setCell ⟨w.heap.size + 1, 4, none⟩ (.int .u8 sK.b)).setCell ⟨w.heap.size + 1, 5, none⟩ (.int .u8 sK.a)) (fun b => w.heap.size + 2 ≤ b) from ⟨EsP.nil, EsP.nil, fun l h => (by cases h), EsP.nil, fun l h => (by cases h), EsP.nil, fun l h => (by cases h)⟩)
  go_wp2_with fail
  with_reducible refine (C4.out _ H3.out.n.n).mono ?_
  rintro e w4 ⟨rfl, hr, hb⟩
  have HRa := Lib.hid (H3.out.call hp hr hb)
  have HXw4 := Lib.hid (hb.on (show p < w.heap.size + 2 by omega) HX0.out)
  obtain ⟨B4, hBB4⟩ : ∃ B, w4.heap.size = B := ⟨_, rfl⟩
  have HL0 := Lib.hid (HRa.out.lp hp hBB4)
  have HZw4 := Lib.hid HRa.out.r
  clear hr hb C4 H3 HX0 HRa
  go_wp2_with fail
  go_loopw [5] (fun i wr => ∃ j : Nat, j ≤ kV ∧ i = .int .i64 j ∧ ∃ A c, Lp S p w w4 B4 (w.heap.size + 1) (.cells #[.int .i64 sW, .int .i64 sH, .int .u8 sK.r, .int .u8 sK.g, .int .u8 sK.b, .int .u8 sK.a, .slice A j c, .slice none 0 0, .slice none 0 0, .slice none 0 0] 29) (V j).2 wr ∧ OwnE EV wr B4 (.slice A j c) (V j).1) (fun i _ => kV - (intOf i).toNat)
  case atStart => exact ⟨0, Nat.zero_le _, rfl, none, 0, by rw [HV0.out]; exact HL0.out, by rw [HV0.out]; exact OwnE.nil _ _⟩
  case round =>
    obtain ⟨j, hj, rfl, A6, c6, hL, hO⟩ := hrel
    have HL := Lib.hid hL
    have HO := Lib.hid hO
    clear hL hO HL0 HV0
    by_cases hlt : j < kV
    · have hji : (j : Int) < n4 := by omega
      obtain ⟨x, r2, e2⟩ : ∃ x t, nVec (V j).2 = (x, t) := ⟨_, _, rfl⟩
      have hY1 := HV.out j
      rw [e2] at hY1
      have HY1 := Lib.hid hY1
      clear hY1
      have HC := Lib.hid (show ∀ w, Nm S w p (V j).2 → Calls Tryz.prog 58 #[.pointer (some ⟨p, 0, none⟩)] w (NR S p (.agg #[.int .i64 x.x, .int .i64 x.y, .int .i64 x.z, .int .i64 x.w, .int .i64 x.a, .int .i64 x.b, .int .i64 x.c, .int .i64 x.d]) r2 w) from fun w h => by have h2 := nvec_any hS w h; rw [e2] at h2; exact h2)
      clear e2
      go_upto_region 9 with fail
      have hpw : p < wr.heap.size := HL.out.r.n.lt
      have L_t0 := Lib.hid HL.out.drew
      have O_t0 := Lib.hid (HO.out.keep (w' := wr.drew) (Below.refl _ _).drew)
      clear HL HO
      refine wp_region_held_drew (S := fun w' => Om (fun _ => True) wr w') (by kernel_rfl) (om_drew _ _) (fun hS => ?_)
      have B_t0 := Lib.hid (show But p wr wr.drew from ⟨(Below.refl _ _).drew, fun _ _ _ => rfl⟩)
      have M_t0 := Lib.hid (om_drew (fun _ => True) wr)
      have D_t0 := Lib.hid (show Below wr.heap.size wr wr.drew from (Below.refl _ _).drew)
      generalize wr.drew = t0 at *
      refine wpAnyH_take (i := 0) (v := .pointer (some ⟨w.heap.size + 1, 6, none⟩)) rfl (by kernel_rfl) (by kernel_rfl) (by kernel_rfl) (fun _ _ _ h => h) (Or.inl ⟨by rfl, fun w hw => by go_simp⟩) hS ?_
      try simp only [Act.put, List.setIfInBounds_toArray, List.set_cons_zero, List.set_cons_succ, List.getElem_toArray, List.getElem_cons_zero]
      refine wpAnyH_take (i := 2) (v := .pointer (some ⟨p, 0, none⟩)) rfl (by kernel_rfl) (by kernel_rfl) (by kernel_rfl) (fun _ _ _ h => h) (Or.inl ⟨by rfl, fun w hw => by go_simp⟩) hS ?_
      try simp only [Act.put, List.setIfInBounds_toArray, List.set_cons_zero, List.set_cons_succ, List.getElem_toArray, List.getElem_cons_zero, List.getElem_cons_succ]
      refine wpAnyH_ready (rs := [1, 3]) (by kernel_rfl) (by simp) ?_
      refine AllReadyH.cons rfl (fun K hK => ?_) ?_
      · skip
        have ldc : t0.cell? ⟨w.heap.size + 1, 6, none⟩ = some (.slice A6 j c6) := L_t0.out.cell 6
        have lds : w.heap.size + 1 < t0.heap.size := World.block_lt_of_cell? _ _ ldc
        go_simp
        refine hK.out _ _ M_t0.out (fun hS => ?_)
        clear hK K ldc lds
        try simp only [Act.put, List.setIfInBounds_toArray, List.set_cons_zero, List.set_cons_succ, List.getElem_toArray, List.getElem_cons_zero, List.getElem_cons_succ]
        refine wpAnyH_ready (rs := [3]) (by kernel_rfl) (by simp) ?_
        refine AllReadyH.cons rfl (fun K hK => ?_) AllReadyH.nil
        go_simp
        with_reducible refine (HC.out t0 L_t0.out.r.n).mono ?_
        rintro e t2 ⟨rfl, hr, hb⟩
        have B_t2 := Lib.hid (B_t0.out.trans hb)
        have M_t2 := Lib.hid (M_t0.out.but hb (.inl (trivial)))
        have N_t2 := Lib.hid hb
        have L_t2 := Lib.hid (L_t0.out.call hr hb)
        have O_t2 := Lib.hid (L_t0.out.own O_t0.out hb)
        clear hr
        clear hb
        refine hK.out _ _ M_t2.out (fun hS => ?_)
        clear hK K
        try simp only [Act.put, List.setIfInBounds_toArray, List.set_cons_zero, List.set_cons_succ, List.getElem_toArray, List.getElem_cons_zero, List.getElem_cons_succ]
        refine wpAnyH_ready (rs := [4]) (by kernel_rfl) (by simp) ?_
        refine AllReadyH.cons rfl (fun K hK => ?_) AllReadyH.nil
        go_simp
        refine hK.out _ _ (M_t2.out.alloc _) (fun hS => ?_)
        clear hK K hS
        try simp only [Act.put, List.setIfInBounds_toArray, List.set_cons_zero, List.set_cons_succ, List.getElem_toArray, List.getElem_cons_zero, List.getElem_cons_succ]
        obtain ⟨t3, ht⟩ : ∃ t, t = t2.alloc (.cells #[.int .i64 x.x, .int .i64 x.y, .int .i64 x.z, .int .i64 x.w, .int .i64 x.a, .int .i64 x.b, .int .i64 x.c, .int .i64 x.d] 74) := ⟨_, rfl⟩
        change wpAnyH _ _ _ _ _ _ _ _ (t2.alloc (.cells #[.int .i64 x.x, .int .i64 x.y, .int .i64 x.z, .int .i64 x.w, .int .i64 x.a, .int .i64 x.b, .int .i64 x.c, .int .i64 x.d] 74))
        rw [← ht]
        have B_t3 := Lib.hid (show But p wr t3 by rw [ht]; exact B_t2.out.alloc hpw _)
        have M_t3 := Lib.hid (show Om (fun _ => True) wr t3 by rw [ht]; exact M_t2.out.alloc _)
        have N_t3 := Lib.hid (show Below t2.heap.size t2 t3 by rw [ht]; exact new_below _ _)
        have L_t3 := Lib.hid (show Lp _ _ _ _ _ _ _ _ t3 by rw [ht]; exact L_t2.out.alloc _)
        have O_t3 := Lib.hid (O_t2.out.keep N_t3.out)
        have E_t3 := Lib.hid (es_one (E := EV) (x := x) (cs := #[.int .i64 x.x, .int .i64 x.y, .int .i64 x.z, .int .i64 x.w, .int .i64 x.a, .int .i64 x.b, .int .i64 x.c, .int .i64 x.d]) rfl (show t3.heap[t2.heap.size]? = some (.cells #[.int .i64 x.x, .int .i64 x.y, .int .i64 x.z, .int .i64 x.w, .int .i64 x.a, .int .i64 x.b, .int .i64 x.c, .int .i64 x.d] 74 (0, 0)) by rw [ht]; exact heap_alloc_new _ _))
        have hS := M_t3.out
        clear ht
        refine wpAnyH_ready (rs := [5]) (by kernel_rfl) (by simp) ?_
        refine AllReadyH.cons rfl (fun K hK => ?_) AllReadyH.nil
        rw [if_pos (by rfl)]
        refine opw_fl RV L_t3.out O_t3.out E_t3.out (.tmp 33) (.tmp 36) rfl rfl rfl (by omega) ?_
        intro A' c' w5 hL hO hsz
        have L5 := Lib.hid hL
        have O5 := Lib.hid hO
        have M5 := Lib.hid (om_true M_t3.out hsz)
        have c5 : w5.cell? ⟨w.heap.size + 1, 6, none⟩ = some (.slice A6 j c6) := hL.cell 6
        have f5 := hL.free 6
        have gl5 := hL.lt
        clear hL hO hsz
        refine hK.out _ _ M5.out (fun hS => ?_)
        clear hK K
        try simp only [Act.put, List.setIfInBounds_toArray, List.set_cons_zero, List.set_cons_succ, List.getElem_toArray, List.getElem_cons_zero, List.getElem_cons_succ]
        refine wpAnyH_take (i := 6) (v := .pointer (some ⟨w.heap.size + 1, 6, none⟩)) rfl (by kernel_rfl) (by kernel_rfl) (by kernel_rfl) (fun _ _ _ h => h) (Or.inl ⟨by rfl, fun w hw => by go_simp⟩) hS ?_
        try simp only [Act.put, List.setIfInBounds_toArray, List.set_cons_zero, List.set_cons_succ, List.getElem_toArray, List.getElem_cons_zero, List.getElem_cons_succ]
        refine wpAnyH_ready (rs := [7]) (by kernel_rfl) (by simp) ?_
        refine AllReadyH.cons rfl (fun K hK => ?_) AllReadyH.nil
        go_simp
        refine hK.out _ _ (om_true M5.out (by simp)) (fun hS => ?_)
        clear hK K c5 f5 gl5
        refine wpAnyH_done (by kernel_rfl) ?_ _
        clear hS M5
        go_wp2_with fail
        go_roundw
        case rel => exact ⟨j + 1, by omega, by go_num, A', c', by rw [HY1.out]; exact L5.out.set.cast (by simp), by rw [HY1.out]; exact L5.out.ownS O5.out⟩
        case measure => simp [intOf]; omega
      refine AllReadyH.cons rfl (fun K hK => ?_) ?_
      · skip
        go_simp
        with_reducible refine (HC.out t0 L_t0.out.r.n).mono ?_
        rintro e t4 ⟨rfl, hr, hb⟩
        have B_t4 := Lib.hid (B_t0.out.trans hb)
        have M_t4 := Lib.hid (M_t0.out.but hb (.inl (trivial)))
        have N_t4 := Lib.hid hb
        have L_t4 := Lib.hid (L_t0.out.call hr hb)
        have O_t4 := Lib.hid (L_t0.out.own O_t0.out hb)
        clear hr
        clear hb
        refine hK.out _ _ M_t4.out (fun hS => ?_)
        clear hK K
        try simp only [Act.put, List.setIfInBounds_toArray, List.set_cons_zero, List.set_cons_succ, List.getElem_toArray, List.getElem_cons_zero, List.getElem_cons_succ]
        refine wpAnyH_ready (rs := [1, 4]) (by kernel_rfl) (by simp) ?_
        refine AllReadyH.cons rfl (fun K hK => ?_) ?_
        · skip
          have ldc : t4.cell? ⟨w.heap.size + 1, 6, none⟩ = some (.slice A6 j c6) := L_t4.out.cell 6
          have lds : w.heap.size + 1 < t4.heap.size := World.block_lt_of_cell? _ _ ldc
          go_simp
          refine hK.out _ _ M_t4.out (fun hS => ?_)
          clear hK K ldc lds
          try simp only [Act.put, List.setIfInBounds_toArray, List.set_cons_zero, List.set_cons_succ, List.getElem_toArray, List.getElem_cons_zero, List.getElem_cons_succ]
          refine wpAnyH_ready (rs := [4]) (by kernel_rfl) (by simp) ?_
          refine AllReadyH.cons rfl (fun K hK => ?_) AllReadyH.nil
          go_simp
          refine hK.out _ _ (M_t4.out.alloc _) (fun hS => ?_)
          clear hK K hS
          try simp only [Act.put, List.setIfInBounds_toArray, List.set_cons_zero, List.set_cons_succ, List.getElem_toArray, List.getElem_cons_zero, List.getElem_cons_succ]
          obtain ⟨t6, ht⟩ : ∃ t, t = t4.alloc (.cells #[.int .i64 x.x, .int .i64 x.y, .int .i64 x.z, .int .i64 x.w, .int .i64 x.a, .int .i64 x.b, .int .i64 x.c, .int .i64 x.d] 74) := ⟨_, rfl⟩
          change wpAnyH _ _ _ _ _ _ _ _ (t4.alloc (.cells #[.int .i64 x.x, .int .i64 x.y, .int .i64 x.z, .int .i64 x.w, .int .i64 x.a, .int .i64 x.b, .int .i64 x.c, .int .i64 x.d] 74))
          rw [← ht]
          have B_t6 := Lib.hid (show But p wr t6 by rw [ht]; exact B_t4.out.alloc hpw _)
          have M_t6 := Lib.hid (show Om (fun _ => True) wr t6 by rw [ht]; exact M_t4.out.alloc _)
          have N_t6 := Lib.hid (show Below t4.heap.size t4 t6 by rw [ht]; exact new_below _ _)
          have L_t6 := Lib.hid (show Lp _ _ _ _ _ _ _ _ t6 by rw [ht]; exact L_t4.out.alloc _)
          have O_t6 := Lib.hid (O_t4.out.keep N_t6.out)
          have E_t6 := Lib.hid (es_one (E := EV) (x := x) (cs := #[.int .i64 x.x, .int .i64 x.y, .int .i64 x.z, .int .i64 x.w, .int .i64 x.a, .int .i64 x.b, .int .i64 x.c, .int .i64 x.d]) rfl (show t6.heap[t4.heap.size]? = some (.cells #[.int .i64 x.x, .int .i64 x.y, .int .i64 x.z, .int .i64 x.w, .int .i64 x.a, .int .i64 x.b, .int .i64 x.c, .int .i64 x.d] 74 (0, 0)) by rw [ht]; exact heap_alloc_new _ _))
          have hS := M_t6.out
          clear ht
          refine wpAnyH_ready (rs := [5]) (by kernel_rfl) (by simp) ?_
          refine AllReadyH.cons rfl (fun K hK => ?_) AllReadyH.nil
          rw [if_pos (by rfl)]
          refine opw_fl RV L_t6.out O_t6.out E_t6.out (.tmp 33) (.tmp 36) rfl rfl rfl (by omega) ?_
          intro A' c' w5 hL hO hsz
          have L5 := Lib.hid hL
          have O5 := Lib.hid hO
          have M5 := Lib.hid (om_true M_t6.out hsz)
          have c5 : w5.cell? ⟨w.heap.size + 1, 6, none⟩ = some (.slice A6 j c6) := hL.cell 6
          have f5 := hL.free 6
          have gl5 := hL.lt
          clear hL hO hsz
          refine hK.out _ _ M5.out (fun hS => ?_)
          clear hK K
          try simp only [Act.put, List.setIfInBounds_toArray, List.set_cons_zero, List.set_cons_succ, List.getElem_toArray, List.getElem_cons_zero, List.getElem_cons_succ]
          refine wpAnyH_take (i := 6) (v := .pointer (some ⟨w.heap.size + 1, 6, none⟩)) rfl (by kernel_rfl) (by kernel_rfl) (by kernel_rfl) (fun _ _ _ h => h) (Or.inl ⟨by rfl, fun w hw => by go_simp⟩) hS ?_
          try simp only [Act.put, List.setIfInBounds_toArray, List.set_cons_zero, List.set_cons_succ, List.getElem_toArray, List.getElem_cons_zero, List.getElem_cons_succ]
          refine wpAnyH_ready (rs := [7]) (by kernel_rfl) (by simp) ?_
          refine AllReadyH.cons rfl (fun K hK => ?_) AllReadyH.nil
          go_simp
          refine hK.out _ _ (om_true M5.out (by simp)) (fun hS => ?_)
          clear hK K c5 f5 gl5
          refine wpAnyH_done (by kernel_rfl) ?_ _
          clear hS M5
          go_wp2_with fail
          go_roundw
          case rel => exact ⟨j + 1, by omega, by go_num, A', c', by rw [HY1.out]; exact L5.out.set.cast (by simp), by rw [HY1.out]; exact L5.out.ownS O5.out⟩
          case measure => simp [intOf]; omega
        refine AllReadyH.cons rfl (fun K hK => ?_) ?_
        · skip
          go_simp
          refine hK.out _ _ (M_t4.out.alloc _) (fun hS => ?_)
          clear hK K hS
          try simp only [Act.put, List.setIfInBounds_toArray, List.set_cons_zero, List.set_cons_succ, List.getElem_toArray, List.getElem_cons_zero, List.getElem_cons_succ]
          obtain ⟨t7, ht⟩ : ∃ t, t = t4.alloc (.cells #[.int .i64 x.x, .int .i64 x.y, .int .i64 x.z, .int .i64 x.w, .int .i64 x.a, .int .i64 x.b, .int .i64 x.c, .int .i64 x.d] 74) := ⟨_, rfl⟩
          change wpAnyH _ _ _ _ _ _ _ _ (t4.alloc (.cells #[.int .i64 x.x, .int .i64 x.y, .int .i64 x.z, .int .i64 x.w, .int .i64 x.a, .int .i64 x.b, .int .i64 x.c, .int .i64 x.d] 74))
          rw [← ht]
          have B_t7 := Lib.hid (show But p wr t7 by rw [ht]; exact B_t4.out.alloc hpw _)
          have M_t7 := Lib.hid (show Om (fun _ => True) wr t7 by rw [ht]; exact M_t4.out.alloc _)
          have N_t7 := Lib.hid (show Below t4.heap.size t4 t7 by rw [ht]; exact new_below _ _)
          have L_t7 := Lib.hid (show Lp _ _ _ _ _ _ _ _ t7 by rw [ht]; exact L_t4.out.alloc _)
          have O_t7 := Lib.hid (O_t4.out.keep N_t7.out)
          have E_t7 := Lib.hid (es_one (E := EV) (x := x) (cs := #[.int .i64 x.x, .int .i64 x.y, .int .i64 x.z, .int .i64 x.w, .int .i64 x.a, .int .i64 x.b, .int .i64 x.c, .int .i64 x.d]) rfl (show t7.heap[t4.heap.size]? = some (.cells #[.int .i64 x.x, .int .i64 x.y, .int .i64 x.z, .int .i64 x.w, .int .i64 x.a, .int .i64 x.b, .int .i64 x.c, .int .i64 x.d] 74 (0, 0)) by rw [ht]; exact heap_alloc_new _ _))
          have hS := M_t7.out
          clear ht
          refine wpAnyH_ready (rs := [1]) (by kernel_rfl) (by simp) ?_
          refine AllReadyH.cons rfl (fun K hK => ?_) AllReadyH.nil
          have ldc : t7.cell? ⟨w.heap.size + 1, 6, none⟩ = some (.slice A6 j c6) := L_t7.out.cell 6
          have lds : w.heap.size + 1 < t7.heap.size := World.block_lt_of_cell? _ _ ldc
          go_simp
          refine hK.out _ _ M_t7.out (fun hS => ?_)
          clear hK K ldc lds
          try simp only [Act.put, List.setIfInBounds_toArray, List.set_cons_zero, List.set_cons_succ, List.getElem_toArray, List.getElem_cons_zero, List.getElem_cons_succ]
          refine wpAnyH_ready (rs := [5]) (by kernel_rfl) (by simp) ?_
          refine AllReadyH.cons rfl (fun K hK => ?_) AllReadyH.nil
          rw [if_pos (by rfl)]
          refine opw_fl RV L_t7.out O_t7.out E_t7.out (.tmp 33) (.tmp 36) rfl rfl rfl (by omega) ?_
          intro A' c' w5 hL hO hsz
          have L5 := Lib.hid hL
          have O5 := Lib.hid hO
          have M5 := Lib.hid (om_true M_t7.out hsz)
          have c5 : w5.cell? ⟨w.heap.size + 1, 6, none⟩ = some (.slice A6 j c6) := hL.cell 6
          have f5 := hL.free 6
          have gl5 := hL.lt
          clear hL hO hsz
          refine hK.out _ _ M5.out (fun hS => ?_)
          clear hK K
          try simp only [Act.put, List.setIfInBounds_toArray, List.set_cons_zero, List.set_cons_succ, List.getElem_toArray, List.getElem_cons_zero, List.getElem_cons_succ]
          refine wpAnyH_take (i := 6) (v := .pointer (some ⟨w.heap.size + 1, 6, none⟩)) rfl (by kernel_rfl) (by kernel_rfl) (by kernel_rfl) (fun _ _ _ h => h) (Or.inl ⟨by rfl, fun w hw => by go_simp⟩) hS ?_
          try simp only [Act.put, List.setIfInBounds_toArray, List.set_cons_zero, List.set_cons_succ, List.getElem_toArray, List.getElem_cons_zero, List.getElem_cons_succ]
          refine wpAnyH_ready (rs := [7]) (by kernel_rfl) (by simp) ?_
          refine AllReadyH.cons rfl (fun K hK => ?_) AllReadyH.nil
          go_simp
          refine hK.out _ _ (om_true M5.out (by simp)) (fun hS => ?_)
          clear hK K c5 f5 gl5
          refine wpAnyH_done (by kernel_rfl) ?_ _
          clear hS M5
          go_wp2_with fail
          go_roundw
          case rel => exact ⟨j + 1, by omega, by go_num, A', c', by rw [HY1.out]; exact L5.out.set.cast (by simp), by rw [HY1.out]; exact L5.out.ownS O5.out⟩
          case measure => simp [intOf]; omega
        exact AllReadyH.nil
      exact AllReadyH.nil
    · have hji : ¬ (j : Int) < n4 := by omega
      obtain rfl : j = kV := by omega
      have hlen : xV.length = j := by have h := HVL.out j; rw [HVk.out] at h; exact h
      rw [HVk.out] at HL HO
      obtain rfl : j = xV.length := hlen.symm
      have H5 := Lib.hid (HL.out.ra HZw4.out)
      have HX5 := Lib.hid (show (⟨sW, sH, sK, xV, A6, c6, [], none, 0, [], none, 0, [], none, 0⟩ : Sc).on wr (fun b => w.heap.size + 2 ≤ b) from (HL.out.on HXw4.out).v0 (HO.out.toP.imp fun b hb _ => by have := HL.out.gB; omega))
      have HK5 := Lib.hid (ownE_es HO.out).2.1
      rename World => vw4
      clear HL HO HV HVL HVk HZw4 HXw4 hlen
      go_wp2_with fail
      with_reducible refine (C5.out _ H5.out.n.n).mono ?_
      rintro e w5 ⟨rfl, hr, hb⟩
      have HRa := Lib.hid (H5.out.call hp hr hb)
      have HXw5 := Lib.hid (hb.on (show p < w.heap.size + 2 by omega) HX5.out)
      obtain ⟨B5, hBB5⟩ : ∃ B, w5.heap.size = B := ⟨_, rfl⟩
      have HL0 := Lib.hid (HRa.out.lp hp hBB5)
      have HZw5 := Lib.hid HRa.out.r
      clear hr hb C5 H5 HX5 HRa
      go_wp2_with fail
      go_loopw [6] (fun i wr => ∃ j : Nat, j ≤ kT ∧ i = .int .i64 j ∧ ∃ A c ls, ls.map Lo.x = (T j).1 ∧ Lp S p w w5 B5 (w.heap.size + 1) (.cells #[.int .i64 sW, .int .i64 sH, .int .u8 sK.r, .int .u8 sK.g, .int .u8 sK.b, .int .u8 sK.a, .slice A6 xV.length c6, .slice A j c, .slice none 0 0, .slice none 0 0] 29) (T j).2 wr ∧ OwnN ET EC Tx.px wr B5 (.slice A j c) ls) (fun i _ => kT - (intOf i).toNat)
      case atStart => exact ⟨0, Nat.zero_le _, rfl, none, 0, [], by rw [HT0.out]; rfl, by rw [HT0.out]; exact HL0.out, OwnN.nil _ _⟩
      case round =>
        obtain ⟨j, hj, rfl, A7, c7, l7, hmp, hL, hO⟩ := hrel
        have HL := Lib.hid hL
        have HO := Lib.hid hO
        have HMp := Lib.hid hmp
        clear hL hO hmp HL0 HT0
        by_cases hlt : j < kT
        · have hji : (j : Int) < n5 := by omega
          obtain ⟨x1, r1, a1⟩ : ∃ x t, nNum (T j).2 = (x, t) := ⟨_, _, rfl⟩
          obtain ⟨x2, r2, a2⟩ : ∃ x t, nNum r1 = (x, t) := ⟨_, _, rfl⟩
          obtain ⟨m, r3, emC⟩ : ∃ n t, nMany S.L.length r2 = (n, t) := ⟨_, _, rfl⟩
          have hNC : m ≤ 100000 := by
            have h1 : min (nNum r2).1 (S.L.length : Int) = m := congrArg Prod.fst emC
            omega
          obtain ⟨kk, hkC⟩ : ∃ k, m.toNat = k := ⟨_, rfl⟩
          obtain ⟨px, r4, eXC⟩ : ∃ x r, nRep nCol kk r3 = (x, r) := ⟨_, _, rfl⟩
          have hC : nList S.L.length nCol r2 = (px, r4) := by
            unfold nList
            rw [emC]
            show nRep nCol m.toNat r3 = _
            rw [hkC, eXC]
          have HC := Lib.hid (show ∀ j, nRep nCol (j + 1) r3 = ((nRep nCol j r3).1 ++ [(nCol (nRep nCol j r3).2).1], (nCol (nRep nCol j r3).2).2) from fun j => rfl)
          have HCL := Lib.hid (show ∀ j, (nRep nCol j r3).1.length = j from fun j => nrep_len j r3)
          have HC0 := Lib.hid (show nRep nCol 0 r3 = ([], r3) from rfl)
          have HCk := Lib.hid eXC
          have HMC := Lib.hid emC
          obtain ⟨C, hY⟩ : ∃ C : Nat → List (Col) × List Int, (fun j => nRep nCol j r3) = C := ⟨_, rfl⟩
          have hYj : ∀ j, nRep nCol j r3 = C j := fun j => congrFun hY j
          simp only [hYj] at HC HCL HC0 HCk
          clear hY hYj eXC emC
          have hT1 : nTex S.L.length (T j).2 = (⟨x1, x2, px⟩, r4) := by
            unfold nTex
            simp only [a1, a2, hC]
          have hY1 := HT.out j
          rw [hT1] at hY1
          have HY1 := Lib.hid hY1
          have D1 := Lib.hid (show ∀ w, Nm S w p (T j).2 → Calls Tryz.prog 55 #[.pointer (some ⟨p, 0, none⟩)] w (NR S p (.int .i64 x1) r1 w) from fun w h => by have h2 := next_any hS w h; rw [a1] at h2; exact h2)
          have D2 := Lib.hid (show ∀ w, Nm S w p r1 → Calls Tryz.prog 55 #[.pointer (some ⟨p, 0, none⟩)] w (NR S p (.int .i64 x2) r2 w) from fun w h => by have h2 := next_any hS w h; rw [a2] at h2; exact h2)
          have D3 := Lib.hid (show ∀ w, Nm S w p r2 → Calls Tryz.prog 57 #[.pointer (some ⟨p, 0, none⟩)] w (NR S p (.int .i64 m) r3 w) from fun w h => by have h2 := nmany_any hS w h; rw [HMC.out] at h2; exact h2)
          rename World => wo
          obtain ⟨gt, hgt⟩ : ∃ g, wo.heap.size = g := ⟨_, rfl⟩
          have hpo : p < wo.heap.size := HL.out.r.n.lt
          have I0 := Lib.hid (show Rn S p wo gt (.cells #[.int .i64 0, .int .i64 0, .slice none 0 0] 47) (T j).2 (wo.alloc (.cells #[.int .i64 0, .int .i64 0, .slice none 0 0] 47)) by rw [← hgt]; exact ⟨HL.out.r.n.alloc _, (But.refl p wo).alloc hpo _, heap_alloc_new _ _⟩)
          clear hY1 hT1 hC a1 a2 HMC
          go_wp2_with fail
          try rw [hgt]
          with_reducible refine (D1.out _ I0.out.n).mono ?_
          rintro e i1 ⟨rfl, hr, hb⟩
          have J1 := Lib.hid (I0.out.call (show p < gt by omega) hr hb)
          have c0 : i1.cell? ⟨gt, 0, none⟩ = some (.int .i64 0) := Joins.cell_of_block J1.out.g 0
          have f0 : i1.frozen? ⟨gt, 0, none⟩ = false := by simp [World.frozen?, J1.out.g]
          have gl0 := J1.out.lt
          have I1 := Lib.hid (show Rn S p wo gt (.cells #[.int .i64 x1, .int .i64 0, .slice none 0 0] 47) r1 (i1.setCell ⟨gt, 0, none⟩ (.int .i64 x1)) from Rn.cast (J1.out.set hpo (by omega)) (by simp))
          clear hr hb D1 I0 J1
          go_wp2_with fail
          with_reducible refine (D2.out _ I1.out.n).mono ?_
          rintro e i2 ⟨rfl, hr, hb⟩
          have J2 := Lib.hid (I1.out.call (show p < gt by omega) hr hb)
          have c1 : i2.cell? ⟨gt, 1, none⟩ = some (.int .i64 0) := Joins.cell_of_block J2.out.g 1
          have f1 : i2.frozen? ⟨gt, 1, none⟩ = false := by simp [World.frozen?, J2.out.g]
          have gl1 := J2.out.lt
          have I2 := Lib.hid (show Rn S p wo gt (.cells #[.int .i64 x1, .int .i64 x2, .slice none 0 0] 47) r2 (i2.setCell ⟨gt, 1, none⟩ (.int .i64 x2)) from Rn.cast (J2.out.set hpo (by omega)) (by simp))
          clear hr hb D2 I1 J2 c0 f0 gl0
          go_wp2_with fail
          with_reducible refine (D3.out _ I2.out.n).mono ?_
          rintro e wi ⟨rfl, hr, hb⟩
          obtain ⟨Bi, hBi⟩ : ∃ B, wi.heap.size = B := ⟨_, rfl⟩
          have KL0 := Lib.hid ((I2.out.call (show p < gt by omega) hr hb).lp hpo (by omega) hBi)
          clear hr hb D3 I2 c1 f1 gl1
          go_wp2_with fail
          go_loopw [9] (fun i wr => ∃ q : Nat, q ≤ kk ∧ i = .int .i64 q ∧ ∃ A c, Lp S p wo wi Bi gt (.cells #[.int .i64 x1, .int .i64 x2, .slice A q c] 47) (C q).2 wr ∧ OwnE EC wr Bi (.slice A q c) (C q).1) (fun i _ => kk - (intOf i).toNat)
          case atStart => exact ⟨0, Nat.zero_le _, rfl, none, 0, by rw [HC0.out]; exact KL0.out, by rw [HC0.out]; exact OwnE.nil _ _⟩
          case round =>
            obtain ⟨q, hq, rfl, A2, c2, hL, hO⟩ := hrel
            have KL := Lib.hid hL
            have KO := Lib.hid hO
            clear hL hO KL0 HC0
            by_cases hlk : q < kk
            · have hqi : (q : Int) < m := by omega
              obtain ⟨y, r5, e2⟩ : ∃ x t, nCol (C q).2 = (x, t) := ⟨_, _, rfl⟩
              have hY2 := HC.out q
              rw [e2] at hY2
              have HY2 := Lib.hid hY2
              clear hY2
              have HD := Lib.hid (show ∀ w, Nm S w p (C q).2 → Calls Tryz.prog 56 #[.pointer (some ⟨p, 0, none⟩)] w (NR S p (.agg #[.int .u8 y.r, .int .u8 y.g, .int .u8 y.b, .int .u8 y.a]) r5 w) from fun w h => by have h2 := ncol_any hS w h; rw [e2] at h2; exact h2)
              clear e2 HL HO HMp
              go_upto_region 21 with fail
              have hpw : p < wr.heap.size := KL.out.r.n.lt
              have L_t0 := Lib.hid KL.out.drew
              have O_t0 := Lib.hid (KO.out.keep (w' := wr.drew) (Below.refl _ _).drew)
              clear KL KO
              refine wp_region_held_drew (S := fun w' => Om (fun _ => True) wr w') (by kernel_rfl) (om_drew _ _) (fun hS => ?_)
              have B_t0 := Lib.hid (show But p wr wr.drew from ⟨(Below.refl _ _).drew, fun _ _ _ => rfl⟩)
              have M_t0 := Lib.hid (om_drew (fun _ => True) wr)
              have D_t0 := Lib.hid (show Below wr.heap.size wr wr.drew from (Below.refl _ _).drew)
              generalize wr.drew = t0 at *
              refine wpAnyH_take (i := 0) (v := .pointer (some ⟨gt, 2, none⟩)) rfl (by kernel_rfl) (by kernel_rfl) (by kernel_rfl) (fun _ _ _ h => h) (Or.inl ⟨by rfl, fun w hw => by go_simp⟩) hS ?_
              try simp only [Act.put, List.setIfInBounds_toArray, List.set_cons_zero, List.set_cons_succ, List.getElem_toArray, List.getElem_cons_zero]
              refine wpAnyH_take (i := 2) (v := .pointer (some ⟨p, 0, none⟩)) rfl (by kernel_rfl) (by kernel_rfl) (by kernel_rfl) (fun _ _ _ h => h) (Or.inl ⟨by rfl, fun w hw => by go_simp⟩) hS ?_
              try simp only [Act.put, List.setIfInBounds_toArray, List.set_cons_zero, List.set_cons_succ, List.getElem_toArray, List.getElem_cons_zero, List.getElem_cons_succ]
              refine wpAnyH_ready (rs := [1, 3]) (by kernel_rfl) (by simp) ?_
              refine AllReadyH.cons rfl (fun K hK => ?_) ?_
              · skip
                have ldc : t0.cell? ⟨gt, 2, none⟩ = some (.slice A2 q c2) := L_t0.out.cell 2
                have lds : gt < t0.heap.size := World.block_lt_of_cell? _ _ ldc
                go_simp
                refine hK.out _ _ M_t0.out (fun hS => ?_)
                clear hK K ldc lds
                try simp only [Act.put, List.setIfInBounds_toArray, List.set_cons_zero, List.set_cons_succ, List.getElem_toArray, List.getElem_cons_zero, List.getElem_cons_succ]
                refine wpAnyH_ready (rs := [3]) (by kernel_rfl) (by simp) ?_
                refine AllReadyH.cons rfl (fun K hK => ?_) AllReadyH.nil
                go_simp
                with_reducible refine (HD.out t0 L_t0.out.r.n).mono ?_
                rintro e t2 ⟨rfl, hr, hb⟩
                have B_t2 := Lib.hid (B_t0.out.trans hb)
                have M_t2 := Lib.hid (M_t0.out.but hb (.inl (trivial)))
                have N_t2 := Lib.hid hb
                have L_t2 := Lib.hid (L_t0.out.call hr hb)
                have O_t2 := Lib.hid (L_t0.out.own O_t0.out hb)
                clear hr
                clear hb
                refine hK.out _ _ M_t2.out (fun hS => ?_)
                clear hK K
                try simp only [Act.put, List.setIfInBounds_toArray, List.set_cons_zero, List.set_cons_succ, List.getElem_toArray, List.getElem_cons_zero, List.getElem_cons_succ]
                refine wpAnyH_ready (rs := [4]) (by kernel_rfl) (by simp) ?_
                refine AllReadyH.cons rfl (fun K hK => ?_) AllReadyH.nil
                go_simp
                refine hK.out _ _ (M_t2.out.alloc _) (fun hS => ?_)
                clear hK K hS
                try simp only [Act.put, List.setIfInBounds_toArray, List.set_cons_zero, List.set_cons_succ, List.getElem_toArray, List.getElem_cons_zero, List.getElem_cons_succ]
                obtain ⟨t3, ht⟩ : ∃ t, t = t2.alloc (.cells #[.int .u8 y.r, .int .u8 y.g, .int .u8 y.b, .int .u8 y.a] 23) := ⟨_, rfl⟩
                change wpAnyH _ _ _ _ _ _ _ _ (t2.alloc (.cells #[.int .u8 y.r, .int .u8 y.g, .int .u8 y.b, .int .u8 y.a] 23))
                rw [← ht]
                have B_t3 := Lib.hid (show But p wr t3 by rw [ht]; exact B_t2.out.alloc hpw _)
                have M_t3 := Lib.hid (show Om (fun _ => True) wr t3 by rw [ht]; exact M_t2.out.alloc _)
                have N_t3 := Lib.hid (show Below t2.heap.size t2 t3 by rw [ht]; exact new_below _ _)
                have L_t3 := Lib.hid (show Lp _ _ _ _ _ _ _ _ t3 by rw [ht]; exact L_t2.out.alloc _)
                have O_t3 := Lib.hid (O_t2.out.keep N_t3.out)
                have E_t3 := Lib.hid (es_one (E := EC) (x := y) (cs := #[.int .u8 y.r, .int .u8 y.g, .int .u8 y.b, .int .u8 y.a]) rfl (show t3.heap[t2.heap.size]? = some (.cells #[.int .u8 y.r, .int .u8 y.g, .int .u8 y.b, .int .u8 y.a] 23 (0, 0)) by rw [ht]; exact heap_alloc_new _ _))
                have hS := M_t3.out
                clear ht
                refine wpAnyH_ready (rs := [5]) (by kernel_rfl) (by simp) ?_
                refine AllReadyH.cons rfl (fun K hK => ?_) AllReadyH.nil
                rw [if_pos (by rfl)]
                refine opw_fl RC L_t3.out O_t3.out E_t3.out (.tmp 61) (.tmp 64) rfl rfl rfl (by omega) ?_
                intro A' c' w5 hL hO hsz
                have L5 := Lib.hid hL
                have O5 := Lib.hid hO
                have M5 := Lib.hid (om_true M_t3.out hsz)
                have c5 : w5.cell? ⟨gt, 2, none⟩ = some (.slice A2 q c2) := hL.cell 2
                have f5 := hL.free 2
                have gl5 := hL.lt
                clear hL hO hsz
                refine hK.out _ _ M5.out (fun hS => ?_)
                clear hK K
                try simp only [Act.put, List.setIfInBounds_toArray, List.set_cons_zero, List.set_cons_succ, List.getElem_toArray, List.getElem_cons_zero, List.getElem_cons_succ]
                refine wpAnyH_take (i := 6) (v := .pointer (some ⟨gt, 2, none⟩)) rfl (by kernel_rfl) (by kernel_rfl) (by kernel_rfl) (fun _ _ _ h => h) (Or.inl ⟨by rfl, fun w hw => by go_simp⟩) hS ?_
                try simp only [Act.put, List.setIfInBounds_toArray, List.set_cons_zero, List.set_cons_succ, List.getElem_toArray, List.getElem_cons_zero, List.getElem_cons_succ]
                refine wpAnyH_ready (rs := [7]) (by kernel_rfl) (by simp) ?_
                refine AllReadyH.cons rfl (fun K hK => ?_) AllReadyH.nil
                go_simp
                refine hK.out _ _ (om_true M5.out (by simp)) (fun hS => ?_)
                clear hK K c5 f5 gl5
                refine wpAnyH_done (by kernel_rfl) ?_ _
                clear hS M5
                go_wp2_with fail
                go_roundw
                case rel => exact ⟨q + 1, by omega, by go_num, A', c', by rw [HY2.out]; exact L5.out.set.cast (by simp), by rw [HY2.out]; exact L5.out.ownS O5.out⟩
                case measure => simp [intOf]; omega
              refine AllReadyH.cons rfl (fun K hK => ?_) ?_
              · skip
                go_simp
                with_reducible refine (HD.out t0 L_t0.out.r.n).mono ?_
                rintro e t4 ⟨rfl, hr, hb⟩
                have B_t4 := Lib.hid (B_t0.out.trans hb)
                have M_t4 := Lib.hid (M_t0.out.but hb (.inl (trivial)))
                have N_t4 := Lib.hid hb
                have L_t4 := Lib.hid (L_t0.out.call hr hb)
                have O_t4 := Lib.hid (L_t0.out.own O_t0.out hb)
                clear hr
                clear hb
                refine hK.out _ _ M_t4.out (fun hS => ?_)
                clear hK K
                try simp only [Act.put, List.setIfInBounds_toArray, List.set_cons_zero, List.set_cons_succ, List.getElem_toArray, List.getElem_cons_zero, List.getElem_cons_succ]
                refine wpAnyH_ready (rs := [1, 4]) (by kernel_rfl) (by simp) ?_
                refine AllReadyH.cons rfl (fun K hK => ?_) ?_
                · skip
                  have ldc : t4.cell? ⟨gt, 2, none⟩ = some (.slice A2 q c2) := L_t4.out.cell 2
                  have lds : gt < t4.heap.size := World.block_lt_of_cell? _ _ ldc
                  go_simp
                  refine hK.out _ _ M_t4.out (fun hS => ?_)
                  clear hK K ldc lds
                  try simp only [Act.put, List.setIfInBounds_toArray, List.set_cons_zero, List.set_cons_succ, List.getElem_toArray, List.getElem_cons_zero, List.getElem_cons_succ]
                  refine wpAnyH_ready (rs := [4]) (by kernel_rfl) (by simp) ?_
                  refine AllReadyH.cons rfl (fun K hK => ?_) AllReadyH.nil
                  go_simp
                  refine hK.out _ _ (M_t4.out.alloc _) (fun hS => ?_)
                  clear hK K hS
                  try simp only [Act.put, List.setIfInBounds_toArray, List.set_cons_zero, List.set_cons_succ, List.getElem_toArray, List.getElem_cons_zero, List.getElem_cons_succ]
                  obtain ⟨t6, ht⟩ : ∃ t, t = t4.alloc (.cells #[.int .u8 y.r, .int .u8 y.g, .int .u8 y.b, .int .u8 y.a] 23) := ⟨_, rfl⟩
                  change wpAnyH _ _ _ _ _ _ _ _ (t4.alloc (.cells #[.int .u8 y.r, .int .u8 y.g, .int .u8 y.b, .int .u8 y.a] 23))
                  rw [← ht]
                  have B_t6 := Lib.hid (show But p wr t6 by rw [ht]; exact B_t4.out.alloc hpw _)
                  have M_t6 := Lib.hid (show Om (fun _ => True) wr t6 by rw [ht]; exact M_t4.out.alloc _)
                  have N_t6 := Lib.hid (show Below t4.heap.size t4 t6 by rw [ht]; exact new_below _ _)
                  have L_t6 := Lib.hid (show Lp _ _ _ _ _ _ _ _ t6 by rw [ht]; exact L_t4.out.alloc _)
                  have O_t6 := Lib.hid (O_t4.out.keep N_t6.out)
                  have E_t6 := Lib.hid (es_one (E := EC) (x := y) (cs := #[.int .u8 y.r, .int .u8 y.g, .int .u8 y.b, .int .u8 y.a]) rfl (show t6.heap[t4.heap.size]? = some (.cells #[.int .u8 y.r, .int .u8 y.g, .int .u8 y.b, .int .u8 y.a] 23 (0, 0)) by rw [ht]; exact heap_alloc_new _ _))
                  have hS := M_t6.out
                  clear ht
                  refine wpAnyH_ready (rs := [5]) (by kernel_rfl) (by simp) ?_
                  refine AllReadyH.cons rfl (fun K hK => ?_) AllReadyH.nil
                  rw [if_pos (by rfl)]
                  refine opw_fl RC L_t6.out O_t6.out E_t6.out (.tmp 61) (.tmp 64) rfl rfl rfl (by omega) ?_
                  intro A' c' w5 hL hO hsz
                  have L5 := Lib.hid hL
                  have O5 := Lib.hid hO
                  have M5 := Lib.hid (om_true M_t6.out hsz)
                  have c5 : w5.cell? ⟨gt, 2, none⟩ = some (.slice A2 q c2) := hL.cell 2
                  have f5 := hL.free 2
                  have gl5 := hL.lt
                  clear hL hO hsz
                  refine hK.out _ _ M5.out (fun hS => ?_)
                  clear hK K
                  try simp only [Act.put, List.setIfInBounds_toArray, List.set_cons_zero, List.set_cons_succ, List.getElem_toArray, List.getElem_cons_zero, List.getElem_cons_succ]
                  refine wpAnyH_take (i := 6) (v := .pointer (some ⟨gt, 2, none⟩)) rfl (by kernel_rfl) (by kernel_rfl) (by kernel_rfl) (fun _ _ _ h => h) (Or.inl ⟨by rfl, fun w hw => by go_simp⟩) hS ?_
                  try simp only [Act.put, List.setIfInBounds_toArray, List.set_cons_zero, List.set_cons_succ, List.getElem_toArray, List.getElem_cons_zero, List.getElem_cons_succ]
                  refine wpAnyH_ready (rs := [7]) (by kernel_rfl) (by simp) ?_
                  refine AllReadyH.cons rfl (fun K hK => ?_) AllReadyH.nil
                  go_simp
                  refine hK.out _ _ (om_true M5.out (by simp)) (fun hS => ?_)
                  clear hK K c5 f5 gl5
                  refine wpAnyH_done (by kernel_rfl) ?_ _
                  clear hS M5
                  go_wp2_with fail
                  go_roundw
                  case rel => exact ⟨q + 1, by omega, by go_num, A', c', by rw [HY2.out]; exact L5.out.set.cast (by simp), by rw [HY2.out]; exact L5.out.ownS O5.out⟩
                  case measure => simp [intOf]; omega
                refine AllReadyH.cons rfl (fun K hK => ?_) ?_
                · skip
                  go_simp
                  refine hK.out _ _ (M_t4.out.alloc _) (fun hS => ?_)
                  clear hK K hS
                  try simp only [Act.put, List.setIfInBounds_toArray, List.set_cons_zero, List.set_cons_succ, List.getElem_toArray, List.getElem_cons_zero, List.getElem_cons_succ]
                  obtain ⟨t7, ht⟩ : ∃ t, t = t4.alloc (.cells #[.int .u8 y.r, .int .u8 y.g, .int .u8 y.b, .int .u8 y.a] 23) := ⟨_, rfl⟩
                  change wpAnyH _ _ _ _ _ _ _ _ (t4.alloc (.cells #[.int .u8 y.r, .int .u8 y.g, .int .u8 y.b, .int .u8 y.a] 23))
                  rw [← ht]
                  have B_t7 := Lib.hid (show But p wr t7 by rw [ht]; exact B_t4.out.alloc hpw _)
                  have M_t7 := Lib.hid (show Om (fun _ => True) wr t7 by rw [ht]; exact M_t4.out.alloc _)
                  have N_t7 := Lib.hid (show Below t4.heap.size t4 t7 by rw [ht]; exact new_below _ _)
                  have L_t7 := Lib.hid (show Lp _ _ _ _ _ _ _ _ t7 by rw [ht]; exact L_t4.out.alloc _)
                  have O_t7 := Lib.hid (O_t4.out.keep N_t7.out)
                  have E_t7 := Lib.hid (es_one (E := EC) (x := y) (cs := #[.int .u8 y.r, .int .u8 y.g, .int .u8 y.b, .int .u8 y.a]) rfl (show t7.heap[t4.heap.size]? = some (.cells #[.int .u8 y.r, .int .u8 y.g, .int .u8 y.b, .int .u8 y.a] 23 (0, 0)) by rw [ht]; exact heap_alloc_new _ _))
                  have hS := M_t7.out
                  clear ht
                  refine wpAnyH_ready (rs := [1]) (by kernel_rfl) (by simp) ?_
                  refine AllReadyH.cons rfl (fun K hK => ?_) AllReadyH.nil
                  have ldc : t7.cell? ⟨gt, 2, none⟩ = some (.slice A2 q c2) := L_t7.out.cell 2
                  have lds : gt < t7.heap.size := World.block_lt_of_cell? _ _ ldc
                  go_simp
                  refine hK.out _ _ M_t7.out (fun hS => ?_)
                  clear hK K ldc lds
                  try simp only [Act.put, List.setIfInBounds_toArray, List.set_cons_zero, List.set_cons_succ, List.getElem_toArray, List.getElem_cons_zero, List.getElem_cons_succ]
                  refine wpAnyH_ready (rs := [5]) (by kernel_rfl) (by simp) ?_
                  refine AllReadyH.cons rfl (fun K hK => ?_) AllReadyH.nil
                  rw [if_pos (by rfl)]
                  refine opw_fl RC L_t7.out O_t7.out E_t7.out (.tmp 61) (.tmp 64) rfl rfl rfl (by omega) ?_
                  intro A' c' w5 hL hO hsz
                  have L5 := Lib.hid hL
                  have O5 := Lib.hid hO
                  have M5 := Lib.hid (om_true M_t7.out hsz)
                  have c5 : w5.cell? ⟨gt, 2, none⟩ = some (.slice A2 q c2) := hL.cell 2
                  have f5 := hL.free 2
                  have gl5 := hL.lt
                  clear hL hO hsz
                  refine hK.out _ _ M5.out (fun hS => ?_)
                  clear hK K
                  try simp only [Act.put, List.setIfInBounds_toArray, List.set_cons_zero, List.set_cons_succ, List.getElem_toArray, List.getElem_cons_zero, List.getElem_cons_succ]
                  refine wpAnyH_take (i := 6) (v := .pointer (some ⟨gt, 2, none⟩)) rfl (by kernel_rfl) (by kernel_rfl) (by kernel_rfl) (fun _ _ _ h => h) (Or.inl ⟨by rfl, fun w hw => by go_simp⟩) hS ?_
                  try simp only [Act.put, List.setIfInBounds_toArray, List.set_cons_zero, List.set_cons_succ, List.getElem_toArray, List.getElem_cons_zero, List.getElem_cons_succ]
                  refine wpAnyH_ready (rs := [7]) (by kernel_rfl) (by simp) ?_
                  refine AllReadyH.cons rfl (fun K hK => ?_) AllReadyH.nil
                  go_simp
                  refine hK.out _ _ (om_true M5.out (by simp)) (fun hS => ?_)
                  clear hK K c5 f5 gl5
                  refine wpAnyH_done (by kernel_rfl) ?_ _
                  clear hS M5
                  go_wp2_with fail
                  go_roundw
                  case rel => exact ⟨q + 1, by omega, by go_num, A', c', by rw [HY2.out]; exact L5.out.set.cast (by simp), by rw [HY2.out]; exact L5.out.ownS O5.out⟩
                  case measure => simp [intOf]; omega
                exact AllReadyH.nil
              exact AllReadyH.nil
            · have hqi : ¬ (q : Int) < m := by omega
              obtain rfl : q = kk := by omega
              have hlen : px.length = q := by have h := HCL.out q; rw [HCk.out] at h; exact h
              rw [HCk.out] at KL KO
              obtain rfl : q = px.length := hlen.symm
              have HL2 := Lib.hid (HL.out.call KL.out.r.n KL.out.r.b)
              have HO2 := Lib.hid (HL.out.ownN HO.out KL.out.r.b)
              have g7 : wr.cell? ⟨w.heap.size + 1, 7, none⟩ = some (.slice A7 j c7) := HL2.out.cell 7
              have t0 : wr.cell? ⟨gt, 0, none⟩ = some (.int .i64 x1) := KL.out.cell 0
              have t1 : wr.cell? ⟨gt, 1, none⟩ = some (.int .i64 x2) := KL.out.cell 1
              have t2 : wr.cell? ⟨gt, 2, none⟩ = some (.slice A2 px.length c2) := KL.out.cell 2
              have gl1 := HL2.out.lt
              have gl2 := KL.out.lt
              clear HC HCL HCk
              have HL3 := Lib.hid (HL2.out.alloc (.cells #[.int .i64 x1, .int .i64 x2, .slice A2 px.length c2] 47))
              have HO3 := Lib.hid (HO2.out.keep (new_below wr (.cells #[.int .i64 x1, .int .i64 x2, .slice A2 px.length c2] 47)))
              have HE3 := Lib.hid (es_one (E := ET) (x := (⟨⟨x1, x2, px⟩, A2, c2⟩ : Lo Tx)) (cs := #[.int .i64 x1, .int .i64 x2, .slice A2 px.length c2]) rfl (show (wr.alloc (.cells #[.int .i64 x1, .int .i64 x2, .slice A2 px.length c2] 47)).heap[wr.heap.size]? = some (.cells #[.int .i64 x1, .int .i64 x2, .slice A2 px.length c2] 47 (0, 0)) from heap_alloc_new _ _))
              have HI3 := Lib.hid (show EsP EC (wr.alloc (.cells #[.int .i64 x1, .int .i64 x2, .slice A2 px.length c2] 47)) (fun b => B5 ≤ b ∧ (Value.slice A7 j c7).ownBlock ≠ some b) A2 px from
                (KO.out.toP.imp (fun b hb _ => ⟨by have := HL.out.z; have := KL.out.gB; omega, fun e => by have := ownE_lt HO.out.own e; have := KL.out.gB; omega⟩)).keep fun b _ hlt => (new_below wr _).block b hlt)
              have HCp := Lib.hid (ownE_es KO.out).2.1
              clear HL2 HO2 HL HO KL KO
              go_wp2_with (at_builtin; refine wpl_ne rfl RT HL3.out HO3.out HE3.out HI3.out HCp.out _ _ rfl rfl rfl (by omega) ?_; intro A' c' w5 hL hO; have L5 := Lib.hid hL; have O5 := Lib.hid hO; have c5 : w5.cell? ⟨w.heap.size + 1, 7, none⟩ = some (.slice A7 j c7) := hL.cell 7; have f5 := hL.free 7; have gl5 := hL.lt; clear hL hO)
              go_roundw
              case rel => exact ⟨j + 1, by omega, by go_num, A', c', l7 ++ [(⟨⟨x1, x2, px⟩, A2, c2⟩ : Lo Tx)], by rw [HY1.out, List.map_append, HMp.out]; rfl, by rw [HY1.out]; exact L5.out.set.cast (by simp), L5.out.ownNS O5.out⟩
              case measure => simp [intOf]; omega
        · have hji : ¬ (j : Int) < n5 := by omega
          obtain rfl : j = kT := by omega
          have hmp := HMp.out
          rw [HTk.out] at HL hmp
          replace hmp : l7.map Lo.x = xT := hmp
          have hlen : j = l7.length := (ownE_es HO.out.own).1
          subst hlen
          have HMl7 := Lib.hid hmp
          obtain ⟨he1, he2, he3, he4⟩ := HO.out.toP (k := w.heap.size + 2) (by have := HL.out.gB; omega)
          have H6 := Lib.hid (HL.out.ra HZw5.out)
          have HX6 := Lib.hid (show (⟨sW, sH, sK, xV, A6, c6, l7, A7, c7, [], none, 0, [], none, 0⟩ : Sc).on wr (fun b => w.heap.size + 2 ≤ b) from (HL.out.on HXw5.out).t0 he1 he2)
          have HK6 := Lib.hid (And.intro he3 he4)
          rename World => vw5
          clear HL HO HMp hmp HT HTL HTk HZw5 HXw5 he1 he2 he3 he4
          go_wp2_with fail
          with_reducible refine (C6.out _ H6.out.n.n).mono ?_
          rintro e w6 ⟨rfl, hr, hb⟩
          have HRa := Lib.hid (H6.out.call hp hr hb)
          have HXw6 := Lib.hid (hb.on (show p < w.heap.size + 2 by omega) HX6.out)
          obtain ⟨B6, hBB6⟩ : ∃ B, w6.heap.size = B := ⟨_, rfl⟩
          have HL0 := Lib.hid (HRa.out.lp hp hBB6)
          have HZw6 := Lib.hid HRa.out.r
          clear hr hb C6 H6 HX6 HRa
          go_wp2_with fail
          go_loopw [10] (fun i wr => ∃ j : Nat, j ≤ kP ∧ i = .int .i64 j ∧ ∃ A c ls, ls.map Lo.x = (P j).1 ∧ Lp S p w w6 B6 (w.heap.size + 1) (.cells #[.int .i64 sW, .int .i64 sH, .int .u8 sK.r, .int .u8 sK.g, .int .u8 sK.b, .int .u8 sK.a, .slice A6 xV.length c6, .slice A7 l7.length c7, .slice A j c, .slice none 0 0] 29) (P j).2 wr ∧ OwnN EP C.EI id wr B6 (.slice A j c) ls) (fun i _ => kP - (intOf i).toNat)
          case atStart => exact ⟨0, Nat.zero_le _, rfl, none, 0, [], by rw [HP0.out]; rfl, by rw [HP0.out]; exact HL0.out, OwnN.nil _ _⟩
          case round =>
            obtain ⟨j, hj, rfl, A8, c8, l8, hmp, hL, hO⟩ := hrel
            have HL := Lib.hid hL
            have HO := Lib.hid hO
            have HMp := Lib.hid hmp
            clear hL hO hmp HL0 HP0
            by_cases hlt : j < kP
            · have hji : (j : Int) < n6 := by omega
              obtain ⟨m, r1, emI⟩ : ∃ n t, nMany S.L.length (P j).2 = (n, t) := ⟨_, _, rfl⟩
              have hNI : m ≤ 100000 := by
                have h1 : min (nNum (P j).2).1 (S.L.length : Int) = m := congrArg Prod.fst emI
                omega
              obtain ⟨kk, hkI⟩ : ∃ k, m.toNat = k := ⟨_, rfl⟩
              obtain ⟨li, r2, eXI⟩ : ∃ x r, nRep nIns kk r1 = (x, r) := ⟨_, _, rfl⟩
              have hI : nList S.L.length nIns (P j).2 = (li, r2) := by
                unfold nList
                rw [emI]
                show nRep nIns m.toNat r1 = _
                rw [hkI, eXI]
              have HI := Lib.hid (show ∀ j, nRep nIns (j + 1) r1 = ((nRep nIns j r1).1 ++ [(nIns (nRep nIns j r1).2).1], (nIns (nRep nIns j r1).2).2) from fun j => rfl)
              have HIL := Lib.hid (show ∀ j, (nRep nIns j r1).1.length = j from fun j => nrep_len j r1)
              have HI0 := Lib.hid (show nRep nIns 0 r1 = ([], r1) from rfl)
              have HIk := Lib.hid eXI
              have HMI := Lib.hid emI
              obtain ⟨I, hY⟩ : ∃ I : Nat → List (C.In) × List Int, (fun j => nRep nIns j r1) = I := ⟨_, rfl⟩
              have hYj : ∀ j, nRep nIns j r1 = I j := fun j => congrFun hY j
              simp only [hYj] at HI HIL HI0 HIk
              clear hY hYj eXI emI
              have hY1 := HP.out j
              rw [show nPrg S.L.length (P j).2 = (li, r2) from hI] at hY1
              have HY1 := Lib.hid hY1
              have D3 := Lib.hid (show ∀ w, Nm S w p (P j).2 → Calls Tryz.prog 57 #[.pointer (some ⟨p, 0, none⟩)] w (NR S p (.int .i64 m) r1 w) from fun w h => by have h2 := nmany_any hS w h; rw [HMI.out] at h2; exact h2)
              rename World => wo
              obtain ⟨Bo, hBo⟩ : ∃ B, wo.heap.size = B := ⟨_, rfl⟩
              have K0 := Lib.hid ((HL.out.r.lp hp (Nat.le_succ _) hBo).alloc (.cells #[] 76))
              have KE0 := Lib.hid (show OwnE C.EI (wo.alloc (.cells #[] 76)) Bo (.slice (some ⟨Bo, 0, none⟩) 0 0) [] by rw [← hBo]; exact ownE_empty wo (by omega))
              clear hY1 hI HMI
              go_wp2_with fail
              with_reducible refine (D3.out _ K0.out.r.n).mono ?_
              rintro e wi ⟨rfl, hr, hb⟩
              have KL0 := Lib.hid (K0.out.call hr hb)
              have KE1 := Lib.hid (K0.out.own KE0.out hb)
              clear hr hb D3 K0 KE0
              go_wp2_with fail
              go_loopw [11, 13] (fun v i wr => ∃ q : Nat, q ≤ kk ∧ i = .int .i64 q ∧ ∃ A c, v = .slice A q c ∧ Lp S p w wo Bo (w.heap.size + 1) (.cells #[.int .i64 sW, .int .i64 sH, .int .u8 sK.r, .int .u8 sK.g, .int .u8 sK.b, .int .u8 sK.a, .slice A6 xV.length c6, .slice A7 l7.length c7, .slice A8 j c8, .slice none 0 0] 29) (I q).2 wr ∧ OwnE C.EI wr Bo (.slice A q c) (I q).1) (fun _ i _ => kk - (intOf i).toNat)
              case atStart => exact ⟨0, Nat.zero_le _, rfl, _, _, rfl, by rw [HI0.out]; exact KL0.out, by rw [HI0.out]; exact KE1.out⟩
              case round =>
                obtain ⟨q, hq, rfl, A2, c2, rfl, hL, hO⟩ := hrel
                have KL := Lib.hid hL
                have KO := Lib.hid hO
                clear hL hO KL0 HI0 KE1
                by_cases hlk : q < kk
                · have hqi : (q : Int) < m := by omega
                  obtain ⟨y, r5, e2⟩ : ∃ x t, nIns (I q).2 = (x, t) := ⟨_, _, rfl⟩
                  have hY2 := HI.out q
                  rw [e2] at hY2
                  have HY2 := Lib.hid hY2
                  have HD := Lib.hid (show ∀ w, Nm S w p (I q).2 → Calls Tryz.prog 59 #[.pointer (some ⟨p, 0, none⟩)] w (NR S p (.agg #[.int .u8 y.o, .int .u8 y.d, .int .u8 y.a, .int .u8 y.b, .int .i64 y.n]) r5 w) from fun w h => by have h2 := nins_any hS w h; rw [e2] at h2; exact h2)
                  clear hY2 e2 HL HO HMp
                  go_wp2_with fail
                  with_reducible refine (HD.out _ KL.out.r.n).mono ?_
                  rintro e w2 ⟨rfl, hr, hb⟩
                  have KL3 := Lib.hid ((KL.out.call hr hb).alloc (.cells #[.int .u8 y.o, .int .u8 y.d, .int .u8 y.a, .int .u8 y.b, .int .i64 y.n] 76))
                  have KO3 := Lib.hid ((KL.out.own KO.out hb).alloc (.cells #[.int .u8 y.o, .int .u8 y.d, .int .u8 y.a, .int .u8 y.b, .int .i64 y.n] 76))
                  have KE3 := Lib.hid (es_one (E := C.EI) (x := y) (cs := #[.int .u8 y.o, .int .u8 y.d, .int .u8 y.a, .int .u8 y.b, .int .i64 y.n]) rfl (show (w2.alloc (.cells #[.int .u8 y.o, .int .u8 y.d, .int .u8 y.a, .int .u8 y.b, .int .i64 y.n] 76)).heap[w2.heap.size]? = some (.cells #[.int .u8 y.o, .int .u8 y.d, .int .u8 y.a, .int .u8 y.b, .int .i64 y.n] 76 (0, 0)) from heap_alloc_new _ _))
                  clear hr hb HD KL KO
                  go_wp2_with (at_builtin; refine wpl_fl rfl RI KL3.out KO3.out KE3.out _ _ rfl rfl rfl (by omega) ?_; intro A' c' w5 hL hO; have L5 := Lib.hid hL; have O5 := Lib.hid hO; clear hL hO)
                  go_roundw
                  case rel => exact ⟨q + 1, by omega, by go_num, A', c', rfl, by rw [HY2.out]; exact L5.out, by rw [HY2.out]; exact O5.out⟩
                  case measure => simp [intOf]; omega
                · have hqi : ¬ (q : Int) < m := by omega
                  obtain rfl : q = kk := by omega
                  have hlen : li.length = q := by have h := HIL.out q; rw [HIk.out] at h; exact h
                  rw [HIk.out] at KL KO
                  obtain rfl : q = li.length := hlen.symm
                  have HL2 := Lib.hid (HL.out.join KL.out)
                  have HO2 := Lib.hid (HO.out.om KL.out.m (fun b h1 _ h2 => by have := HL.out.gB; have := HL.out.pg; rcases h2 with rfl | rfl <;> omega))
                  have g8 : wr.cell? ⟨w.heap.size + 1, 8, none⟩ = some (.slice A8 j c8) := HL2.out.cell 8
                  have gl1 := HL2.out.lt
                  clear HI HIL HIk
                  have HL3 := Lib.hid (HL2.out.alloc (.cells #[.slice A2 li.length c2] 48))
                  have HO3 := Lib.hid (HO2.out.keep (new_below wr (.cells #[.slice A2 li.length c2] 48)))
                  have HE3 := Lib.hid (es_one (E := EP) (x := (⟨li, A2, c2⟩ : Lo (List C.In))) (cs := #[.slice A2 li.length c2]) rfl (show (wr.alloc (.cells #[.slice A2 li.length c2] 48)).heap[wr.heap.size]? = some (.cells #[.slice A2 li.length c2] 48 (0, 0)) from heap_alloc_new _ _))
                  have HI3 := Lib.hid (show EsP C.EI (wr.alloc (.cells #[.slice A2 li.length c2] 48)) (fun b => B6 ≤ b ∧ (Value.slice A8 j c8).ownBlock ≠ some b) A2 li from
                    (KO.out.toP.imp (fun b hb _ => ⟨by have := HL.out.z; have := KL.out.gB; omega, fun e => by have := ownE_lt HO.out.own e; have := KL.out.gB; omega⟩)).keep fun b _ hlt => (new_below wr _).block b hlt)
                  have HCp := Lib.hid (ownE_es KO.out).2.1
                  clear HL2 HO2 HL HO KL KO
                  go_wp2_with (at_builtin; refine wpl_ne rfl RP HL3.out HO3.out HE3.out HI3.out HCp.out _ _ rfl rfl rfl (by omega) ?_; intro A' c' w5 hL hO; have L5 := Lib.hid hL; have O5 := Lib.hid hO; have c5 : w5.cell? ⟨w.heap.size + 1, 8, none⟩ = some (.slice A8 j c8) := hL.cell 8; have f5 := hL.free 8; have gl5 := hL.lt; clear hL hO)
                  go_roundw
                  case rel => exact ⟨j + 1, by omega, by go_num, A', c', l8 ++ [(⟨li, A2, c2⟩ : Lo (List C.In))], by rw [HY1.out, List.map_append, HMp.out]; rfl, by rw [HY1.out]; exact L5.out.set.cast (by simp), L5.out.ownNS O5.out⟩
                  case measure => simp [intOf]; omega
            · have hji : ¬ (j : Int) < n6 := by omega
              obtain rfl : j = kP := by omega
              have hmp := HMp.out
              rw [HPk.out] at HL hmp
              replace hmp : l8.map Lo.x = xP := hmp
              have hlen : j = l8.length := (ownE_es HO.out.own).1
              subst hlen
              have HMl8 := Lib.hid hmp
              obtain ⟨he1, he2, he3, he4⟩ := HO.out.toP (k := w.heap.size + 2) (by have := HL.out.gB; omega)
              have H7 := Lib.hid (HL.out.ra HZw6.out)
              have HX7 := Lib.hid (show (⟨sW, sH, sK, xV, A6, c6, l7, A7, c7, l8, A8, c8, [], none, 0⟩ : Sc).on wr (fun b => w.heap.size + 2 ≤ b) from (HL.out.on HXw6.out).p0 he1 he2)
              have HK7 := Lib.hid (And.intro he3 he4)
              rename World => vw6
              clear HL HO HMp hmp HP HPL HPk HZw6 HXw6 he1 he2 he3 he4
              go_wp2_with fail
              with_reducible refine (C7.out _ H7.out.n.n).mono ?_
              rintro e w7 ⟨rfl, hr, hb⟩
              have HRa := Lib.hid (H7.out.call hp hr hb)
              have HXw7 := Lib.hid (hb.on (show p < w.heap.size + 2 by omega) HX7.out)
              obtain ⟨B7, hBB7⟩ : ∃ B, w7.heap.size = B := ⟨_, rfl⟩
              have HL0 := Lib.hid (HRa.out.lp hp hBB7)
              have HZw7 := Lib.hid HRa.out.r
              clear hr hb C7 H7 HX7 HRa
              go_wp2_with fail
              go_loopw [14] (fun i wr => ∃ j : Nat, j ≤ kD ∧ i = .int .i64 j ∧ ∃ A c ls, ls.map Lo.x = (D j).1 ∧ Lp S p w w7 B7 (w.heap.size + 1) (.cells #[.int .i64 sW, .int .i64 sH, .int .u8 sK.r, .int .u8 sK.g, .int .u8 sK.b, .int .u8 sK.a, .slice A6 xV.length c6, .slice A7 l7.length c7, .slice A8 l8.length c8, .slice A j c] 29) (D j).2 wr ∧ OwnN ED ER Dr.tris wr B7 (.slice A j c) ls) (fun i _ => kD - (intOf i).toNat)
              case atStart => exact ⟨0, Nat.zero_le _, rfl, none, 0, [], by rw [HD0.out]; rfl, by rw [HD0.out]; exact HL0.out, OwnN.nil _ _⟩
              case round =>
                obtain ⟨j, hj, rfl, A9, c9, l9, hmp, hL, hO⟩ := hrel
                have HL := Lib.hid hL
                have HO := Lib.hid hO
                have HMp := Lib.hid hmp
                clear hL hO hmp HL0 HD0
                by_cases hlt : j < kD
                · have hji : (j : Int) < n7 := by omega
                  obtain ⟨x, r2, e2⟩ : ∃ x t, nDrw S.L.length (D j).2 = (x, t) := ⟨_, _, rfl⟩
                  have hY1 := HD.out j
                  rw [e2] at hY1
                  have HY1 := Lib.hid hY1
                  clear hY1
                  have HD := Lib.hid (show ∀ w, Nm S w p (D j).2 → Calls Tryz.prog 60 #[.pointer (some ⟨p, 0, none⟩)] w (NRL S ER Dr.tris vD p x r2 w) from fun w h => by have h2 := ndraw_any hS w h; rw [e2] at h2; exact h2)
                  clear e2
                  go_upto_region 38 with fail
                  have hpw : p < wr.heap.size := HL.out.r.n.lt
                  have L_t0 := Lib.hid HL.out.drew
                  have O_t0 := Lib.hid (HO.out.keep (w' := wr.drew) (Below.refl _ _).drew)
                  clear HL HO
                  refine wp_region_held_drew (S := fun w' => Om (fun _ => True) wr w') (by kernel_rfl) (om_drew _ _) (fun hS => ?_)
                  have B_t0 := Lib.hid (show But p wr wr.drew from ⟨(Below.refl _ _).drew, fun _ _ _ => rfl⟩)
                  have M_t0 := Lib.hid (om_drew (fun _ => True) wr)
                  have D_t0 := Lib.hid (show Below wr.heap.size wr wr.drew from (Below.refl _ _).drew)
                  generalize wr.drew = t0 at *
                  refine wpAnyH_take (i := 0) (v := .pointer (some ⟨w.heap.size + 1, 9, none⟩)) rfl (by kernel_rfl) (by kernel_rfl) (by kernel_rfl) (fun _ _ _ h => h) (Or.inl ⟨by rfl, fun w hw => by go_simp⟩) hS ?_
                  try simp only [Act.put, List.setIfInBounds_toArray, List.set_cons_zero, List.set_cons_succ, List.getElem_toArray, List.getElem_cons_zero]
                  refine wpAnyH_take (i := 2) (v := .pointer (some ⟨p, 0, none⟩)) rfl (by kernel_rfl) (by kernel_rfl) (by kernel_rfl) (fun _ _ _ h => h) (Or.inl ⟨by rfl, fun w hw => by go_simp⟩) hS ?_
                  try simp only [Act.put, List.setIfInBounds_toArray, List.set_cons_zero, List.set_cons_succ, List.getElem_toArray, List.getElem_cons_zero, List.getElem_cons_succ]
                  refine wpAnyH_ready (rs := [1, 3]) (by kernel_rfl) (by simp) ?_
                  refine AllReadyH.cons rfl (fun K hK => ?_) ?_
                  · skip
                    have ldc : t0.cell? ⟨w.heap.size + 1, 9, none⟩ = some (.slice A9 j c9) := L_t0.out.cell 9
                    have lds : w.heap.size + 1 < t0.heap.size := World.block_lt_of_cell? _ _ ldc
                    go_simp
                    refine hK.out _ _ M_t0.out (fun hS => ?_)
                    clear hK K ldc lds
                    try simp only [Act.put, List.setIfInBounds_toArray, List.set_cons_zero, List.set_cons_succ, List.getElem_toArray, List.getElem_cons_zero, List.getElem_cons_succ]
                    refine wpAnyH_ready (rs := [3]) (by kernel_rfl) (by simp) ?_
                    refine AllReadyH.cons rfl (fun K hK => ?_) AllReadyH.nil
                    go_simp
                    with_reducible refine (HD.out t0 L_t0.out.r.n).mono ?_
                    rintro e t2 ⟨A2, c2, he, hoi, hr, hb⟩
                    obtain rfl : e = .returned (.agg #[.int .i64 (⟨x, A2, c2⟩ : Lo Dr).x.id, .int .i64 (⟨x, A2, c2⟩ : Lo Dr).x.prog, .int .i64 (⟨x, A2, c2⟩ : Lo Dr).x.tex, .bool (⟨x, A2, c2⟩ : Lo Dr).x.op, .slice (⟨x, A2, c2⟩ : Lo Dr).A (⟨x, A2, c2⟩ : Lo Dr).x.tris.length (⟨x, A2, c2⟩ : Lo Dr).c]) := he
                    have B_t2 := Lib.hid (B_t0.out.trans hb)
                    have M_t2 := Lib.hid (M_t0.out.but hb (.inl (trivial)))
                    have N_t2 := Lib.hid hb
                    have L_t2 := Lib.hid (L_t0.out.call hr hb)
                    have O_t2 := Lib.hid (L_t0.out.ownN O_t0.out hb)
                    have I_t2 := Lib.hid (show EsP ER t2 (fun b => B7 ≤ b ∧ (Value.slice A9 j c9).ownBlock ≠ some b) A2 (Dr.tris x) from (OwnE.toP hoi).imp fun b hb2 _ => ⟨by have := L_t0.out.z; omega, fun e => by have := ownE_lt O_t0.out.own e; omega⟩)
                    have HCp := Lib.hid (ownE_es hoi).2.1
                    clear hoi
                    clear hr
                    clear hb
                    refine hK.out _ _ M_t2.out (fun hS => ?_)
                    clear hK K
                    refine wpAnyH_ready (rs := [4]) (by kernel_rfl) (by simp) ?_
                    refine AllReadyH.cons rfl (fun K hK => ?_) AllReadyH.nil
                    go_simp
                    refine hK.out _ _ (M_t2.out.alloc _) (fun hS => ?_)
                    clear hK K hS
                    try simp only [Act.put, List.setIfInBounds_toArray, List.set_cons_zero, List.set_cons_succ, List.getElem_toArray, List.getElem_cons_zero, List.getElem_cons_succ]
                    obtain ⟨t3, ht⟩ : ∃ t, t = t2.alloc (.cells #[.int .i64 (⟨x, A2, c2⟩ : Lo Dr).x.id, .int .i64 (⟨x, A2, c2⟩ : Lo Dr).x.prog, .int .i64 (⟨x, A2, c2⟩ : Lo Dr).x.tex, .bool (⟨x, A2, c2⟩ : Lo Dr).x.op, .slice (⟨x, A2, c2⟩ : Lo Dr).A (⟨x, A2, c2⟩ : Lo Dr).x.tris.length (⟨x, A2, c2⟩ : Lo Dr).c] 51) := ⟨_, rfl⟩
                    change wpAnyH _ _ _ _ _ _ _ _ (t2.alloc (.cells #[.int .i64 (⟨x, A2, c2⟩ : Lo Dr).x.id, .int .i64 (⟨x, A2, c2⟩ : Lo Dr).x.prog, .int .i64 (⟨x, A2, c2⟩ : Lo Dr).x.tex, .bool (⟨x, A2, c2⟩ : Lo Dr).x.op, .slice (⟨x, A2, c2⟩ : Lo Dr).A (⟨x, A2, c2⟩ : Lo Dr).x.tris.length (⟨x, A2, c2⟩ : Lo Dr).c] 51))
                    rw [← ht]
                    have B_t3 := Lib.hid (show But p wr t3 by rw [ht]; exact B_t2.out.alloc hpw _)
                    have M_t3 := Lib.hid (show Om (fun _ => True) wr t3 by rw [ht]; exact M_t2.out.alloc _)
                    have N_t3 := Lib.hid (show Below t2.heap.size t2 t3 by rw [ht]; exact new_below _ _)
                    have L_t3 := Lib.hid (show Lp _ _ _ _ _ _ _ _ t3 by rw [ht]; exact L_t2.out.alloc _)
                    have O_t3 := Lib.hid (O_t2.out.keep N_t3.out)
                    have I_t3 := Lib.hid (I_t2.out.keep fun b _ hlt => N_t3.out.block b hlt)
                    have E_t3 := Lib.hid (es_one (E := ED) (x := (⟨x, A2, c2⟩ : Lo Dr)) (cs := #[.int .i64 (⟨x, A2, c2⟩ : Lo Dr).x.id, .int .i64 (⟨x, A2, c2⟩ : Lo Dr).x.prog, .int .i64 (⟨x, A2, c2⟩ : Lo Dr).x.tex, .bool (⟨x, A2, c2⟩ : Lo Dr).x.op, .slice (⟨x, A2, c2⟩ : Lo Dr).A (⟨x, A2, c2⟩ : Lo Dr).x.tris.length (⟨x, A2, c2⟩ : Lo Dr).c]) rfl (show t3.heap[t2.heap.size]? = some (.cells #[.int .i64 (⟨x, A2, c2⟩ : Lo Dr).x.id, .int .i64 (⟨x, A2, c2⟩ : Lo Dr).x.prog, .int .i64 (⟨x, A2, c2⟩ : Lo Dr).x.tex, .bool (⟨x, A2, c2⟩ : Lo Dr).x.op, .slice (⟨x, A2, c2⟩ : Lo Dr).A (⟨x, A2, c2⟩ : Lo Dr).x.tris.length (⟨x, A2, c2⟩ : Lo Dr).c] 51 (0, 0)) by rw [ht]; exact heap_alloc_new _ _))
                    have hS := M_t3.out
                    clear ht
                    refine wpAnyH_ready (rs := [5]) (by kernel_rfl) (by simp) ?_
                    refine AllReadyH.cons rfl (fun K hK => ?_) AllReadyH.nil
                    rw [if_pos (by rfl)]
                    refine opw_ne RD L_t3.out O_t3.out E_t3.out I_t3.out HCp.out (.tmp 107) (.tmp 110) rfl rfl rfl (by omega) ?_
                    intro A' c' w5 hL hO hsz
                    have L5 := Lib.hid hL
                    have O5 := Lib.hid hO
                    have M5 := Lib.hid (om_true M_t3.out hsz)
                    have c5 : w5.cell? ⟨w.heap.size + 1, 9, none⟩ = some (.slice A9 j c9) := hL.cell 9
                    have f5 := hL.free 9
                    have gl5 := hL.lt
                    clear hL hO hsz
                    refine hK.out _ _ M5.out (fun hS => ?_)
                    clear hK K
                    try simp only [Act.put, List.setIfInBounds_toArray, List.set_cons_zero, List.set_cons_succ, List.getElem_toArray, List.getElem_cons_zero, List.getElem_cons_succ]
                    refine wpAnyH_take (i := 6) (v := .pointer (some ⟨w.heap.size + 1, 9, none⟩)) rfl (by kernel_rfl) (by kernel_rfl) (by kernel_rfl) (fun _ _ _ h => h) (Or.inl ⟨by rfl, fun w hw => by go_simp⟩) hS ?_
                    try simp only [Act.put, List.setIfInBounds_toArray, List.set_cons_zero, List.set_cons_succ, List.getElem_toArray, List.getElem_cons_zero, List.getElem_cons_succ]
                    refine wpAnyH_ready (rs := [7]) (by kernel_rfl) (by simp) ?_
                    refine AllReadyH.cons rfl (fun K hK => ?_) AllReadyH.nil
                    go_simp
                    refine hK.out _ _ (om_true M5.out (by simp)) (fun hS => ?_)
                    clear hK K c5 f5 gl5
                    refine wpAnyH_done (by kernel_rfl) ?_ _
                    clear hS M5
                    go_wp2_with fail
                    go_roundw
                    case rel => exact ⟨j + 1, by omega, by go_num, A', c', l9 ++ [(⟨x, A2, c2⟩ : Lo Dr)], by rw [HY1.out, List.map_append, HMp.out]; rfl, by rw [HY1.out]; exact L5.out.set.cast (by simp), L5.out.ownNS O5.out⟩
                    case measure => simp [intOf]; omega
                  refine AllReadyH.cons rfl (fun K hK => ?_) ?_
                  · skip
                    go_simp
                    with_reducible refine (HD.out t0 L_t0.out.r.n).mono ?_
                    rintro e t4 ⟨A2, c2, he, hoi, hr, hb⟩
                    obtain rfl : e = .returned (.agg #[.int .i64 (⟨x, A2, c2⟩ : Lo Dr).x.id, .int .i64 (⟨x, A2, c2⟩ : Lo Dr).x.prog, .int .i64 (⟨x, A2, c2⟩ : Lo Dr).x.tex, .bool (⟨x, A2, c2⟩ : Lo Dr).x.op, .slice (⟨x, A2, c2⟩ : Lo Dr).A (⟨x, A2, c2⟩ : Lo Dr).x.tris.length (⟨x, A2, c2⟩ : Lo Dr).c]) := he
                    have B_t4 := Lib.hid (B_t0.out.trans hb)
                    have M_t4 := Lib.hid (M_t0.out.but hb (.inl (trivial)))
                    have N_t4 := Lib.hid hb
                    have L_t4 := Lib.hid (L_t0.out.call hr hb)
                    have O_t4 := Lib.hid (L_t0.out.ownN O_t0.out hb)
                    have I_t4 := Lib.hid (show EsP ER t4 (fun b => B7 ≤ b ∧ (Value.slice A9 j c9).ownBlock ≠ some b) A2 (Dr.tris x) from (OwnE.toP hoi).imp fun b hb2 _ => ⟨by have := L_t0.out.z; omega, fun e => by have := ownE_lt O_t0.out.own e; omega⟩)
                    have HCp := Lib.hid (ownE_es hoi).2.1
                    clear hoi
                    clear hr
                    clear hb
                    refine hK.out _ _ M_t4.out (fun hS => ?_)
                    clear hK K
                    refine wpAnyH_ready (rs := [1, 4]) (by kernel_rfl) (by simp) ?_
                    refine AllReadyH.cons rfl (fun K hK => ?_) ?_
                    · skip
                      have ldc : t4.cell? ⟨w.heap.size + 1, 9, none⟩ = some (.slice A9 j c9) := L_t4.out.cell 9
                      have lds : w.heap.size + 1 < t4.heap.size := World.block_lt_of_cell? _ _ ldc
                      go_simp
                      refine hK.out _ _ M_t4.out (fun hS => ?_)
                      clear hK K ldc lds
                      try simp only [Act.put, List.setIfInBounds_toArray, List.set_cons_zero, List.set_cons_succ, List.getElem_toArray, List.getElem_cons_zero, List.getElem_cons_succ]
                      refine wpAnyH_ready (rs := [4]) (by kernel_rfl) (by simp) ?_
                      refine AllReadyH.cons rfl (fun K hK => ?_) AllReadyH.nil
                      go_simp
                      refine hK.out _ _ (M_t4.out.alloc _) (fun hS => ?_)
                      clear hK K hS
                      try simp only [Act.put, List.setIfInBounds_toArray, List.set_cons_zero, List.set_cons_succ, List.getElem_toArray, List.getElem_cons_zero, List.getElem_cons_succ]
                      obtain ⟨t6, ht⟩ : ∃ t, t = t4.alloc (.cells #[.int .i64 (⟨x, A2, c2⟩ : Lo Dr).x.id, .int .i64 (⟨x, A2, c2⟩ : Lo Dr).x.prog, .int .i64 (⟨x, A2, c2⟩ : Lo Dr).x.tex, .bool (⟨x, A2, c2⟩ : Lo Dr).x.op, .slice (⟨x, A2, c2⟩ : Lo Dr).A (⟨x, A2, c2⟩ : Lo Dr).x.tris.length (⟨x, A2, c2⟩ : Lo Dr).c] 51) := ⟨_, rfl⟩
                      change wpAnyH _ _ _ _ _ _ _ _ (t4.alloc (.cells #[.int .i64 (⟨x, A2, c2⟩ : Lo Dr).x.id, .int .i64 (⟨x, A2, c2⟩ : Lo Dr).x.prog, .int .i64 (⟨x, A2, c2⟩ : Lo Dr).x.tex, .bool (⟨x, A2, c2⟩ : Lo Dr).x.op, .slice (⟨x, A2, c2⟩ : Lo Dr).A (⟨x, A2, c2⟩ : Lo Dr).x.tris.length (⟨x, A2, c2⟩ : Lo Dr).c] 51))
                      rw [← ht]
                      have B_t6 := Lib.hid (show But p wr t6 by rw [ht]; exact B_t4.out.alloc hpw _)
                      have M_t6 := Lib.hid (show Om (fun _ => True) wr t6 by rw [ht]; exact M_t4.out.alloc _)
                      have N_t6 := Lib.hid (show Below t4.heap.size t4 t6 by rw [ht]; exact new_below _ _)
                      have L_t6 := Lib.hid (show Lp _ _ _ _ _ _ _ _ t6 by rw [ht]; exact L_t4.out.alloc _)
                      have O_t6 := Lib.hid (O_t4.out.keep N_t6.out)
                      have I_t6 := Lib.hid (I_t4.out.keep fun b _ hlt => N_t6.out.block b hlt)
                      have E_t6 := Lib.hid (es_one (E := ED) (x := (⟨x, A2, c2⟩ : Lo Dr)) (cs := #[.int .i64 (⟨x, A2, c2⟩ : Lo Dr).x.id, .int .i64 (⟨x, A2, c2⟩ : Lo Dr).x.prog, .int .i64 (⟨x, A2, c2⟩ : Lo Dr).x.tex, .bool (⟨x, A2, c2⟩ : Lo Dr).x.op, .slice (⟨x, A2, c2⟩ : Lo Dr).A (⟨x, A2, c2⟩ : Lo Dr).x.tris.length (⟨x, A2, c2⟩ : Lo Dr).c]) rfl (show t6.heap[t4.heap.size]? = some (.cells #[.int .i64 (⟨x, A2, c2⟩ : Lo Dr).x.id, .int .i64 (⟨x, A2, c2⟩ : Lo Dr).x.prog, .int .i64 (⟨x, A2, c2⟩ : Lo Dr).x.tex, .bool (⟨x, A2, c2⟩ : Lo Dr).x.op, .slice (⟨x, A2, c2⟩ : Lo Dr).A (⟨x, A2, c2⟩ : Lo Dr).x.tris.length (⟨x, A2, c2⟩ : Lo Dr).c] 51 (0, 0)) by rw [ht]; exact heap_alloc_new _ _))
                      have hS := M_t6.out
                      clear ht
                      refine wpAnyH_ready (rs := [5]) (by kernel_rfl) (by simp) ?_
                      refine AllReadyH.cons rfl (fun K hK => ?_) AllReadyH.nil
                      rw [if_pos (by rfl)]
                      refine opw_ne RD L_t6.out O_t6.out E_t6.out I_t6.out HCp.out (.tmp 107) (.tmp 110) rfl rfl rfl (by omega) ?_
                      intro A' c' w5 hL hO hsz
                      have L5 := Lib.hid hL
                      have O5 := Lib.hid hO
                      have M5 := Lib.hid (om_true M_t6.out hsz)
                      have c5 : w5.cell? ⟨w.heap.size + 1, 9, none⟩ = some (.slice A9 j c9) := hL.cell 9
                      have f5 := hL.free 9
                      have gl5 := hL.lt
                      clear hL hO hsz
                      refine hK.out _ _ M5.out (fun hS => ?_)
                      clear hK K
                      try simp only [Act.put, List.setIfInBounds_toArray, List.set_cons_zero, List.set_cons_succ, List.getElem_toArray, List.getElem_cons_zero, List.getElem_cons_succ]
                      refine wpAnyH_take (i := 6) (v := .pointer (some ⟨w.heap.size + 1, 9, none⟩)) rfl (by kernel_rfl) (by kernel_rfl) (by kernel_rfl) (fun _ _ _ h => h) (Or.inl ⟨by rfl, fun w hw => by go_simp⟩) hS ?_
                      try simp only [Act.put, List.setIfInBounds_toArray, List.set_cons_zero, List.set_cons_succ, List.getElem_toArray, List.getElem_cons_zero, List.getElem_cons_succ]
                      refine wpAnyH_ready (rs := [7]) (by kernel_rfl) (by simp) ?_
                      refine AllReadyH.cons rfl (fun K hK => ?_) AllReadyH.nil
                      go_simp
                      refine hK.out _ _ (om_true M5.out (by simp)) (fun hS => ?_)
                      clear hK K c5 f5 gl5
                      refine wpAnyH_done (by kernel_rfl) ?_ _
                      clear hS M5
                      go_wp2_with fail
                      go_roundw
                      case rel => exact ⟨j + 1, by omega, by go_num, A', c', l9 ++ [(⟨x, A2, c2⟩ : Lo Dr)], by rw [HY1.out, List.map_append, HMp.out]; rfl, by rw [HY1.out]; exact L5.out.set.cast (by simp), L5.out.ownNS O5.out⟩
                      case measure => simp [intOf]; omega
                    refine AllReadyH.cons rfl (fun K hK => ?_) ?_
                    · skip
                      go_simp
                      refine hK.out _ _ (M_t4.out.alloc _) (fun hS => ?_)
                      clear hK K hS
                      try simp only [Act.put, List.setIfInBounds_toArray, List.set_cons_zero, List.set_cons_succ, List.getElem_toArray, List.getElem_cons_zero, List.getElem_cons_succ]
                      obtain ⟨t7, ht⟩ : ∃ t, t = t4.alloc (.cells #[.int .i64 (⟨x, A2, c2⟩ : Lo Dr).x.id, .int .i64 (⟨x, A2, c2⟩ : Lo Dr).x.prog, .int .i64 (⟨x, A2, c2⟩ : Lo Dr).x.tex, .bool (⟨x, A2, c2⟩ : Lo Dr).x.op, .slice (⟨x, A2, c2⟩ : Lo Dr).A (⟨x, A2, c2⟩ : Lo Dr).x.tris.length (⟨x, A2, c2⟩ : Lo Dr).c] 51) := ⟨_, rfl⟩
                      change wpAnyH _ _ _ _ _ _ _ _ (t4.alloc (.cells #[.int .i64 (⟨x, A2, c2⟩ : Lo Dr).x.id, .int .i64 (⟨x, A2, c2⟩ : Lo Dr).x.prog, .int .i64 (⟨x, A2, c2⟩ : Lo Dr).x.tex, .bool (⟨x, A2, c2⟩ : Lo Dr).x.op, .slice (⟨x, A2, c2⟩ : Lo Dr).A (⟨x, A2, c2⟩ : Lo Dr).x.tris.length (⟨x, A2, c2⟩ : Lo Dr).c] 51))
                      rw [← ht]
                      have B_t7 := Lib.hid (show But p wr t7 by rw [ht]; exact B_t4.out.alloc hpw _)
                      have M_t7 := Lib.hid (show Om (fun _ => True) wr t7 by rw [ht]; exact M_t4.out.alloc _)
                      have N_t7 := Lib.hid (show Below t4.heap.size t4 t7 by rw [ht]; exact new_below _ _)
                      have L_t7 := Lib.hid (show Lp _ _ _ _ _ _ _ _ t7 by rw [ht]; exact L_t4.out.alloc _)
                      have O_t7 := Lib.hid (O_t4.out.keep N_t7.out)
                      have I_t7 := Lib.hid (I_t4.out.keep fun b _ hlt => N_t7.out.block b hlt)
                      have E_t7 := Lib.hid (es_one (E := ED) (x := (⟨x, A2, c2⟩ : Lo Dr)) (cs := #[.int .i64 (⟨x, A2, c2⟩ : Lo Dr).x.id, .int .i64 (⟨x, A2, c2⟩ : Lo Dr).x.prog, .int .i64 (⟨x, A2, c2⟩ : Lo Dr).x.tex, .bool (⟨x, A2, c2⟩ : Lo Dr).x.op, .slice (⟨x, A2, c2⟩ : Lo Dr).A (⟨x, A2, c2⟩ : Lo Dr).x.tris.length (⟨x, A2, c2⟩ : Lo Dr).c]) rfl (show t7.heap[t4.heap.size]? = some (.cells #[.int .i64 (⟨x, A2, c2⟩ : Lo Dr).x.id, .int .i64 (⟨x, A2, c2⟩ : Lo Dr).x.prog, .int .i64 (⟨x, A2, c2⟩ : Lo Dr).x.tex, .bool (⟨x, A2, c2⟩ : Lo Dr).x.op, .slice (⟨x, A2, c2⟩ : Lo Dr).A (⟨x, A2, c2⟩ : Lo Dr).x.tris.length (⟨x, A2, c2⟩ : Lo Dr).c] 51 (0, 0)) by rw [ht]; exact heap_alloc_new _ _))
                      have hS := M_t7.out
                      clear ht
                      refine wpAnyH_ready (rs := [1]) (by kernel_rfl) (by simp) ?_
                      refine AllReadyH.cons rfl (fun K hK => ?_) AllReadyH.nil
                      have ldc : t7.cell? ⟨w.heap.size + 1, 9, none⟩ = some (.slice A9 j c9) := L_t7.out.cell 9
                      have lds : w.heap.size + 1 < t7.heap.size := World.block_lt_of_cell? _ _ ldc
                      go_simp
                      refine hK.out _ _ M_t7.out (fun hS => ?_)
                      clear hK K ldc lds
                      try simp only [Act.put, List.setIfInBounds_toArray, List.set_cons_zero, List.set_cons_succ, List.getElem_toArray, List.getElem_cons_zero, List.getElem_cons_succ]
                      refine wpAnyH_ready (rs := [5]) (by kernel_rfl) (by simp) ?_
                      refine AllReadyH.cons rfl (fun K hK => ?_) AllReadyH.nil
                      rw [if_pos (by rfl)]
                      refine opw_ne RD L_t7.out O_t7.out E_t7.out I_t7.out HCp.out (.tmp 107) (.tmp 110) rfl rfl rfl (by omega) ?_
                      intro A' c' w5 hL hO hsz
                      have L5 := Lib.hid hL
                      have O5 := Lib.hid hO
                      have M5 := Lib.hid (om_true M_t7.out hsz)
                      have c5 : w5.cell? ⟨w.heap.size + 1, 9, none⟩ = some (.slice A9 j c9) := hL.cell 9
                      have f5 := hL.free 9
                      have gl5 := hL.lt
                      clear hL hO hsz
                      refine hK.out _ _ M5.out (fun hS => ?_)
                      clear hK K
                      try simp only [Act.put, List.setIfInBounds_toArray, List.set_cons_zero, List.set_cons_succ, List.getElem_toArray, List.getElem_cons_zero, List.getElem_cons_succ]
                      refine wpAnyH_take (i := 6) (v := .pointer (some ⟨w.heap.size + 1, 9, none⟩)) rfl (by kernel_rfl) (by kernel_rfl) (by kernel_rfl) (fun _ _ _ h => h) (Or.inl ⟨by rfl, fun w hw => by go_simp⟩) hS ?_
                      try simp only [Act.put, List.setIfInBounds_toArray, List.set_cons_zero, List.set_cons_succ, List.getElem_toArray, List.getElem_cons_zero, List.getElem_cons_succ]
                      refine wpAnyH_ready (rs := [7]) (by kernel_rfl) (by simp) ?_
                      refine AllReadyH.cons rfl (fun K hK => ?_) AllReadyH.nil
                      go_simp
                      refine hK.out _ _ (om_true M5.out (by simp)) (fun hS => ?_)
                      clear hK K c5 f5 gl5
                      refine wpAnyH_done (by kernel_rfl) ?_ _
                      clear hS M5
                      go_wp2_with fail
                      go_roundw
                      case rel => exact ⟨j + 1, by omega, by go_num, A', c', l9 ++ [(⟨x, A2, c2⟩ : Lo Dr)], by rw [HY1.out, List.map_append, HMp.out]; rfl, by rw [HY1.out]; exact L5.out.set.cast (by simp), L5.out.ownNS O5.out⟩
                      case measure => simp [intOf]; omega
                    exact AllReadyH.nil
                  exact AllReadyH.nil
                · have hji : ¬ (j : Int) < n7 := by omega
                  obtain rfl : j = kD := by omega
                  have hmp := HMp.out
                  rw [HDk.out] at HL hmp
                  replace hmp : l9.map Lo.x = xD := hmp
                  have hlen : j = l9.length := (ownE_es HO.out.own).1
                  subst hlen
                  have HMl9 := Lib.hid hmp
                  obtain ⟨he1, he2, he3, he4⟩ := HO.out.toP (k := w.heap.size + 2) (by have := HL.out.gB; omega)
                  have H8 := Lib.hid (HL.out.ra HZw7.out)
                  have HX8 := Lib.hid (show (⟨sW, sH, sK, xV, A6, c6, l7, A7, c7, l8, A8, c8, l9, A9, c9⟩ : Sc).on wr (fun b => w.heap.size + 2 ≤ b) from (HL.out.on HXw7.out).d0 he1 he2)
                  have HK8 := Lib.hid (And.intro he3 he4)
                  rename World => vw7
                  clear HL HO HMp hmp HD HDL HDk HZw7 HXw7 he1 he2 he3 he4
                  obtain ⟨x, hx⟩ : ∃ x : Sc, x = ⟨sW, sH, sK, xV, A6, c6, l7, A7, c7, l8, A8, c8, l9, A9, c9⟩ := ⟨_, rfl⟩
                  have HXB := show vw7.heap[w.heap.size + 1]? = some (scB x) by rw [hx]; exact H8.out.n.g
                  have HZB := show vw7.heap[w.heap.size]? = some (scB noS) from H8.out.r
                  rw [← hx] at HX8
                  have HP := Lib.hid (show x.p = ⟨sW, sH, sK, xV, xT, xP, xD⟩ by rw [hx]; show (⟨sW, sH, sK, xV, l7.map Lo.x, l8.map Lo.x, l9.map Lo.x⟩ : PS) = _; rw [HMl7.out, HMl8.out, HMl9.out])
                  have HCap := Lib.hid (show x.cap by rw [hx]; exact ⟨HK5.out, HK6.out.1, HK6.out.2, HK7.out.1, HK7.out.2, HK8.out.1, HK8.out.2⟩)
                  obtain ⟨W, hW, hS, hB, hO⟩ := setx x HZB (Below.refl w.heap.size vw7) (Nat.le_refl _)
                  have HS := Lib.hid hS
                  have HXS := Lib.hid (show x.on W (fun b => w.heap.size ≤ b) from (HX8.out.keep fun b h1 _ => hO b (by omega)).imp fun b h1 _ => by omega)
                  have HNm := Lib.hid (H8.out.n.n.other hp hB hO)
                  have HBt := Lib.hid (H8.out.n.b.other hp hB hO)
                  obtain ⟨x0, x1, x2, x3, x4, x5, x6, x7, x8, x9⟩ := scB_cell HXB
                  have xl := scB_lt HXB
                  have f0 := scB_free HZB
                  obtain ⟨g0, g1, g2, g3, g4, g5, g6, g7, g8, g9⟩ := scB_cell HZB
                  have gl := scB_lt HZB
                  clear hx HXB HZB hS hB hO H8 HX8 HK5 HK6 HK7 HK8 HMl7 HMl8 HMl9
                  replace hW := Lib.hid hW
                  go_wp2_with fail
                  rw [hW.out]
                  have k := scB_cell HS.out
                  refine bodyPost_ret (v := .agg #[.int .i64 x.w, .int .i64 x.h, .int .u8 x.k.r, .int .u8 x.k.g, .int .u8 x.k.b, .int .u8 x.k.a, .slice x.vA x.vs.length x.vc, .slice x.tA x.ts.length x.tc, .slice x.pA x.ps.length x.pc, .slice x.dA x.ds.length x.dc]) (by simp [results, Tryz.results20, go_sem, k]) rfl ⟨x, rfl, HP.out, HXS.out, HCap.out, HNm.out, HBt.out⟩
end Go.Proofs.YtfmmfaeognoleaaGreat
