/-
  Scenes that may be, with their draws told otherwise (pure).
-/
import Derived.Test.YtnpcmoeleigpoaaFitP
namespace Go.Proofs.Ytnpcmoeleigpoaa

/-- A scene with other draws. -/
def PS.wd (p : PS) (l : List Dr) : PS := ⟨p.w, p.h, p.k, p.vs, p.ts, p.ps, l⟩
theorem wd_self (p : PS) : p.wd p.ds = p := rfl
theorem ptsB_wd (p : PS) (l : List Dr) (d : Dr) : ptsB (p.wd l) d = ptsB p d := rfl
theorem drawE_wd (p : PS) (l pre : List Dr) (d : Dr) : drawE (p.wd l) pre d = drawE p pre d := rfl
/-- No row has too many elements, the draws aside. -/
structure PS.room (p : PS) : Prop where
  v : p.vs.length ≤ 64
  t : p.ts.length ≤ 4
  p : p.ps.length ≤ 4
theorem many_no {p : PS} : manyB p = false ↔ p.room ∧ p.ds.length ≤ 8 ∧ ∀ d ∈ p.ds, d.tris.length ≤ 32 := by
  unfold manyB
  simp only [Bool.or_eq_false_iff, decide_eq_false_iff_not, Nat.not_lt, Bool.not_eq_false', List.all_eq_true, decide_eq_true_eq]
  constructor
  · rintro ⟨a, b, c, d, e⟩
    exact ⟨⟨a, b, c⟩, d, e⟩
  · rintro ⟨⟨a, b, c⟩, d, e⟩
    exact ⟨a, b, c, d, e⟩
/-- What the head of a check asks. -/
structure PS.head (p : PS) : Prop where
  s : (inB p.w 1 64 && inB p.h 1 64) = true
  k : rightB p.k = true
  room : p.room
  v : p.vs.all U.rightB = true
  t : p.ts.all Tx.right = true
  c : p.ps.all (fun l => decide (C.chk l = 0)) = true
theorem head_zero {p : PS} : headE p = 0 ↔ p.head ∧ p.ds.length ≤ 8 ∧ ∀ d ∈ p.ds, d.tris.length ≤ 32 := by
  unfold headE
  cases h1 : (inB p.w 1 64 && inB p.h 1 64)
  · simp only [if_true]
    exact ⟨fun h => by omega, fun h => by have := h.1.s; rw [h1] at this; cases this⟩
  · rw [if_neg (by simp)]
    cases h2 : rightB p.k
    · simp only [if_true]
      exact ⟨fun h => by omega, fun h => by have := h.1.k; rw [h2] at this; cases this⟩
    · rw [if_neg (by simp)]
      cases h3 : manyB p
      · rw [if_neg (by simp)]
        have hm := many_no.1 h3
        cases h4 : p.vs.all U.rightB
        · simp only [if_true]
          exact ⟨fun h => by omega, fun h => by have := h.1.v; rw [h4] at this; cases this⟩
        · rw [if_neg (by simp)]
          cases h5 : p.ts.all Tx.right
          · simp only [if_true]
            exact ⟨fun h => by omega, fun h => by have := h.1.t; rw [h5] at this; cases this⟩
          · rw [if_neg (by simp)]
            cases h6 : p.ps.all (fun l => decide (C.chk l = 0))
            · simp only [if_true]
              exact ⟨fun h => by omega, fun h => by have := h.1.c; rw [h6] at this; cases this⟩
            · rw [if_neg (by simp)]
              exact ⟨fun _ => ⟨⟨h1, h2, hm.1, h4, h5, h6⟩, hm.2⟩, fun _ => rfl⟩
      · rw [if_pos rfl]
        exact ⟨fun h => by omega, fun h => by have := many_no.2 ⟨h.1.room, h.2⟩; rw [h3] at this; cases this⟩
theorem head_wd {p : PS} {l : List Dr} (h : p.head) (h8 : l.length ≤ 8) (h32 : ∀ d ∈ l, d.tris.length ≤ 32) : headE (p.wd l) = 0 :=
  head_zero.2 ⟨⟨h.s, h.k, ⟨h.room.v, h.room.t, h.room.p⟩, h.v, h.t, h.c⟩, h8, h32⟩
/-- Of a draw: it may be by itself. -/
structure PS.dok (p : PS) (d : Dr) : Prop where
  n : d.tris.length ≤ 32
  b : ptsB p d = true
  u : (d.tris.map Tr.i).Nodup
/-- What it is to be right. -/
theorem check_ok {p : PS} : check p = 0 ↔ p.head ∧ p.ds.length ≤ 8 ∧ (∀ d ∈ p.ds, p.dok d) ∧ (p.ds.map Dr.id).Nodup := by
  rw [check_zero, head_zero]
  constructor
  · rintro ⟨⟨a, b, c⟩, d, e⟩
    exact ⟨a, b, fun x hx => ⟨c x hx, (d x hx).1, (d x hx).2⟩, e⟩
  · rintro ⟨a, b, c, e⟩
    exact ⟨⟨a, b, fun x hx => (c x hx).n⟩, fun x hx => ⟨(c x hx).b, (c x hx).u⟩, e⟩
theorem check_wd {p : PS} {l : List Dr} (h : p.head) (h8 : l.length ≤ 8) (hd : ∀ d ∈ l, p.dok d) (hn : (l.map Dr.id).Nodup) : check (p.wd l) = 0 :=
  check_ok.2 ⟨⟨h.s, h.k, ⟨h.room.v, h.room.t, h.room.p⟩, h.v, h.t, h.c⟩, h8, fun d hx => ⟨(hd d hx).n, (hd d hx).b, (hd d hx).u⟩, hn⟩
/-- A draw that replaces one that was right, with those ahead of it. -/
theorem check_bad {p : PS} {pre l : List Dr} {d : Dr} {e : Int} (h : p.head) (h8 : (pre ++ d :: l).length ≤ 8) (h32 : ∀ x ∈ pre ++ d :: l, x.tris.length ≤ 32)
    (hp : ∀ x ∈ pre, p.dok x) (hn : (pre.map Dr.id).Nodup) (he : drawE p pre d = e) (hne : e ≠ 0) : check (p.wd (pre ++ d :: l)) = e := by
  have hH := head_wd h h8 h32
  have hg : (p.wd (pre ++ d :: l)).ds[pre.length]? = some d := by
    show (pre ++ d :: l)[pre.length]? = some d
    rw [List.getElem?_append_right (Nat.le_refl _), Nat.sub_self]
    rfl
  have ht : (p.wd (pre ++ d :: l)).ds.take pre.length = pre := by
    show (pre ++ d :: l).take pre.length = pre
    rw [List.take_left]
  have hE : errAt (p.wd (pre ++ d :: l)) pre.length = e := by rw [errAt_eq hg, ht, drawE_wd, he]
  unfold check
  rw [if_pos hH, ← hE]
  refine errs_bad (List.getElem?_eq_some_iff.1 hg).1 (fun i hi => ?_) (by rw [hE]; exact hne)
  obtain ⟨x, hx⟩ := get_lt hi
  have hx2 : (p.wd (pre ++ d :: l)).ds[i]? = some x := by
    show (pre ++ d :: l)[i]? = some x
    rw [List.getElem?_append_left hi, hx]
  have ht2 : (p.wd (pre ++ d :: l)).ds.take i = pre.take i := by
    show (pre ++ d :: l).take i = _
    rw [List.take_append_of_le_length (by omega)]
  rw [errAt_eq hx2, ht2, drawE_wd, drawE_zero]
  have hk := hp x (List.mem_of_getElem? hx)
  refine ⟨hk.b, fun hm => ?_, hk.u⟩
  have h1 : ((pre.take (i + 1)).map Dr.id).Nodup := List.Nodup.sublist ((List.take_sublist _ _).map _) hn
  rw [take_snoc hx, List.map_append] at h1
  exact (nodup_snoc.1 h1).2 hm

theorem nodup_rev {l : List Int} (h : l.Nodup) : l.reverse.Nodup := by
  unfold List.Nodup
  rw [List.pairwise_reverse]
  exact h.imp fun h e => h e.symm
/-- A draw with its triangles the other way about. -/
def revD (d : Dr) : Dr := ⟨d.id, d.prog, d.tex, d.op, d.tris.reverse⟩
theorem revD_ok {p : PS} {d : Dr} (h : p.dok d) : p.dok (revD d) := by
  refine ⟨by show d.tris.reverse.length ≤ 32; rw [List.length_reverse]; exact h.n, ?_, ?_⟩
  · rw [← h.b]
    show (inB d.id 0 9999 && (inB d.prog 0 (p.ps.length - 1) && (texB p d && d.tris.reverse.all (triB p.vs.length)))) = (inB d.id 0 9999 && (inB d.prog 0 (p.ps.length - 1) && (texB p d && d.tris.all (triB p.vs.length))))
    rw [List.all_reverse]
  · show (d.tris.reverse.map Tr.i).Nodup
    rw [List.map_reverse]
    exact nodup_rev h.u
theorem check_back {p : PS} (h : check p = 0) : check (p.wd (p.ds.reverse.map revD)) = 0 := by
  obtain ⟨a, b, c, d⟩ := check_ok.1 h
  refine check_wd a (by rw [List.length_map, List.length_reverse]; exact b) (fun x hx => ?_) ?_
  · obtain ⟨y, hy, rfl⟩ := List.mem_map.1 hx
    exact revD_ok (c y (List.mem_reverse.1 hy))
  · rw [List.map_map, show Dr.id ∘ revD = Dr.id from rfl, List.map_reverse]
    exact nodup_rev d
theorem count_back {p : PS} : count (p.wd (p.ds.reverse.map revD)) = count p := by
  unfold count
  show ((p.ds.reverse.map revD).map fun d => d.tris.length).sum = _
  rw [List.map_map, show ((fun d : Dr => d.tris.length) ∘ revD) = fun d => d.tris.length from funext fun d => List.length_reverse, List.map_reverse, List.sum_reverse]
theorem check_again {p : PS} {d : Dr} (h : check p = 0) (h7 : p.ds.length ≤ 7) (hd : d ∈ p.ds) : check (p.wd (p.ds ++ [d])) = 25 := by
  obtain ⟨a, b, c, e⟩ := check_ok.1 h
  have hk := c d hd
  refine check_bad a (by rw [List.length_append]; simp; omega) (fun x hx => ?_) c e ?_ (by omega)
  · rcases List.mem_append.1 hx with hx | hx
    · exact (c x hx).n
    · obtain rfl : x = d := by simpa using hx
      exact hk.n
  · unfold drawE
    rw [hk.b, if_neg (by simp)]
    have : (p.ds.map Dr.id).contains d.id = true := by
      rw [List.contains_eq_mem]
      exact decide_eq_true (List.mem_map.2 ⟨d, hd, rfl⟩)
    rw [this]
    rfl
theorem set_split {α : Type} {l : List α} {i : Nat} {y : α} (h : i < l.length) : l.set i y = l.take i ++ y :: l.drop (i + 1) := List.set_eq_take_append_cons_drop.trans (if_pos h)
theorem get_split {α : Type} {l : List α} {i : Nat} {x : α} (h : l[i]? = some x) : l = l.take i ++ x :: l.drop (i + 1) := by
  conv => lhs; rw [← List.take_append_drop i l]
  congr 1
  obtain ⟨hi, e⟩ := List.getElem?_eq_some_iff.1 h
  rw [List.drop_eq_getElem_cons hi, e]
theorem mem_set {α : Type} {l : List α} {i : Nat} {y z : α} (h : z ∈ l.set i y) : z ∈ l ∨ z = y := (List.mem_or_eq_of_mem_set h)
/-- Two triangles of one number ahead of a draw's. -/
def twT (d : Dr) : Dr := ⟨d.id, d.prog, d.tex, d.op, [⟨7, 0, 0, 0⟩, ⟨7, 0, 0, 0⟩] ++ d.tris⟩
theorem check_tw {p : PS} {d : Dr} {i : Nat} (h : check p = 0) (hv : 1 ≤ p.vs.length) (hi : p.ds[i]? = some d) (h30 : d.tris.length ≤ 30) : check (p.wd (p.ds.set i (twT d))) = 25 := by
  obtain ⟨a, b, c, e⟩ := check_ok.1 h
  have hk := c d (List.mem_of_getElem? hi)
  have hl : (p.ds.set i (twT d)).length = p.ds.length := List.length_set
  have hm : ∀ x ∈ p.ds.set i (twT d), x.tris.length ≤ 32 := fun x hx => by
    rcases mem_set hx with hx | rfl
    · exact (c x hx).n
    · show ([(⟨7, 0, 0, 0⟩ : Tr), ⟨7, 0, 0, 0⟩] ++ d.tris).length ≤ 32
      rw [List.length_append]
      simp
      omega
  rw [set_split (List.getElem?_eq_some_iff.1 hi).1] at hl hm ⊢
  refine check_bad a (by rw [hl]; exact b) hm (fun x hx => c x (List.mem_of_mem_take hx)) (List.Nodup.sublist ((List.take_sublist _ _).map _) e) ?_ (by omega)
  have hp : ptsB p (twT d) = true := by
    have hb := hk.b
    have h7 : triB p.vs.length ⟨7, 0, 0, 0⟩ = true := by
      unfold triB
      simp only [List.all_cons, List.all_nil, Bool.and_true, Bool.and_eq_true]
      exact ⟨by decide, inB_of (by omega) (by omega), inB_of (by omega) (by omega), inB_of (by omega) (by omega)⟩
    unfold ptsB at hb ⊢
    show (inB d.id 0 9999 && (inB d.prog 0 (p.ps.length - 1) && (texB p d && ([(⟨7, 0, 0, 0⟩ : Tr), ⟨7, 0, 0, 0⟩] ++ d.tris).all (triB p.vs.length)))) = true
    rw [List.all_append]
    simp only [List.all_cons, List.all_nil, h7, Bool.and_true, Bool.true_and]
    exact hb
  unfold drawE
  rw [hp, if_neg (by simp)]
  have ht : twiceB ((twT d).tris.map Tr.i) = true := by
    cases ht : twiceB ((twT d).tris.map Tr.i)
    · have := twiceB_no.1 ht
      have h2 : (7 :: 7 :: d.tris.map Tr.i : List Int).Nodup := this
      simp at h2
    · rfl
  rw [ht, Bool.or_true]
  rfl
/-- Without one of its draws. -/
theorem check_less {p : PS} {i : Nat} (h : check p = 0) : check (p.wd (p.ds.take i ++ p.ds.drop (i + 1))) = 0 := by
  obtain ⟨a, b, c, e⟩ := check_ok.1 h
  have hs : (p.ds.take i ++ p.ds.drop (i + 1)).Sublist p.ds := by
    conv => rhs; rw [← List.take_append_drop i p.ds]
    exact List.Sublist.append (List.Sublist.refl _) (by rw [← List.drop_drop]; exact List.drop_sublist _ _)
  exact check_wd a (Nat.le_trans hs.length_le b) (fun d hd => c d (hs.subset hd)) (List.Nodup.sublist (hs.map _) e)
theorem count_less {p : PS} {d : Dr} {i : Nat} (hi : p.ds[i]? = some d) : (count (p.wd (p.ds.take i ++ p.ds.drop (i + 1))) : Int) = count p - d.tris.length := by
  unfold count
  show ((((p.ds.take i ++ p.ds.drop (i + 1)).map fun d => d.tris.length).sum : Nat) : Int) = ((p.ds.map fun d => d.tris.length).sum : Nat) - (d.tris.length : Int)
  have e : (p.ds.map fun d => d.tris.length).sum = ((p.ds.take i ++ d :: p.ds.drop (i + 1)).map fun d => d.tris.length).sum := by rw [← get_split hi]
  rw [e]
  simp only [List.map_append, List.map_cons, List.sum_append, List.sum_cons]
  omega
/-- With fewer triangles. -/
def cutD (k : Nat) (d : Dr) : Dr := ⟨d.id, d.prog, d.tex, d.op, d.tris.take k⟩
theorem cutD_ok {p : PS} {d : Dr} {k : Nat} (h : p.dok d) : p.dok (cutD k d) := by
  refine ⟨?_, ?_, ?_⟩
  · show (d.tris.take k).length ≤ 32
    have := h.n
    rw [List.length_take]
    omega
  · have hb := h.b
    unfold ptsB at hb ⊢
    show (inB d.id 0 9999 && (inB d.prog 0 (p.ps.length - 1) && (texB p d && (d.tris.take k).all (triB p.vs.length)))) = true
    simp only [Bool.and_eq_true] at hb ⊢
    refine ⟨hb.1, hb.2.1, hb.2.2.1, ?_⟩
    rw [List.all_eq_true]
    exact fun t ht => List.all_eq_true.1 hb.2.2.2 t (List.mem_of_mem_take ht)
  · show ((d.tris.take k).map Tr.i).Nodup
    exact List.Nodup.sublist ((List.take_sublist _ _).map _) h.u
theorem ids_set {l : List Dr} {i : Nat} {d e : Dr} (hi : l[i]? = some d) (he : e.id = d.id) : (l.set i e).map Dr.id = l.map Dr.id := by
  rw [set_split (List.getElem?_eq_some_iff.1 hi).1]
  conv => rhs; rw [get_split hi]
  simp only [List.map_append, List.map_cons, he]
theorem check_cut {p : PS} {d : Dr} {i k : Nat} (h : check p = 0) (hi : p.ds[i]? = some d) : check (p.wd (p.ds.set i (cutD k d))) = 0 := by
  obtain ⟨a, b, c, e⟩ := check_ok.1 h
  refine check_wd a (by rw [List.length_set]; exact b) (fun x hx => ?_) (by rw [ids_set hi (show (cutD k d).id = d.id from rfl)]; exact e)
  rcases mem_set hx with hx | rfl
  · exact c x hx
  · exact cutD_ok (c d (List.mem_of_getElem? hi))
theorem count_cut {p : PS} {d : Dr} {i k : Nat} (hi : p.ds[i]? = some d) (hk : k ≤ d.tris.length) : (count (p.wd (p.ds.set i (cutD k d))) : Int) = count p - d.tris.length + k := by
  unfold count
  show ((((p.ds.set i (cutD k d)).map fun d => d.tris.length).sum : Nat) : Int) = ((p.ds.map fun d => d.tris.length).sum : Nat) - (d.tris.length : Int) + (k : Int)
  rw [set_split (List.getElem?_eq_some_iff.1 hi).1]
  have e : (p.ds.map fun d => d.tris.length).sum = ((p.ds.take i ++ d :: p.ds.drop (i + 1)).map fun d => d.tris.length).sum := by rw [← get_split hi]
  rw [e]
  simp only [List.map_append, List.map_cons, List.sum_append, List.sum_cons]
  have : (cutD k d).tris.length = k := by
    show (d.tris.take k).length = k
    rw [List.length_take]
    omega
  omega
/-- With more vertices and programs that nobody names. -/
def PS.mo (p : PS) (v : List U.V) (l : List (List C.In)) : PS := ⟨p.w, p.h, p.k, p.vs ++ v, p.ts, p.ps ++ l, p.ds⟩
theorem check_more {p : PS} {v : List U.V} {l : List (List C.In)} (h : check p = 0) (hv : v.all U.rightB = true) (hv2 : (p.vs ++ v).length ≤ 64) (hl : l.all (fun l => decide (C.chk l = 0)) = true) (hl2 : (p.ps ++ l).length ≤ 4) : check (p.mo v l) = 0 := by
  obtain ⟨a, b, c, e⟩ := check_ok.1 h
  refine check_ok.2 ⟨⟨a.s, a.k, ⟨hv2, a.room.t, hl2⟩, ?_, a.t, ?_⟩, b, fun d hd => ⟨(c d hd).n, ?_, (c d hd).u⟩, e⟩
  · show (p.vs ++ v).all U.rightB = true
    rw [List.all_append, a.v, hv]
    rfl
  · show (p.ps ++ l).all (fun l => decide (C.chk l = 0)) = true
    rw [List.all_append, a.c, hl]
    rfl
  · have hb := (c d hd).b
    have hin : ∀ {n a : Int} {k m : Nat}, k ≤ m → inB n a ((k : Int) - 1) = true → inB n a ((m : Int) - 1) = true := fun hk hx => by
      have := of_decide_eq_true hx
      exact inB_of this.1 (by omega)
    unfold ptsB at hb ⊢
    show (inB d.id 0 9999 && (inB d.prog 0 ((p.ps ++ l).length - 1) && (texB (p.mo v l) d && d.tris.all (triB (p.vs ++ v).length)))) = true
    simp only [Bool.and_eq_true] at hb ⊢
    obtain ⟨h1, h2, h3, h4⟩ := hb
    have hpr := of_decide_eq_true h2
    refine ⟨h1, hin (by rw [List.length_append]; omega) h2, ?_, ?_⟩
    · rw [← h3]
      unfold texB
      show (if d.tex = -1 then !(((p.ps ++ l).getD d.prog.toNat []).any C.tex) else inB d.tex 0 (p.ts.length - 1)) = (if d.tex = -1 then !((p.ps.getD d.prog.toNat []).any C.tex) else inB d.tex 0 (p.ts.length - 1))
      rw [List.getD_eq_getElem?_getD, List.getD_eq_getElem?_getD, List.getElem?_append_left (by omega)]
    · rw [List.all_eq_true] at h4 ⊢
      intro t ht
      have := h4 t ht
      unfold triB at this ⊢
      simp only [List.all_cons, List.all_nil, Bool.and_true, Bool.and_eq_true] at this ⊢
      obtain ⟨t1, t2, t3, t4⟩ := this
      have hle : p.vs.length ≤ (p.vs ++ v).length := by rw [List.length_append]; omega
      exact ⟨t1, hin hle t2, hin hle t3, hin hle t4⟩
end Go.Proofs.Ytnpcmoeleigpoaa
