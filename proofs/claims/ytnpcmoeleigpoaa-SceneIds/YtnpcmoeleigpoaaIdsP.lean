/-
  The scenes of SceneIds (pure).
-/
import Derived.Test.YtnpcmoeleigpoaaPure
namespace Go.Proofs.Ytnpcmoeleigpoaa

def idT (i j : Int) : List Tr := [⟨i, 0, 0, 0⟩, ⟨j, 0, 0, 0⟩]
def idD (id i j : Int) : Dr := ⟨id, 0, -1, false, idT i j⟩
def idN (i : Nat) : Dr := idD i 7 (i + 8)
def idP (ds : List Dr) : PS := ⟨1, 1, zC, [⟨0, 0, 0, 1, 0, 0, 0, 0⟩], [], [[⟨1, 0, 0, 0, 0⟩]], ds⟩
def idL (k : Nat) : List Dr := (List.range k).map idN
theorem idL_get {k j : Nat} (h : j < k) : (idL k)[j]? = some (idN j) := by
  unfold idL
  rw [List.getElem?_map, List.getElem?_range h]
  rfl
theorem idL_len (k : Nat) : (idL k).length = k := by simp [idL]
theorem idH {ds : List Dr} (h1 : ds.length ≤ 8) (h2 : ∀ d ∈ ds, d.tris.length ≤ 32) : headE (idP ds) = 0 := by
  have h3 : manyB (idP ds) = false := by
    unfold manyB
    have : (ds.all fun d => decide (d.tris.length ≤ 32)) = true := by
      rw [List.all_eq_true]
      intro d hd
      simpa using h2 d hd
    show (decide (64 < 1) || (decide (4 < 0) || (decide (4 < 1) || (decide (8 < ds.length) || !(ds.all fun d => decide (d.tris.length ≤ 32)))))) = false
    rw [this]
    simp
    omega
  have h4 : (idP ds).vs.all U.rightB = true := by
    show ([⟨0, 0, 0, 1, 0, 0, 0, 0⟩] : List U.V).all U.rightB = true
    decide
  have h5 : ((idP ds).ps.all fun l => decide (C.chk l = 0)) = true := by
    show ([[⟨1, 0, 0, 0, 0⟩]] : List (List C.In)).all (fun l => decide (C.chk l = 0)) = true
    decide
  unfold headE
  rw [h3, h4, h5]
  rfl
theorem idPts (ds : List Dr) (id i j : Int) : ptsB (idP ds) (idD id i j) = (inB id 0 9999 && (inB i 0 9999 && inB j 0 9999)) := by
  have e : texB (idP ds) (idD id i j) = true := rfl
  unfold ptsB
  rw [e]
  have e2 : inB (idD id i j).prog 0 ((idP ds).ps.length - 1) = true := by show inB 0 0 (((1 : Nat) : Int) - 1) = true; decide
  rw [e2]
  show (inB id 0 9999 && (true && (true && [(⟨i, 0, 0, 0⟩ : Tr), ⟨j, 0, 0, 0⟩].all (triB 1)))) = _
  have e3 : ∀ n : Int, triB 1 ⟨n, 0, 0, 0⟩ = inB n 0 9999 := fun n => by
    unfold triB
    have : ([(0 : Int), 0, 0].all fun v => inB v 0 (((1 : Nat) : Int) - 1)) = true := by decide
    rw [this, Bool.and_true]
  simp [e3]
theorem idTw (id i j : Int) : ((idD id i j).tris.map Tr.i).Nodup ↔ i ≠ j := by
  show [i, j].Nodup ↔ _
  simp
theorem idE_zero {ds pre : List Dr} {id i j : Int} : drawE (idP ds) pre (idD id i j) = 0 ↔ (0 ≤ id ∧ id ≤ 9999) ∧ (0 ≤ i ∧ i ≤ 9999) ∧ (0 ≤ j ∧ j ≤ 9999) ∧ id ∉ pre.map Dr.id ∧ i ≠ j := by
  rw [drawE_zero, idPts, idTw]
  unfold inB
  simp only [Bool.and_eq_true, decide_eq_true_eq]
  constructor
  · rintro ⟨⟨a, b, c⟩, d, e⟩
    exact ⟨a, b, c, d, e⟩
  · rintro ⟨a, b, c, d, e⟩
    exact ⟨⟨a, b, c⟩, d, e⟩
/-- The draws, of which the first one is told otherwise. -/
def idF (k : Nat) (d : Dr) : List Dr := (idL k).set 0 d
theorem idF_get {k j : Nat} {d : Dr} (h : j < k) : (idF k d)[j]? = some (if j = 0 then d else idN j) := by
  unfold idF
  rw [List.getElem?_set]
  by_cases e : 0 = j
  · subst e
    simp [idL_len, h]
  · rw [if_neg e, if_neg (fun h => e h.symm)]
    exact idL_get h
theorem idF_len (k : Nat) (d : Dr) : (idF k d).length = k := by unfold idF; rw [List.length_set, idL_len]
theorem idF_few {k : Nat} {d : Dr} (h : d.tris.length ≤ 32) : ∀ x ∈ idF k d, x.tris.length ≤ 32 := by
  intro x hx
  rcases List.mem_or_eq_of_mem_set hx with hx | rfl
  · unfold idL at hx
    obtain ⟨i, -, rfl⟩ := List.mem_map.1 hx
    show 2 ≤ 32
    omega
  · exact h
theorem idF_pre {k m : Nat} {d : Dr} (hm : m ≤ k) {x : Int} : x ∈ ((idF k d).take m).map Dr.id ↔ (0 < m ∧ x = d.id) ∨ (∃ i : Nat, 0 < i ∧ i < m ∧ x = i) := by
  constructor
  · intro h
    obtain ⟨e, he, rfl⟩ := List.mem_map.1 h
    obtain ⟨i, hi⟩ := List.mem_iff_getElem?.1 he
    rw [List.getElem?_take] at hi
    split at hi
    · rename_i him
      rw [idF_get (by omega)] at hi
      split at hi
      · cases hi
        exact .inl ⟨by omega, rfl⟩
      · cases hi
        exact .inr ⟨i, by omega, him, rfl⟩
    · cases hi
  · have key : ∀ i, i < m → ((idF k d).take m)[i]? = some (if i = 0 then d else idN i) := fun i hi => by rw [List.getElem?_take, if_pos hi, idF_get (by omega)]
    rintro (⟨h, rfl⟩ | ⟨i, h0, hi, rfl⟩)
    · exact List.mem_map.2 ⟨d, List.mem_of_getElem? (by have := key 0 h; simpa using this), rfl⟩
    · exact List.mem_map.2 ⟨idN i, List.mem_of_getElem? (by have := key i hi; rw [if_neg (by omega)] at this; exact this), rfl⟩
theorem idF_err {k : Nat} {d : Dr} {m : Nat} (hm : m < k) : errAt (idP (idF k d)) m = drawE (idP (idF k d)) ((idF k d).take m) (if m = 0 then d else idN m) := errAt_eq (s := idP (idF k d)) (idF_get hm)
theorem idF_ok {k : Nat} {id i j : Int} (h0 : 0 < k) (h8 : k ≤ 8) (h1 : 0 ≤ id ∧ id ≤ 9999) (h2 : 0 ≤ i ∧ i ≤ 9999) (h3 : 0 ≤ j ∧ j ≤ 9999) (h4 : i ≠ j) (h5 : ¬ (0 < id ∧ id < k)) : check (idP (idF k (idD id i j))) = 0 := by
  have hH := idH (ds := idF k (idD id i j)) (by rw [idF_len]; exact h8) (idF_few (by show 2 ≤ 32; omega))
  unfold check
  rw [if_pos hH]
  refine errs_good fun m hm => ?_
  have hm : m < k := by rw [show (idP (idF k (idD id i j))).ds = idF k (idD id i j) from rfl, idF_len] at hm; exact hm
  rw [idF_err hm]
  by_cases e : m = 0
  · subst e
    rw [if_pos rfl, idE_zero]
    exact ⟨h1, h2, h3, by simp, h4⟩
  · rw [if_neg e]
    show drawE _ _ (idD m 7 (m + 8)) = 0
    rw [idE_zero, idF_pre (by omega)]
    refine ⟨by omega, by omega, by omega, ?_, by omega⟩
    rintro (⟨-, e2⟩ | ⟨q, -, hq, e2⟩)
    · have : (m : Int) = id := e2
      omega
    · omega
theorem idF_bad {k : Nat} {d : Dr} (h0 : 0 < k) (h8 : k ≤ 8) (hd : d.tris.length ≤ 32) {e : Int} (he : drawE (idP (idF k d)) [] d = e) (hne : e ≠ 0) : check (idP (idF k d)) = e := by
  have hH := idH (ds := idF k d) (by rw [idF_len]; exact h8) (idF_few hd)
  unfold check
  rw [if_pos hH]
  have h := idF_err (k := k) (d := d) h0
  rw [if_pos rfl, List.take_zero] at h
  rw [errs_bad (j := 0) (by rw [show (idP (idF k d)).ds = idF k d from rfl, idF_len]; exact h0) (fun i hi => absurd hi (Nat.not_lt_zero _)) (by rw [h, he]; exact hne), h, he]
theorem idF_same {k : Nat} {id i j : Int} (h8 : k ≤ 8) (h1 : 0 < id) (h2 : id < k) (h3 : 0 ≤ i ∧ i ≤ 9999) (h4 : 0 ≤ j ∧ j ≤ 9999) (h5 : i ≠ j) : check (idP (idF k (idD id i j))) = 25 := by
  have hH := idH (ds := idF k (idD id i j)) (by rw [idF_len]; exact h8) (idF_few (by show 2 ≤ 32; omega))
  obtain ⟨q, rfl⟩ : ∃ q : Nat, id = q := ⟨id.toNat, by omega⟩
  unfold check
  rw [if_pos hH]
  have hq : q < k := by omega
  have h25 : errAt (idP (idF k (idD q i j))) q = 25 := by
    rw [idF_err hq, if_neg (by omega)]
    show drawE _ _ (idD q 7 (q + 8)) = 25
    unfold drawE
    rw [idPts, if_neg, if_pos]
    · rw [List.contains_eq_mem]
      have : (q : Int) ∈ ((idF k (idD q i j)).take q).map Dr.id := (idF_pre (by omega)).2 (.inl ⟨by omega, rfl⟩)
      rw [show decide ((idD (q : Int) 7 (q + 8)).id ∈ ((idF k (idD q i j)).take q).map Dr.id) = true from decide_eq_true this, Bool.true_or]
    · unfold inB
      simp
      omega
  rw [errs_bad (j := q) (by rw [show (idP (idF k (idD q i j))).ds = idF k (idD q i j) from rfl, idF_len]; exact hq) (fun m hm => ?_) (by rw [h25]; decide), h25]
  rw [idF_err (by omega)]
  by_cases e : m = 0
  · subst e
    rw [if_pos rfl, idE_zero]
    exact ⟨by omega, h3, h4, by simp, h5⟩
  · rw [if_neg e]
    show drawE _ _ (idD m 7 (m + 8)) = 0
    rw [idE_zero, idF_pre (by omega)]
    refine ⟨by omega, by omega, by omega, ?_, by omega⟩
    rintro (⟨-, e2⟩ | ⟨q2, -, hq2, e2⟩)
    · have : (m : Int) = q := e2
      omega
    · omega
/-- What the first id makes of it, and what the second one. -/
def want0 (k : Nat) (id : Int) : Int := if 0 ≤ id ∧ id ≤ 9999 then (if 0 < id ∧ id < k then 25 else 0) else 24
def want1 (id : Int) : Int := if id < 0 ∨ 9999 < id then 24 else if id = 7 then 25 else 0
theorem ids_zero {k : Nat} (h0 : 0 < k) (h8 : k ≤ 8) : check (idP (idF k (idD 0 7 8))) = 0 := idF_ok h0 h8 (by omega) (by omega) (by omega) (by omega) (by omega)
theorem idF_self (k : Nat) : idF k (idD 0 7 8) = idL k := by
  apply List.ext_getElem?
  intro j
  rcases Nat.lt_or_ge j k with h | h
  · rw [idF_get h, idL_get h]
    split
    · rename_i e; subst e; rfl
    · rfl
  · rw [List.getElem?_eq_none (by rw [idF_len]; exact h), List.getElem?_eq_none (by rw [idL_len]; exact h)]
theorem ids_first {k : Nat} (h0 : 0 < k) (h8 : k ≤ 8) (id : Int) : check (idP (idF k (idD id 7 8))) = want0 k id := by
  unfold want0
  split
  · rename_i h
    split
    · rename_i h2
      exact idF_same h8 h2.1 h2.2 (by omega) (by omega) (by omega)
    · rename_i h2
      exact idF_ok h0 h8 h (by omega) (by omega) (by omega) h2
  · rename_i h
    refine idF_bad h0 h8 (by show 2 ≤ 32; omega) ?_ (by decide)
    unfold drawE
    rw [if_pos]
    rw [idPts]
    have : inB id 0 9999 = false := by unfold inB; simpa using h
    rw [this]
    rfl
theorem ids_second {k : Nat} (h0 : 0 < k) (h8 : k ≤ 8) (id : Int) : check (idP (idF k (idD 0 7 id))) = want1 id := by
  unfold want1
  split
  · rename_i h
    refine idF_bad h0 h8 (by show 2 ≤ 32; omega) ?_ (by decide)
    unfold drawE
    rw [if_pos]
    rw [idPts]
    have : inB id 0 9999 = false := by unfold inB; simp; omega
    rw [this]
    decide
  · rename_i h
    split
    · rename_i h2
      subst h2
      exact idF_bad h0 h8 (by show 2 ≤ 32; omega) (by rfl) (by decide)
    · rename_i h2
      exact idF_ok h0 h8 (by omega) (by omega) (by omega) (fun e => h2 e.symm) (by omega)
theorem idF_count (k : Nat) (id i j : Int) : count (idP (idF k (idD id i j))) = 2 * k := by
  have h : ∀ l : List Dr, (∀ d ∈ l, d.tris.length = 2) → (l.map fun d => d.tris.length).sum = 2 * l.length := by
    intro l
    induction l with
    | nil => intro _; rfl
    | cons d l ih =>
      intro h
      have h1 := ih fun x hx => h x (by simp [hx])
      have h2 := h d (by simp)
      rw [List.map_cons, List.sum_cons, List.length_cons, h1, h2]
      omega
  unfold count
  show ((idF k (idD id i j)).map fun d => d.tris.length).sum = _
  rw [h, idF_len]
  intro d hd
  rcases List.mem_or_eq_of_mem_set hd with hx | rfl
  · unfold idL at hx
    obtain ⟨i, -, rfl⟩ := List.mem_map.1 hx
    rfl
  · rfl
end Go.Proofs.Ytnpcmoeleigpoaa
