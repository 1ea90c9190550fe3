/-
  Which scenes may be, or why not (pure): as both package scene and the reference tell it.
-/
import Derived.Test.YtnpcmoeleigpoaaTwice
namespace Go.Proofs.Ytnpcmoeleigpoaa

structure PS where
  w : Int
  h : Int
  k : Col
  vs : List U.V
  ts : List Tx
  ps : List (List C.In)
  ds : List Dr
def Sc.p (s : Sc) : PS := ⟨s.w, s.h, s.k, s.vs, s.ts.map Lo.x, s.ps.map Lo.x, s.ds.map Lo.x⟩
def triB (m : Nat) (t : Tr) : Bool := inB t.i 0 9999 && [t.a, t.b, t.c].all (fun v => inB v 0 (m - 1))
def texB (s : PS) (d : Dr) : Bool := if d.tex = -1 then !((s.ps.getD d.prog.toNat []).any C.tex) else inB d.tex 0 (s.ts.length - 1)
def ptsB (s : PS) (d : Dr) : Bool := inB d.id 0 9999 && (inB d.prog 0 (s.ps.length - 1) && (texB s d && d.tris.all (triB s.vs.length)))
/-- What is wrong with a draw, of which those ahead of it are told. -/
def drawE (s : PS) (pre : List Dr) (d : Dr) : Int := if ptsB s d = false then 24 else if (pre.map Dr.id).contains d.id || twiceB (d.tris.map Tr.i) then 25 else 0
def errAt (s : PS) (k : Nat) : Int := match s.ds[k]? with
  | some d => drawE s (s.ds.take k) d
  | none => 0
/-- The first that is not 0, from k on, of n. -/
def firstE (f : Nat → Int) : Nat → Nat → Int
  | _, 0 => 0
  | k, n + 1 => if f k = 0 then firstE f (k + 1) n else f k
def manyB (s : PS) : Bool := decide (64 < s.vs.length) || (decide (4 < s.ts.length) || (decide (4 < s.ps.length) || (decide (8 < s.ds.length) || !(s.ds.all fun d => decide (d.tris.length ≤ 32)))))
def headE (s : PS) : Int :=
  if (inB s.w 1 64 && inB s.h 1 64) = false then 20
  else if rightB s.k = false then 1
  else if manyB s = true then 26
  else if s.vs.all U.rightB = false then 21
  else if s.ts.all Tx.right = false then 22
  else if s.ps.all (fun l => decide (C.chk l = 0)) = false then 23
  else 0
def check (s : PS) : Int := if headE s = 0 then firstE (errAt s) 0 s.ds.length else headE s
def count (s : PS) : Nat := (s.ds.map fun d => d.tris.length).sum

theorem firstE_good (f : Nat → Int) : ∀ (n k : Nat), (∀ j, k ≤ j → j < k + n → f j = 0) → firstE f k n = 0
  | 0, _, _ => rfl
  | n + 1, k, h => by
    unfold firstE
    rw [if_pos (h k (by omega) (by omega))]
    exact firstE_good f n (k + 1) fun j h1 h2 => h j (by omega) (by omega)
theorem firstE_bad (f : Nat → Int) : ∀ (n k j : Nat), k ≤ j → j < k + n → (∀ i, k ≤ i → i < j → f i = 0) → f j ≠ 0 → firstE f k n = f j
  | 0, k, j, h1, h2, _, _ => by omega
  | n + 1, k, j, h1, h2, h3, h4 => by
    unfold firstE
    by_cases e : k = j
    · subst e
      rw [if_neg h4]
    · rw [if_pos (h3 k (by omega) (by omega))]
      exact firstE_bad f n (k + 1) j (by omega) (by omega) (fun i a b => h3 i (by omega) b) h4
theorem errs_good {s : PS} {n : Nat} (h : ∀ j, j < n → errAt s j = 0) : firstE (errAt s) 0 n = 0 := firstE_good _ _ _ fun j _ hj => h j (by omega)
theorem errs_bad {s : PS} {n j : Nat} (hj : j < n) (h : ∀ i, i < j → errAt s i = 0) (he : errAt s j ≠ 0) : firstE (errAt s) 0 n = errAt s j := firstE_bad _ _ _ _ (by omega) (by omega) (fun i _ hi => h i hi) he
theorem errAt_eq {s : PS} {k : Nat} {d : Dr} (h : s.ds[k]? = some d) : errAt s k = drawE s (s.ds.take k) d := by
  unfold errAt
  rw [h]
theorem drawE_zero {s : PS} {pre : List Dr} {d : Dr} : drawE s pre d = 0 ↔ ptsB s d = true ∧ d.id ∉ pre.map Dr.id ∧ (d.tris.map Tr.i).Nodup := by
  unfold drawE
  rw [← twiceB_no]
  cases h1 : ptsB s d
  · simp
  · rw [if_neg (by simp), List.contains_eq_mem]
    cases h3 : twiceB (d.tris.map Tr.i)
    · by_cases h2 : d.id ∈ pre.map Dr.id
      · simp [h2]
      · simp [h2]
    · simp
theorem take_snoc {α : Type} {l : List α} {k : Nat} {u : α} (h : l[k]? = some u) : l.take (k + 1) = l.take k ++ [u] := by
  rw [List.take_add_one, h]
  rfl
theorem nodup_snoc {l : List Int} {x : Int} : (l ++ [x]).Nodup ↔ l.Nodup ∧ x ∉ l := by
  rw [List.nodup_append]
  constructor
  · rintro ⟨h1, _, h3⟩
    exact ⟨h1, fun hx => h3 x hx x (by simp) rfl⟩
  · rintro ⟨h1, h2⟩
    refine ⟨h1, by simp, fun a ha b hb e => ?_⟩
    simp only [List.mem_singleton] at hb
    subst hb e
    exact h2 ha
/-- Of draws that are right so far no two have one id. -/
theorem errs_nodup {s : PS} : ∀ {k : Nat}, k ≤ s.ds.length → (∀ j, j < k → errAt s j = 0) → ((s.ds.take k).map Dr.id).Nodup
  | 0, _, _ => by simp
  | k + 1, hk, h => by
    obtain ⟨d, hd⟩ := get_lt (l := s.ds) (k := k) (by omega)
    have h0 := h k (by omega)
    rw [errAt_eq hd, drawE_zero] at h0
    rw [take_snoc hd, List.map_append]
    exact nodup_snoc.2 ⟨errs_nodup (by omega) fun j hj => h j (by omega), h0.2.1⟩
theorem twice_last {l : List Int} {x : Int} (h : l.Nodup) : twiceB (l ++ [x]) = l.contains x := by
  rw [List.contains_eq_mem]
  by_cases hx : x ∈ l
  · have : ¬ twiceB (l ++ [x]) = false := fun e => (nodup_snoc.1 (twiceB_no.1 e)).2 hx
    simpa [hx] using this
  · have := twiceB_no.2 (nodup_snoc.2 ⟨h, hx⟩)
    simpa [hx] using this
theorem nodup_apart {l : List Int} (h : l.Nodup) {i j : Nat} {x : Int} (hij : i < j) (hi : l[i]? = some x) (hj : l[j]? = some x) : False := by
  obtain ⟨i1, i2⟩ := List.getElem?_eq_some_iff.1 hi
  obtain ⟨j1, j2⟩ := List.getElem?_eq_some_iff.1 hj
  exact List.pairwise_iff_getElem.1 h i j i1 j1 hij (i2.trans j2.symm)
theorem check_zero {s : PS} : check s = 0 ↔ headE s = 0 ∧ (∀ d ∈ s.ds, ptsB s d = true ∧ (d.tris.map Tr.i).Nodup) ∧ (s.ds.map Dr.id).Nodup := by
  unfold check
  by_cases h0 : headE s = 0
  · rw [if_pos h0]
    constructor
    · intro h
      have hall : ∀ j, j < s.ds.length → errAt s j = 0 := by
        intro j
        induction j using Nat.strongRecOn with
        | _ j ih =>
          intro hj
          by_cases e : errAt s j = 0
          · exact e
          · rw [errs_bad hj (fun i hi => ih i hi (by omega)) e] at h
            exact absurd h e
      refine ⟨h0, fun d hd => ?_, ?_⟩
      · obtain ⟨j, hj⟩ := List.mem_iff_getElem?.1 hd
        have := hall j (List.getElem?_eq_some_iff.1 hj).1
        rw [errAt_eq hj, drawE_zero] at this
        exact ⟨this.1, this.2.2⟩
      · have := errs_nodup (Nat.le_refl _) hall
        rwa [List.take_length] at this
    · rintro ⟨-, h1, h2⟩
      refine errs_good fun j hj => ?_
      obtain ⟨d, hd⟩ := get_lt hj
      rw [errAt_eq hd, drawE_zero]
      obtain ⟨a, b⟩ := h1 d (List.mem_of_getElem? hd)
      refine ⟨a, fun hm => ?_, b⟩
      obtain ⟨e, he, hid⟩ := List.mem_map.1 hm
      obtain ⟨i, hi⟩ := List.mem_iff_getElem?.1 he
      rw [List.getElem?_take] at hi
      split at hi
      · rename_i hij
        have hl := (List.getElem?_eq_some_iff.1 hi).1
        have h3 : (s.ds.map Dr.id)[i]? = some d.id := by rw [List.getElem?_map, hi, ← hid]; rfl
        have h4 : (s.ds.map Dr.id)[j]? = some d.id := by rw [List.getElem?_map, hd]; rfl
        exact nodup_apart h2 hij h3 h4
      · cases hi
  · rw [if_neg h0]
    exact ⟨fun h => absurd h h0, fun h => absurd h.1 h0⟩
end Go.Proofs.Ytnpcmoeleigpoaa
