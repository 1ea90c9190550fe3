/-
  What cutting comes to, of lists of vertices: no program is named here.
-/
import Derived.Test.YtfdlfjecgefgfaaCNear
namespace Go.Proofs.Ytfdlfjecgefgfaa.C

def zV : V := ⟨0, 0, 0, 0, 0, 0, 0, 0⟩
/-- The vertex on plane p between a, which is inside, and b, which is not. -/
def onV (p : Int) (a b : V) : V := btV (dist p a) (dist p a - dist p b) a b
def cross (p : Int) (a b : V) : Option V :=
  if 0 ≤ dist p a ∧ dist p b < 0 then some (onV p a b) else if 0 ≤ dist p b ∧ dist p a < 0 then some (onV p b a) else none
def seg (p : Int) (a b : V) : List V := (if 0 ≤ dist p a then [a] else []) ++ (cross p a b).toList
/-- The one behind the i-th, behind the last one the first. -/
def nx (l : List V) (i : Nat) : V := l.getD ((i + 1) % l.length) zV
def sg (p : Int) (l : List V) (i : Nat) : List V := seg p (l.getD i zV) (nx l i)
/-- What the first k vertices leave. -/
def byK (p : Int) (l : List V) (k : Nat) : List V := (List.range k).flatMap (sg p l)
def byV (p : Int) (l : List V) : List V := byK p l l.length
def polyK (l : List V) : Nat → List V
  | 0 => l
  | k + 1 => byV (k : Int) (polyK l k)
def polyV (l : List V) : List V := if (polyK l 5).length < 3 then [] else polyK l 5

theorem seg_in {p : Int} {a b : V} (ha : 0 ≤ dist p a) (hb : 0 ≤ dist p b) : seg p a b = [a] := by
  unfold seg cross
  rw [if_pos ha, if_neg (by omega), if_neg (by omega)]
  rfl
theorem seg_out {p : Int} {a b : V} (ha : dist p a < 0) (hb : dist p b < 0) : seg p a b = [] := by
  unfold seg cross
  rw [if_neg (by omega), if_neg (by omega), if_neg (by omega)]
  rfl
theorem seg_go {p : Int} {a b : V} (ha : 0 ≤ dist p a) (hb : dist p b < 0) : seg p a b = [a, onV p a b] := by
  unfold seg cross
  rw [if_pos ha, if_pos ⟨ha, hb⟩]
  rfl
theorem seg_come {p : Int} {a b : V} (ha : dist p a < 0) (hb : 0 ≤ dist p b) : seg p a b = [onV p b a] := by
  unfold seg cross
  rw [if_neg (by omega), if_neg (by omega), if_pos ⟨hb, ha⟩]
  rfl

theorem byK_succ (p : Int) (l : List V) (k : Nat) : byK p l (k + 1) = byK p l k ++ sg p l k := by simp [byK, List.range_succ]
theorem byK_step {p : Int} {l : List V} {k m : Nat} {u t : V} (hu : l[k]? = some u) (hm : m = (k + 1) % l.length) (ht : l[m]? = some t) : byK p l (k + 1) = byK p l k ++ seg p u t := by
  rw [byK_succ, sg, nx, List.getD_eq_getElem?_getD, List.getD_eq_getElem?_getD, hu, ← hm, ht]
  rfl
theorem getD_mem {l : List V} {i : Nat} (h : i < l.length) : l.getD i zV ∈ l := by
  rw [List.getD_eq_getElem?_getD, List.getElem?_eq_getElem h]
  exact List.getElem_mem h
theorem nx_mem {l : List V} {i : Nat} (h : i < l.length) : nx l i ∈ l := getD_mem (Nat.mod_lt _ (by omega))

theorem map_range_getD (l : List V) : (List.range l.length).map (fun i => l.getD i zV) = l := by
  apply List.ext_getElem
  · simp
  · intro i h1 h2
    simp [List.getD_eq_getElem?_getD, List.getElem?_eq_getElem h2]
theorem flatMap_one {f : Nat → List V} {g : Nat → V} : ∀ (r : List Nat), (∀ i ∈ r, f i = [g i]) → r.flatMap f = r.map g
  | [], _ => rfl
  | x :: r, h => by rw [List.flatMap_cons, List.map_cons, h x (by simp), flatMap_one r fun i hi => h i (by simp [hi])]; rfl
theorem byV_in {p : Int} {l : List V} (h : ∀ v ∈ l, 0 ≤ dist p v) : byV p l = l := by
  have e : ∀ i ∈ List.range l.length, sg p l i = [l.getD i zV] := fun i hi => by
    have hi : i < l.length := by simpa using hi
    exact seg_in (h _ (getD_mem hi)) (h _ (nx_mem hi))
  unfold byV byK
  rw [flatMap_one _ e, map_range_getD]
theorem byV_out {p : Int} {l : List V} (h : ∀ v ∈ l, dist p v < 0) : byV p l = [] := by
  unfold byV byK
  rw [List.flatMap_eq_nil_iff]
  intro i hi
  have hi : i < l.length := by simpa using hi
  exact seg_out (h _ (getD_mem hi)) (h _ (nx_mem hi))
theorem byV_nil (p : Int) : byV p [] = [] := rfl

theorem seg_mem {P : V → Prop} {p : Int} {a b v : V} (ha : P a) (hb : P b) (hc : ∀ a b, P a → P b → 0 ≤ dist p a → dist p b < 0 → P (onV p a b)) (hv : v ∈ seg p a b) : P v := by
  by_cases h0 : 0 ≤ dist p a
  · by_cases h1 : 0 ≤ dist p b
    · rw [seg_in h0 h1] at hv
      simp at hv; subst hv; exact ha
    · rw [seg_go h0 (by omega)] at hv
      simp at hv
      rcases hv with rfl | rfl
      · exact ha
      · exact hc _ _ ha hb h0 (by omega)
  · by_cases h1 : 0 ≤ dist p b
    · rw [seg_come (by omega) h1] at hv
      simp at hv; subst hv
      exact hc _ _ hb ha h1 (by omega)
    · rw [seg_out (by omega) (by omega)] at hv
      simp at hv
theorem byK_mem {P : V → Prop} {p : Int} {l : List V} (hl : ∀ v ∈ l, P v) (hc : ∀ a b, P a → P b → 0 ≤ dist p a → dist p b < 0 → P (onV p a b)) {k : Nat} (hk : k ≤ l.length) : ∀ v ∈ byK p l k, P v := by
  intro v hv
  unfold byK at hv
  rw [List.mem_flatMap] at hv
  obtain ⟨i, hi, hv⟩ := hv
  have hi : i < k := by simpa using hi
  exact seg_mem (hl _ (getD_mem (by omega))) (hl _ (nx_mem (by omega))) hc hv
theorem byV_mem {P : V → Prop} {p : Int} {l : List V} (hl : ∀ v ∈ l, P v) (hc : ∀ a b, P a → P b → 0 ≤ dist p a → dist p b < 0 → P (onV p a b)) : ∀ v ∈ byV p l, P v :=
  byK_mem hl hc (Nat.le_refl _)

/-- 1, if a vertex is inside. -/
def inN (p : Int) (v : V) : Nat := if 0 ≤ dist p v then 1 else 0
theorem inN_le (p : Int) (v : V) : inN p v ≤ 1 := by unfold inN; split <;> omega
theorem seg_len (p : Int) (a b : V) : 2 * (seg p a b).length + inN p b ≤ 3 + inN p a ∧ (seg p a b).length ≤ 2 := by
  unfold inN
  by_cases h0 : 0 ≤ dist p a
  · by_cases h1 : 0 ≤ dist p b
    · rw [seg_in h0 h1, if_pos h0, if_pos h1]; simp
    · rw [seg_go h0 (by omega), if_pos h0, if_neg h1]; simp
  · by_cases h1 : 0 ≤ dist p b
    · rw [seg_come (by omega) h1, if_neg h0, if_pos h1]; simp
    · rw [seg_out (by omega) (by omega), if_neg h0, if_neg h1]; simp
theorem byK_len2 (p : Int) (l : List V) : ∀ k, (byK p l k).length ≤ 2 * k
  | 0 => by simp [byK]
  | k + 1 => by
    have h := byK_len2 p l k
    have h2 := (seg_len p (l.getD k zV) (nx l k)).2
    rw [byK_succ, List.length_append]
    unfold sg
    omega
theorem byV_len2 (p : Int) (l : List V) : (byV p l).length ≤ 2 * l.length := byK_len2 p l _
theorem byK_len3 (p : Int) (l : List V) : ∀ k, 2 * (byK p l k).length + inN p (l.getD (k % l.length) zV) ≤ 3 * k + inN p (l.getD (0 % l.length) zV) ∨ l.length < k
  | 0 => by simp [byK]
  | k + 1 => by
    rcases byK_len3 p l k with h | h
    · by_cases hk : k < l.length
      · left
        have h2 := (seg_len p (l.getD k zV) (nx l k)).1
        rw [byK_succ, List.length_append]
        unfold sg
        rw [Nat.mod_eq_of_lt hk] at h
        unfold nx at h2 ⊢
        omega
      · right; omega
    · right; omega
theorem byV_len3 (p : Int) (l : List V) : 2 * (byV p l).length ≤ 3 * l.length := by
  rcases byK_len3 p l l.length with h | h
  · rw [Nat.mod_self, Nat.zero_mod] at h
    unfold byV
    omega
  · omega

theorem bt_sm {d k a b : Int} (h0 : 0 ≤ d) (h1 : d ≤ k) (hk : 0 < k) (ha : -1048576 ≤ a ∧ a ≤ 1048576) (hb : -1048576 ≤ b ∧ b ≤ 1048576) : -1048576 ≤ bt d k a b ∧ bt d k a b ≤ 1048576 := bt_in h0 h1 hk ha hb
theorem onV_sm {p : Int} {a b : V} (ha : a.sm) (hb : b.sm) (h0 : 0 ≤ dist p a) (h1 : dist p b < 0) : (onV p a b).sm := by
  unfold onV
  generalize dist p a = D at *
  generalize dist p b = E at *
  have k1 : D ≤ D - E := by omega
  have k2 : 0 < D - E := by omega
  exact ⟨bt_sm h0 k1 k2 ha.x hb.x, bt_sm h0 k1 k2 ha.y hb.y, bt_sm h0 k1 k2 ha.z hb.z, bt_sm h0 k1 k2 ha.w hb.w, bt_sm h0 k1 k2 ha.a hb.a, bt_sm h0 k1 k2 ha.b hb.b, bt_sm h0 k1 k2 ha.c hb.c, bt_sm h0 k1 k2 ha.d hb.d⟩
theorem onV_ok {p : Int} {a b : V} (ha : a.ok) (hb : b.ok) (h0 : 0 ≤ dist p a) (h1 : dist p b < 0) : (onV p a b).ok := by
  unfold onV
  exact btV_ok h0 (by omega) (by omega) ha hb
theorem byV_sm {p : Int} {l : List V} (hl : ∀ v ∈ l, v.sm) : ∀ v ∈ byV p l, v.sm := byV_mem hl fun _ _ ha hb h0 h1 => onV_sm ha hb h0 h1
theorem byV_ok {p : Int} {l : List V} (hl : ∀ v ∈ l, v.ok) : ∀ v ∈ byV p l, v.ok := byV_mem hl fun _ _ ha hb h0 h1 => onV_ok ha hb h0 h1
theorem polyK_sm {l : List V} (hl : ∀ v ∈ l, v.sm) : ∀ k, ∀ v ∈ polyK l k, v.sm
  | 0 => hl
  | k + 1 => byV_sm (polyK_sm hl k)
theorem polyK_len (l : List V) : ∀ k, (polyK l k).length ≤ 2 ^ k * l.length
  | 0 => by simp [polyK]
  | k + 1 => by
    have h := polyK_len l k
    have h2 := byV_len2 (k : Int) (polyK l k)
    rw [polyK, Nat.pow_succ, Nat.mul_comm (2 ^ k) 2, Nat.mul_assoc]
    omega
theorem dist_none {p : Int} (h : ¬ (0 ≤ p ∧ p ≤ 4)) (v : V) : dist p v = 0 := by
  unfold dist
  rw [if_neg (by omega), if_neg (by omega), if_neg (by omega), if_neg (by omega), if_neg (by omega)]
theorem byV_none {p : Int} (h : ¬ (0 ≤ p ∧ p ≤ 4)) (l : List V) : byV p l = l := byV_in fun v _ => by rw [dist_none h]; omega
end Go.Proofs.Ytfdlfjecgefgfaa.C
