/-
  Vertices that are told from another one on are cut alike. No program is named here.
-/
import Derived.Test.YtfheipejbdfjbaaCut
namespace Go.Proofs.Ytfheipejbdfjbaa

def rot (k : Nat) (l : List V) : List V := l.drop k ++ l.take k
theorem rot_length {k : Nat} {l : List V} : (rot k l).length = l.length := by simp [rot]; omega
theorem rot_get {k i : Nat} {l : List V} (hk : k < l.length) (hi : i < l.length) : (rot k l).getD i zV = l.getD ((i + k) % l.length) zV := by
  unfold rot
  rw [List.getD_eq_getElem?_getD, List.getD_eq_getElem?_getD]
  congr 1
  by_cases h : i < l.length - k
  · rw [List.getElem?_append_left (by simp; omega), List.getElem?_drop, Nat.mod_eq_of_lt (by omega), Nat.add_comm]
  · rw [List.getElem?_append_right (by simp; omega), List.length_drop, List.getElem?_take_of_lt (by omega), show i + k = (i - (l.length - k)) + l.length by omega, Nat.add_mod_right, Nat.mod_eq_of_lt (by omega)]
theorem rot_sg {p : Int} {k i : Nat} {l : List V} (hk : k < l.length) (hi : i < l.length) : sg p (rot k l) i = sg p l ((i + k) % l.length) := by
  unfold sg nx
  rw [rot_length, rot_get hk hi, rot_get hk (Nat.mod_lt _ (by omega))]
  congr 2
  rw [Nat.mod_add_mod, Nat.mod_add_mod]
  congr 1
  omega
theorem flatMap_eq {f g : Nat → List V} : ∀ (r : List Nat), (∀ i ∈ r, f i = g i) → r.flatMap f = r.flatMap g
  | [], _ => rfl
  | x :: r, h => by rw [List.flatMap_cons, List.flatMap_cons, h x (by simp), flatMap_eq r fun i hi => h i (by simp [hi])]
theorem flatMap_shift {f : Nat → List V} (k : Nat) : ∀ (r : List Nat), (r.map (k + ·)).flatMap f = r.flatMap fun i => f (k + i)
  | [] => rfl
  | x :: r => by rw [List.map_cons, List.flatMap_cons, List.flatMap_cons, flatMap_shift k r]
theorem byV_rot {p : Int} {k : Nat} {l : List V} (hk : k < l.length) :
    ∃ X Y, byV p l = X ++ Y ∧ byV p (rot k l) = Y ++ X := by
  refine ⟨byK p l k, (List.range (l.length - k)).flatMap fun i => sg p l (k + i), ?_, ?_⟩
  · unfold byV byK
    rw [show l.length = k + (l.length - k) by omega, List.range_add, List.flatMap_append, flatMap_shift, show k + (l.length - k) - k = l.length - k by omega]
  · unfold byV
    rw [rot_length]
    unfold byK
    have e : List.range l.length = List.range (l.length - k) ++ (List.range k).map ((l.length - k) + ·) := by
      rw [← List.range_add, show l.length - k + k = l.length by omega]
    rw [e, List.flatMap_append, flatMap_shift]
    congr 1
    · refine flatMap_eq _ fun i hi => ?_
      have hi : i < l.length - k := by simpa using hi
      rw [rot_sg hk (by omega), Nat.mod_eq_of_lt (by omega), Nat.add_comm]
    · refine flatMap_eq _ fun i hi => ?_
      have hi : i < k := by simpa using hi
      rw [rot_sg hk (by omega), show l.length - k + i + k = i + l.length by omega, Nat.add_mod_right, Nat.mod_eq_of_lt (by omega)]
theorem turn_from {p : Int} {k : Nat} {l : List V} (hk : k < l.length) :
    (byV p (rot k l)).length = (byV p l).length ∧ (byV p l ≠ [] → ∃ F, F < (byV p l).length ∧ rot F (byV p l) = byV p (rot k l)) := by
  obtain ⟨X, Y, e1, e2⟩ := byV_rot (p := p) hk
  rw [e1, e2]
  refine ⟨by simp; omega, fun hne => ?_⟩
  by_cases hY : Y = []
  · subst hY
    refine ⟨0, ?_, by simp [rot]⟩
    rcases Nat.eq_zero_or_pos (X ++ []).length with h | h
    · exact absurd (List.eq_nil_of_length_eq_zero h) hne
    · exact h
  · refine ⟨X.length, ?_, by simp [rot]⟩
    have : 0 < Y.length := by
      rcases Nat.eq_zero_or_pos Y.length with h | h
      · exact absurd (List.eq_nil_of_length_eq_zero h) hY
      · exact h
    simp; omega
theorem rot_ok {P : V → Prop} {k : Nat} {l : List V} (h : ∀ v ∈ l, P v) : ∀ v ∈ rot k l, P v := fun v hv => by
  rcases List.mem_append.1 hv with h1 | h1
  · exact h v (List.mem_of_mem_drop h1)
  · exact h v (List.mem_of_mem_take h1)
end Go.Proofs.Ytfheipejbdfjbaa
