/-
  What becomes of three vertices that may be: points within 2^16, parts with an area, numbers that rise.
-/
import Derived.Test.YtfdlfjecgefgfaaPartP
import Derived.Test.YtfdlfjecgefgfaaCFar
import Derived.Test.YtfdlfjecgefgfaaCPoints
namespace Go.Proofs.Ytfdlfjecgefgfaa
open Go.RowKit

theorem along_sm {x m w : Int} (hw : 1 ≤ w) (h0 : -(4 * w) - 25 ≤ x) (h1 : x ≤ 4 * w + 25) (hm0 : 1 ≤ m) (hm1 : m ≤ 64) : -65536 ≤ C.along x (8 * m) w ∧ C.along x (8 * m) w ≤ 65536 := by
  unfold C.along
  have a0 : -(29 * w) ≤ x := by omega
  have a1 : x ≤ 29 * w := by omega
  have b1 : x * (8 * m) ≤ (29 * w) * (8 * m) := Int.mul_le_mul_of_nonneg_right a1 (by omega)
  have b0 : (-(29 * w)) * (8 * m) ≤ x * (8 * m) := Int.mul_le_mul_of_nonneg_right a0 (by omega)
  have e1 : (29 * w) * (8 * m) = (232 * m) * w := by grind
  have e0 : (-(29 * w)) * (8 * m) = (-(232 * m)) * w := by grind
  rw [e1] at b1
  rw [e0] at b0
  have c1 : x * (8 * m) / w ≤ 232 * m := Int.ediv_le_of_le_mul (by omega) b1
  have c0 : -(232 * m) ≤ x * (8 * m) / w := Int.le_ediv_of_mul_le (by omega) b0
  omega
theorem pt_sm {m k : Int} {v : C.V} (hv : v.ok) (hd : ∀ j : Nat, j < 5 → -25 ≤ C.dist (j : Int) v) (hm : 1 ≤ m ∧ m ≤ 64) (hk : 1 ≤ k ∧ k ≤ 64) : (C.pt m k v).sm := by
  have d1 := hd 1 (by omega)
  have d2 := hd 2 (by omega)
  have d3 := hd 3 (by omega)
  have d4 := hd 4 (by omega)
  have w0 := hv.w
  simp only [C.dist, Int.natCast_one] at d1 d2 d3 d4
  simp at d1 d2 d3 d4
  exact ⟨along_sm (by omega) (by omega) (by omega) hm.1 hm.2, along_sm (by omega) (by omega) (by omega) hk.1 hk.2⟩
/-- What the contracts of Parts ask for. -/
theorem parts_ok {m k : Int} {a b c : C.V} (ha : a.ok) (hb : b.ok) (hc : c.ok) (hm : 1 ≤ m ∧ m ≤ 64) (hk : 1 ≤ k ∧ k ≤ 64) :
    (∀ p ∈ C.pts m k (C.polyV [a, b, c]), p.sm) ∧ (C.polyV [a, b, c]).length ≤ 24 ∧ (∀ v ∈ C.polyV [a, b, c], v.sm) := by
  have hl : ∀ v ∈ [a, b, c], v.ok := by
    intro v hv
    simp only [List.mem_cons, List.not_mem_nil, or_false] at hv
    rcases hv with rfl | rfl | rfl
    · exact ha
    · exact hb
    · exact hc
  obtain ⟨h1, -, -, h2⟩ := C.few_facts hl (by simp)
  refine ⟨fun p hp => ?_, h1, fun v hv => (h2 v hv).1.sm⟩
  unfold C.pts at hp
  split at hp
  · obtain ⟨v, hv, rfl⟩ := List.mem_map.1 hp
    exact pt_sm (h2 v hv).1 (h2 v hv).2 hm hk
  · cases hp

theorem area_swap (a b c : P) : area a c b = -area a b c := by unfold area crs; grind
theorem tr_area {a b c : P} (h : trO a b c = true) : 0 < area (tr1 a b c) (tr2 a b c) (tr3 a b c) := by
  have h0 : area a b c ≠ 0 := by unfold trO at h; simpa using h
  unfold tr1 tr2 tr3
  rw [if_neg h0, if_neg h0, if_neg h0]
  by_cases hn : area a b c < 0
  · rw [if_pos hn, if_pos hn, area_swap]; omega
  · rw [if_neg hn, if_neg hn]; omega
theorem tr_sm {a b c : P} (ha : a.sm) (hb : b.sm) (hc : c.sm) : (tr1 a b c).sm ∧ (tr2 a b c).sm ∧ (tr3 a b c).sm := by
  have z : zP.sm := by constructor <;> decide
  unfold tr1 tr2 tr3
  refine ⟨?_, ?_, ?_⟩ <;> (repeat' split) <;> assumption
structure Q.good (q : Q) : Prop where
  area : 0 < area q.a q.b q.c
  a : q.a.sm
  b : q.b.sm
  c : q.c.sm
  n : 0 ≤ q.n
theorem getD_sm {L : List P} (h : ∀ p ∈ L, p.sm) (i : Nat) : (L.getD i zP).sm := by
  rw [List.getD_eq_getElem?_getD]
  cases e : L[i]? with
  | none => exact by constructor <;> decide
  | some p => exact h p (List.mem_of_getElem? e)
theorem triQ_good {L : List P} (h : ∀ p ∈ L, p.sm) {i : Nat} (hi : 1 ≤ i) : ∀ q ∈ triQ L i, q.good ∧ q.n + 1 = i := by
  intro q hq
  unfold triQ at hq
  split at hq
  · rename_i ho
    obtain rfl := List.mem_singleton.1 hq
    obtain ⟨s1, s2, s3⟩ := tr_sm (getD_sm h 0) (getD_sm h i) (getD_sm h (i + 1))
    exact ⟨⟨tr_area ho, s1, s2, s3, by simp; omega⟩, by simp⟩
  · cases hq
theorem partsK_good {L : List P} (h : ∀ p ∈ L, p.sm) : ∀ i, (∀ q ∈ partsK L i, q.good ∧ q.n + 1 < i) ∧ (partsK L i).Pairwise (fun p q => p.n < q.n)
  | 0 => ⟨fun q hq => (by cases hq), List.Pairwise.nil⟩
  | 1 => ⟨fun q hq => (by cases hq), List.Pairwise.nil⟩
  | i + 2 => by
    obtain ⟨h1, h2⟩ := partsK_good h (i + 1)
    have h3 := triQ_good h (i := i + 1) (by omega)
    show (∀ q ∈ partsK L (i + 1) ++ triQ L (i + 1), _) ∧ (partsK L (i + 1) ++ triQ L (i + 1)).Pairwise _
    refine ⟨fun q hq => ?_, List.pairwise_append.2 ⟨h2, ?_, fun p hp q hq => ?_⟩⟩
    · rcases List.mem_append.1 hq with hq | hq
      · obtain ⟨g, hn⟩ := h1 q hq
        exact ⟨g, by omega⟩
      · obtain ⟨g, hn⟩ := h3 q hq
        exact ⟨g, by omega⟩
    · unfold triQ; split <;> simp
    · obtain ⟨_, a1⟩ := h1 p hp
      obtain ⟨_, a2⟩ := h3 q hq
      omega
/-- What SetupParts asks. -/
theorem partsV_facts {L : List P} (h : ∀ p ∈ L, p.sm) (hl : L.length ≤ 24) : (partsV L).length ≤ 22 ∧ (∀ q ∈ partsV L, q.good ∧ q.n ≤ 22) ∧ ∀ i p q, (partsV L)[i]? = some p → (partsV L)[i + 1]? = some q → p.n < q.n := by
  obtain ⟨h1, h2⟩ := partsK_good h (L.length - 1)
  have hn : ∀ q ∈ partsV L, q.good ∧ q.n ≤ 22 := fun q hq => ⟨(h1 q hq).1, by have := (h1 q hq).2; omega⟩
  refine ⟨?_, hn, fun i p q hp hq => ?_⟩
  · have hb : ∀ n : Nat, (partsK L (n + 1)).length ≤ n := by
      intro n
      induction n with
      | zero => simp [partsK]
      | succ n ih =>
        have h' := triQ_len L (n + 1)
        simp only [partsK, List.length_append]
        omega
    unfold partsV
    rcases Nat.eq_zero_or_pos (L.length - 1) with e | e
    · rw [e]; simp [partsK]
    · have := hb (L.length - 2)
      rw [show L.length - 2 + 1 = L.length - 1 by omega] at this
      omega
  · have l1 : i < (partsV L).length := (List.getElem?_eq_some_iff.1 hp).1
    have l2 : i + 1 < (partsV L).length := (List.getElem?_eq_some_iff.1 hq).1
    obtain ⟨_, rfl⟩ := List.getElem?_eq_some_iff.1 hp
    obtain ⟨_, rfl⟩ := List.getElem?_eq_some_iff.1 hq
    exact List.pairwise_iff_getElem.1 h2 i (i + 1) l1 l2 (by omega)
end Go.Proofs.Ytfdlfjecgefgfaa
