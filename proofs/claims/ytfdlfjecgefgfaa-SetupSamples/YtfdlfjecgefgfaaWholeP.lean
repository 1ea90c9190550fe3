/-
  Vertices that are put inside of all planes, or outside of one: what the statements make of them, and which parts they have.
-/
import Derived.Test.YtfdlfjecgefgfaaPtsP
import Derived.Test.YtfdlfjecgefgfaaCFit
namespace Go.Proofs.Ytfdlfjecgefgfaa
open Go.RowKit

/-- A vertex whose W is k, put inside of all planes. -/
def inV (k : Int) (v : C.V) : C.V := ⟨v.x.tmod (4 * k + 1), v.y.tmod (4 * k + 1), v.z.tmod (k + 1), k, v.a, v.b, v.c, v.d⟩
/-- A vertex, put outside of plane p. -/
def outV (p : Nat) (v : C.V) : C.V :=
  match p with
  | 0 => { v with z := -v.w - 1 }
  | 1 => { v with x := -4 * v.w - 1 }
  | 2 => { v with x := 4 * v.w + 1 }
  | 3 => { v with y := -4 * v.w - 1 }
  | 4 => { v with y := 4 * v.w + 1 }
  | _ => v
structure In5 (v : C.V) : Prop where
  x : -(4 * v.w) ≤ v.x ∧ v.x ≤ 4 * v.w
  y : -(4 * v.w) ≤ v.y ∧ v.y ≤ 4 * v.w
  z : -v.w ≤ v.z ∧ v.z ≤ v.w
  w : 1 ≤ v.w ∧ v.w ≤ 4096
  a : -4096 ≤ v.a ∧ v.a ≤ 4096
  b : -4096 ≤ v.b ∧ v.b ≤ 4096
  c : -4096 ≤ v.c ∧ v.c ≤ 4096
  d : -4096 ≤ v.d ∧ v.d ≤ 4096
theorem inV_in {k : Int} {v : C.V} (hk : 1 ≤ k ∧ k ≤ 4096) (hv : v.ok) : In5 (inV k v) := by
  have h1 := tmod_bd v.x (4 * k + 1) (by omega)
  have h2 := tmod_bd v.y (4 * k + 1) (by omega)
  have h3 := tmod_bd v.z (k + 1) (by omega)
  exact ⟨by simp only [inV]; omega, by simp only [inV]; omega, by simp only [inV]; omega, hk, hv.a, hv.b, hv.c, hv.d⟩
theorem In5.ok {v : C.V} (h : In5 v) : v.ok := by
  have h0 := h.w
  have h1 := h.x
  have h2 := h.y
  have h3 := h.z
  exact ⟨by omega, by omega, by omega, by omega, h.a, h.b, h.c, h.d⟩
theorem In5.dist {v : C.V} (h : In5 v) (p : Int) : 0 ≤ C.dist p v := by
  have h0 := h.w
  have h1 := h.x
  have h2 := h.y
  have h3 := h.z
  unfold C.dist
  repeat' split
  all_goals omega
theorem outV_ok {p : Nat} {v : C.V} (h : In5 v) : (outV p v).ok := by
  have h0 := h.w
  have h1 := h.x
  have h2 := h.y
  have h3 := h.z
  have ha := h.a
  have hb := h.b
  have hc := h.c
  have hd := h.d
  unfold outV
  split <;> exact ⟨by (try simp only []); omega, by (try simp only []); omega, by (try simp only []); omega, by (try simp only []); omega, by (try simp only []); omega, by (try simp only []); omega, by (try simp only []); omega, by (try simp only []); omega⟩
theorem outV_dist {p : Nat} (hp : p < 5) {v : C.V} (h : In5 v) : C.dist (p : Int) (outV p v) < 0 ∧ ∀ j : Nat, j < p → 0 ≤ C.dist (j : Int) (outV p v) := by
  have h0 := h.w
  have h1 := h.x
  have h2 := h.y
  have h3 := h.z
  obtain rfl | rfl | rfl | rfl | rfl : p = 0 ∨ p = 1 ∨ p = 2 ∨ p = 3 ∨ p = 4 := by omega
  all_goals
    refine ⟨?_, fun j hj => ?_⟩
    · simp [outV, C.dist]
      try omega
    · have hj' : j = 0 ∨ j = 1 ∨ j = 2 ∨ j = 3 := by omega
      rcases hj' with rfl | rfl | rfl | rfl <;> simp [outV, C.dist] <;> omega
theorem polyK_in {l : List C.V} (h : ∀ v ∈ l, ∀ p : Nat, p < 5 → 0 ≤ C.dist (p : Int) v) : ∀ j, j ≤ 5 → C.polyK l j = l
  | 0, _ => rfl
  | j + 1, hj => by
    show C.byV (j : Int) (C.polyK l j) = l
    rw [polyK_in h j (by omega)]
    exact C.byV_in fun v hv => h v hv j (by omega)
theorem polyV_in {a b c : C.V} (ha : In5 a) (hb : In5 b) (hc : In5 c) : C.polyV [a, b, c] = [a, b, c] := by
  have h : C.polyK [a, b, c] 5 = [a, b, c] := polyK_in (fun v hv p _ => by
    simp only [List.mem_cons, List.not_mem_nil, or_false] at hv
    rcases hv with rfl | rfl | rfl
    · exact ha.dist _
    · exact hb.dist _
    · exact hc.dist _) 5 (by omega)
  unfold C.polyV
  rw [h]
  rfl
theorem polyK_stay {l : List C.V} {p : Nat} (h : ∀ v ∈ l, ∀ j : Nat, j < p → 0 ≤ C.dist (j : Int) v) : ∀ j, j ≤ p → C.polyK l j = l
  | 0, _ => rfl
  | j + 1, hj => by
    show C.byV (j : Int) (C.polyK l j) = l
    rw [polyK_stay h j (by omega)]
    exact C.byV_in fun v hv => h v hv j (by omega)
theorem polyK_none {l : List C.V} {p : Nat} (h : C.polyK l p = []) : ∀ d, C.polyK l (p + d) = []
  | 0 => h
  | d + 1 => by
    show C.byV ((p + d : Nat) : Int) (C.polyK l (p + d)) = []
    rw [polyK_none h d]
    rfl
theorem polyV_out {p : Nat} (hp : p < 5) {a b c : C.V} (ha : In5 a) (hb : In5 b) (hc : In5 c) : C.polyV [outV p a, outV p b, outV p c] = [] := by
  have hm : ∀ v ∈ [outV p a, outV p b, outV p c], C.dist (p : Int) v < 0 ∧ ∀ j : Nat, j < p → 0 ≤ C.dist (j : Int) v := fun v hv => by
    simp only [List.mem_cons, List.not_mem_nil, or_false] at hv
    rcases hv with rfl | rfl | rfl
    · exact outV_dist hp ha
    · exact outV_dist hp hb
    · exact outV_dist hp hc
  have h1 : C.polyK [outV p a, outV p b, outV p c] (p + 1) = [] := by
    show C.byV (p : Int) (C.polyK _ p) = []
    rw [polyK_stay (fun v hv => (hm v hv).2) p (Nat.le_refl _)]
    exact C.byV_out fun v hv => (hm v hv).1
  have h2 := polyK_none h1 (4 - p)
  rw [show p + 1 + (4 - p) = 5 by omega] at h2
  unfold C.polyV
  rw [h2]
  rfl
theorem parts_none (m k : Int) : partsV (C.pts m k []) = [] := by
  unfold C.pts
  split <;> rfl
theorem okAll3 {m k : Int} {a b c : C.V} (ha : In5 a) (hb : In5 b) (hc : In5 c) (hm : 1 ≤ m ∧ m ≤ 64) (hk : 1 ≤ k ∧ k ≤ 64) : C.okAll m k [a, b, c] = true := by
  have h1 := ha.w
  have h2 := hb.w
  have h3 := hc.w
  simp [C.okAll, C.okP, C.scr, C.sideB]
  omega
theorem parts_three {m k : Int} {a b c : C.V} (ha : In5 a) (hb : In5 b) (hc : In5 c) (hm : 1 ≤ m ∧ m ≤ 64) (hk : 1 ≤ k ∧ k ≤ 64) :
    partsV (C.pts m k (C.polyV [a, b, c])) = if trO (C.pt m k a) (C.pt m k b) (C.pt m k c) = true then [⟨0, tr1 (C.pt m k a) (C.pt m k b) (C.pt m k c), tr2 (C.pt m k a) (C.pt m k b) (C.pt m k c), tr3 (C.pt m k a) (C.pt m k b) (C.pt m k c)⟩] else [] := by
  rw [polyV_in ha hb hc]
  unfold C.pts
  rw [if_pos (okAll3 ha hb hc hm hk)]
  show triQ [C.pt m k a, C.pt m k b, C.pt m k c] 1 = _
  exact triQ_eq rfl rfl rfl
end Go.Proofs.Ytfdlfjecgefgfaa
