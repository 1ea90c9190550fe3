/-
  What lies in triangles that are cut: of a place on an edge it counts as if it were moved the least to the right, and yet less downwards. Numbers alone; no program is named.
-/
import Derived.WalkKit
namespace Go.Proofs.Ytfdlfjecgefgfaa.Geo

/-- A place. -/
structure Pt where
  x : Int
  y : Int
/-- Above 0, or 0 and upwards, or level and to the right. -/
def pos (c x y : Int) : Prop := 0 < c ∨ (c = 0 ∧ (y < 0 ∨ (y = 0 ∧ 0 < x)))
theorem pos_add {c x y c' x' y' : Int} (h : pos c x y) (h' : pos c' x' y') : pos (c + c') (x + x') (y + y') := by
  unfold pos at *
  omega
theorem pos_scale {m c x y : Int} (hm : 0 < m) (h : pos c x y) : pos (m * c) (m * x) (m * y) := by
  unfold pos at *
  rcases h with h | ⟨rfl, h | ⟨rfl, h⟩⟩
  · exact .inl (Int.mul_pos hm h)
  · exact .inr ⟨by simp, .inl (Int.mul_neg_of_pos_of_neg hm h)⟩
  · exact .inr ⟨by simp, .inr ⟨by simp, Int.mul_pos hm h⟩⟩
theorem pos_not {c x y : Int} (h : pos c x y) : ¬ pos (-c) (-x) (-y) := by
  unfold pos at *
  omega
theorem pos_total {c x y : Int} (h : ¬ (x = 0 ∧ y = 0)) : pos c x y ∨ pos (-c) (-x) (-y) := by
  unfold pos at *
  omega
theorem pos_unscale {m c x y : Int} (hm : 0 < m) (h : pos (m * c) (m * x) (m * y)) : pos c x y := by
  by_cases hz : x = 0 ∧ y = 0
  · obtain ⟨rfl, rfl⟩ := hz
    unfold pos at *
    simp at h ⊢
    rcases (show 0 < c ∨ 0 ≤ -c by omega) with k | k
    · exact k
    · have := Int.mul_nonneg (Int.le_of_lt hm) k
      rw [Int.mul_neg] at this
      omega
  · rcases pos_total (c := c) hz with h' | h'
    · exact h'
    · have k := pos_scale hm h'
      rw [Int.mul_neg, Int.mul_neg, Int.mul_neg] at k
      exact absurd k (pos_not h)
theorem pos_comb {A m n c x y c1 x1 y1 c2 x2 y2 : Int} (hA : 0 < A) (hm : 0 < m) (hn : 0 ≤ n) (hc : A * c = m * c1 + n * c2) (hx : A * x = m * x1 + n * x2) (hy : A * y = m * y1 + n * y2) (h1 : pos c1 x1 y1) (h2 : pos c2 x2 y2) : pos c x y := by
  refine pos_unscale hA ?_
  rw [hc, hx, hy]
  rcases (show n = 0 ∨ 0 < n by omega) with rfl | hn
  · simp only [Int.zero_mul, Int.add_zero]
    exact pos_scale hm h1
  · exact pos_add (pos_scale hm h1) (pos_scale hn h2)
theorem pos_three {m n l c1 x1 y1 c2 x2 y2 c3 x3 y3 : Int} (hm : 0 ≤ m) (hn : 0 ≤ n) (hl : 0 ≤ l) (hs : 0 < m + n + l) (hc : m * c1 + n * c2 + l * c3 = 0) (hx : m * x1 + n * x2 + l * x3 = 0) (hy : m * y1 + n * y2 + l * y3 = 0)
    (h1 : pos c1 x1 y1) (h2 : pos c2 x2 y2) (h3 : pos c3 x3 y3) : False := by
  have way : ∀ {m c x y : Int}, 0 ≤ m → pos c x y → (m = 0 ∧ m * c = 0 ∧ m * x = 0 ∧ m * y = 0) ∨ (0 < m ∧ pos (m * c) (m * x) (m * y)) := fun {m c x y} hm h => by
    rcases (show m = 0 ∨ 0 < m by omega) with rfl | k
    · exact .inl ⟨rfl, by simp, by simp, by simp⟩
    · exact .inr ⟨k, pos_scale k h⟩
  have a1 := way hm h1
  have a2 := way hn h2
  have a3 := way hl h3
  unfold pos at a1 a2 a3
  generalize m * c1 = e1 at *
  generalize m * x1 = e2 at *
  generalize m * y1 = e3 at *
  generalize n * c2 = e4 at *
  generalize n * x2 = e5 at *
  generalize n * y2 = e6 at *
  generalize l * c3 = e7 at *
  generalize l * x3 = e8 at *
  generalize l * y3 = e9 at *
  rcases a1 with a1 | a1 <;> rcases a2 with a2 | a2 <;> rcases a3 with a3 | a3 <;> omega

def cr (a b s : Pt) : Int := (b.x - a.x) * (s.y - a.y) - (b.y - a.y) * (s.x - a.x)
/-- The place is on the inner side of the edge, or on it, and the edge has what lies on it. -/
def W (a b s : Pt) : Prop := pos (cr a b s) (b.x - a.x) (b.y - a.y)
theorem W_not {a b s : Pt} (h : W a b s) : ¬ W b a s := by
  intro h'
  refine pos_not h ?_
  unfold W at h'
  rw [show -cr a b s = cr b a s by unfold cr; grind, show -(b.x - a.x) = a.x - b.x by omega, show -(b.y - a.y) = a.y - b.y by omega]
  exact h'
theorem W_total {a b : Pt} (s : Pt) (h : ¬ (a.x = b.x ∧ a.y = b.y)) : W a b s ∨ W b a s := by
  rcases pos_total (c := cr a b s) (x := b.x - a.x) (y := b.y - a.y) (by omega) with k | k
  · exact .inl k
  · refine .inr ?_
    unfold W
    rw [show cr b a s = -cr a b s by unfold cr; grind, show a.x - b.x = -(b.x - a.x) by omega, show a.y - b.y = -(b.y - a.y) by omega]
    exact k
/-- Within a triangle a, b, s of which the place is on two inner sides: on the inner side of any edge that has the third point on its inner side. -/
theorem W_comb {A m n : Int} {a b a1 b1 a2 b2 s : Pt} (hA : 0 < A) (hm : 0 < m) (hn : 0 ≤ n) (hc : A * cr a b s = m * cr a1 b1 s + n * cr a2 b2 s) (hx : A * (b.x - a.x) = m * (b1.x - a1.x) + n * (b2.x - a2.x)) (hy : A * (b.y - a.y) = m * (b1.y - a1.y) + n * (b2.y - a2.y))
    (h1 : W a1 b1 s) (h2 : W a2 b2 s) : W a b s := pos_comb hA hm hn hc hx hy h1 h2

/-- In a triangle. -/
def In (a b c s : Pt) : Prop := 0 < cr a b c ∧ W a b s ∧ W b c s ∧ W c a s

/-- A four-sided figure without a bay has what its triangles have, cut by its first line from corner to corner. -/
theorem figure {p q r t s : Pt} (h1 : 0 < cr p q r) (h2 : 0 < cr q p t) (h3 : 0 < cr r t q) (h4 : 0 < cr t r p) :
    (In p q r s ∨ In q p t s) ↔ (W q r s ∧ W r p s ∧ W p t s ∧ W t q s) := by
  constructor
  · rintro (⟨-, k1, k2, k3⟩ | ⟨-, k1, k2, k3⟩)
    · refine ⟨k2, k3, ?_, ?_⟩
      · exact W_comb (a1 := r) (b1 := p) (a2 := p) (b2 := q) h1 h2 (Int.le_of_lt h4) (by unfold cr; grind) (by unfold cr; grind) (by unfold cr; grind) k3 k1
      · exact W_comb (a1 := q) (b1 := r) (a2 := p) (b2 := q) h1 h2 (Int.le_of_lt h3) (by unfold cr; grind) (by unfold cr; grind) (by unfold cr; grind) k2 k1
    · refine ⟨?_, ?_, k2, k3⟩
      · exact W_comb (a1 := t) (b1 := q) (a2 := q) (b2 := p) h2 h1 (Int.le_of_lt h3) (by unfold cr; grind) (by unfold cr; grind) (by unfold cr; grind) k3 k1
      · exact W_comb (a1 := p) (b1 := t) (a2 := q) (b2 := p) h2 h1 (Int.le_of_lt h4) (by unfold cr; grind) (by unfold cr; grind) (by unfold cr; grind) k2 k1
  · rintro ⟨k1, k2, k3, k4⟩
    rcases W_total (a := p) (b := q) s (by rintro ⟨e1, e2⟩; unfold cr at h1; rw [e1, e2] at h1; simp at h1) with k | k
    · exact .inl ⟨h1, k, k1, k2⟩
    · exact .inr ⟨h2, k, k3, k4⟩
/-- Two triangles on both sides of an edge have no place in common. -/
theorem apart {p q r t s : Pt} (h : In p q r s) : ¬ In q p t s := fun h' => W_not h.2.1 h'.2.1
/-- Cut either way it has the same. -/
theorem either {p q r t s : Pt} (h1 : 0 < cr p q r) (h2 : 0 < cr q p t) (h3 : 0 < cr r t q) (h4 : 0 < cr t r p) :
    (In p q r s ∨ In q p t s) ↔ (In r t q s ∨ In t r p s) := by
  rw [figure h1 h2 h3 h4, figure h3 h4 h2 h1]
  constructor
  · rintro ⟨a, b, c, d⟩; exact ⟨d, a, b, c⟩
  · rintro ⟨a, b, c, d⟩; exact ⟨b, c, d, a⟩

/-- What is in one of the parts of a triangle that is cut at a place is in the triangle. -/
theorem part_in {a b c p s : Pt} (hA : 0 < cr a b c) (h1 : 0 ≤ cr b c p) (h2 : 0 ≤ cr c a p) (h : In a b p s) : In a b c s := by
  obtain ⟨h0, k1, k2, k3⟩ := h
  refine ⟨hA, k1, ?_, ?_⟩
  · exact W_comb (a1 := b) (b1 := p) (a2 := a) (b2 := b) h0 hA h1 (by unfold cr; grind) (by unfold cr; grind) (by unfold cr; grind) k2 k1
  · exact W_comb (a1 := p) (b1 := a) (a2 := a) (b2 := b) h0 hA h2 (by unfold cr; grind) (by unfold cr; grind) (by unfold cr; grind) k3 k1
theorem in_next {a b c s : Pt} (h : In a b c s) : In b c a s := by
  obtain ⟨h0, k1, k2, k3⟩ := h
  exact ⟨by rw [show cr b c a = cr a b c by unfold cr; grind]; exact h0, k2, k3, k1⟩
/-- What is on the inner side of three edges is in their triangle, which has an area above 0. -/
theorem in_of {a b c s : Pt} (k1 : W a b s) (k2 : W b c s) (k3 : W c a s) : In a b c s := by
  refine ⟨?_, k1, k2, k3⟩
  have k := pos_add (pos_add k1 k2) k3
  unfold pos at k
  have e : cr a b s + cr b c s + cr c a s = cr a b c := by unfold cr; grind
  omega
/-- The parts of a triangle that is cut at a place within it have all that it has. -/
theorem in_part {a b c p s : Pt} (h0 : 0 ≤ cr a b p) (h1 : 0 ≤ cr b c p) (h2 : 0 ≤ cr c a p) (h : In a b c s) : In a b p s ∨ In b c p s ∨ In c a p s := by
  obtain ⟨hA, k1, k2, k3⟩ := h
  have hs : cr a b p + cr b c p + cr c a p = cr a b c := by unfold cr; grind
  by_cases ea : p.x = a.x ∧ p.y = a.y
  · obtain ⟨x, y⟩ := p
    obtain ⟨rfl, rfl⟩ := ea
    exact .inr (.inl (in_of k2 k3 k1))
  by_cases eb : p.x = b.x ∧ p.y = b.y
  · obtain ⟨x, y⟩ := p
    obtain ⟨rfl, rfl⟩ := eb
    exact .inr (.inr (in_of k3 k1 k2))
  by_cases ec : p.x = c.x ∧ p.y = c.y
  · obtain ⟨x, y⟩ := p
    obtain ⟨rfl, rfl⟩ := ec
    exact .inl (in_of k1 k2 k3)
  have ta := W_total s ea
  have tb := W_total s eb
  have tc := W_total s ec
  rcases ta with ta | ta <;> rcases tb with tb | tb <;> rcases tc with tc | tc
  · exact (pos_three h1 h2 h0 (by omega) (by unfold cr; grind) (by unfold cr; grind) (by unfold cr; grind) ta tb tc).elim
  · exact .inr (.inl (in_of k2 tc tb))
  · exact .inl (in_of k1 tb ta)
  · exact .inl (in_of k1 tb ta)
  · exact .inr (.inr (in_of k3 ta tc))
  · exact .inr (.inl (in_of k2 tc tb))
  · exact .inr (.inr (in_of k3 ta tc))
  · exact (pos_three h1 h2 h0 (by omega) (by unfold cr; grind) (by unfold cr; grind) (by unfold cr; grind) ta tb tc).elim
/-- No two of the parts have a place in common. -/
theorem parts_apart {a b c p s : Pt} (h : In a b p s) : ¬ In b c p s := fun h' => W_not h.2.2.1 h'.2.2.2
end Go.Proofs.Ytfdlfjecgefgfaa.Geo
