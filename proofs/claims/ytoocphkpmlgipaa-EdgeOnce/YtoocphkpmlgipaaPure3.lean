/-
  A square cut in two, either way: numbers alone.
-/
import Derived.Test.YtoocphkpmlgipaaPure
namespace Go.Proofs.Ytoocphkpmlgipaa

theorem crs_scale {p q : P} {n dx dy : Int} (x y : Int) (hx : q.x - p.x = n * dx) (hy : q.y - p.y = n * dy) : crs p q x y = n * (dx * (y - p.y) - dy * (x - p.x)) := by
  unfold crs
  rw [hx, hy, Int.mul_assoc, Int.mul_assoc, ← Int.mul_sub]
theorem wth_scale {p q : P} {n k x y : Int} (hn : 0 < n) (h : crs p q x y = n * k) : wth p q x y = true ↔ (0 < k ∨ (k = 0 ∧ fst p q = true)) := by
  unfold wth
  rw [h]
  rcases (show k < 0 ∨ k = 0 ∨ 0 < k by omega) with hk | hk | hk
  · have := Int.mul_neg_of_pos_of_neg hn hk
    simp; omega
  · subst hk
    simp
  · have := Int.mul_pos hn hk
    simp [this, hk]
theorem fst_iff (a b : P) : fst a b = true ↔ (b.y < a.y ∨ (b.y = a.y ∧ a.x < b.x)) := by simp [fst]
theorem edge_iff {p q : P} {n dx dy : Int} (x y : Int) (hn : 0 < n) (hx : q.x - p.x = n * dx) (hy : q.y - p.y = n * dy) :
    wth p q x y = true ↔ (0 < dx * (y - p.y) - dy * (x - p.x) ∨ (dx * (y - p.y) - dy * (x - p.x) = 0 ∧ (q.y < p.y ∨ (q.y = p.y ∧ p.x < q.x)))) := by
  rw [wth_scale hn (crs_scale x y hx hy), fst_iff]
theorem inn_iff (a b c : P) (x y : Int) : inn a b c x y = true ↔ (0 < area a b c ∧ wth a b x y = true ∧ wth b c x y = true ∧ wth c a x y = true) := by
  simp [inn]

theorem once_in {a b c d : P} {n : Int} (x y : Int) (hn : 0 < n) (hbx : b.x = a.x + n) (hby : b.y = a.y) (hcx : c.x = a.x + n) (hcy : c.y = a.y + n) (hdx : d.x = a.x) (hdy : d.y = a.y + n) :
    (inn a b c x y = true ↔ (a.y ≤ y ∧ x < a.x + n ∧ y - a.y ≤ x - a.x)) ∧ (inn a c d x y = true ↔ (a.x ≤ x ∧ y < a.y + n ∧ x - a.x < y - a.y)) ∧
    (inn a b d x y = true ↔ (a.y ≤ y ∧ a.x ≤ x ∧ (x - a.x) + (y - a.y) < n)) ∧ (inn b c d x y = true ↔ (x < a.x + n ∧ y < a.y + n ∧ n ≤ (x - a.x) + (y - a.y))) := by
  have hnn : 0 < n * n := Int.mul_pos hn hn
  have p1 : 0 < area a b c := by
    unfold area
    rw [crs_scale (n := n) (dx := 1) (dy := 0) _ _ (by omega) (by omega), show 1 * (c.y - a.y) - 0 * (c.x - a.x) = n by omega]; exact hnn
  have p2 : 0 < area a c d := by
    unfold area
    rw [crs_scale (n := n) (dx := 1) (dy := 1) _ _ (by omega) (by omega), show 1 * (d.y - a.y) - 1 * (d.x - a.x) = n by omega]; exact hnn
  have p3 : 0 < area a b d := by
    unfold area
    rw [crs_scale (n := n) (dx := 1) (dy := 0) _ _ (by omega) (by omega), show 1 * (d.y - a.y) - 0 * (d.x - a.x) = n by omega]; exact hnn
  have p4 : 0 < area b c d := by
    unfold area
    rw [crs_scale (n := n) (dx := 0) (dy := 1) _ _ (by omega) (by omega), show 0 * (d.y - b.y) - 1 * (d.x - b.x) = n by omega]; exact hnn
  have wab := edge_iff (p := a) (q := b) (n := n) (dx := 1) (dy := 0) x y hn (by omega) (by omega)
  have wbc := edge_iff (p := b) (q := c) (n := n) (dx := 0) (dy := 1) x y hn (by omega) (by omega)
  have wca := edge_iff (p := c) (q := a) (n := n) (dx := -1) (dy := -1) x y hn (by omega) (by omega)
  have wac := edge_iff (p := a) (q := c) (n := n) (dx := 1) (dy := 1) x y hn (by omega) (by omega)
  have wcd := edge_iff (p := c) (q := d) (n := n) (dx := -1) (dy := 0) x y hn (by omega) (by omega)
  have wda := edge_iff (p := d) (q := a) (n := n) (dx := 0) (dy := -1) x y hn (by omega) (by omega)
  have wbd := edge_iff (p := b) (q := d) (n := n) (dx := -1) (dy := 1) x y hn (by omega) (by omega)
  have wdb := edge_iff (p := d) (q := b) (n := n) (dx := 1) (dy := -1) x y hn (by omega) (by omega)
  rw [inn_iff, inn_iff, inn_iff, inn_iff, wab, wbc, wca, wac, wcd, wda, wbd, wdb]
  refine ⟨?_, ?_, ?_, ?_⟩ <;> omega
theorem bool_cases {b : Bool} {p : Prop} (h : b = true ↔ p) : (b = true ∧ p) ∨ (b = false ∧ ¬ p) := by
  cases b
  · exact .inr ⟨rfl, fun hp => by simpa using h.2 hp⟩
  · exact .inl ⟨rfl, h.1 rfl⟩
/-- In just one of two if within the square, else in none. -/
theorem once_ways {a b c d : P} {n : Int} (x y : Int) (hn : 0 < n) (hbx : b.x = a.x + n) (hby : b.y = a.y) (hcx : c.x = a.x + n) (hcy : c.y = a.y + n) (hdx : d.x = a.x) (hdy : d.y = a.y + n) (wh : Bool)
    (hw : wh = true ↔ (a.x ≤ x ∧ x < a.x + n ∧ a.y ≤ y ∧ y < a.y + n)) :
    (wh = false ∧ (inn a b c x y = false ∧ inn a c d x y = false) ∧ (inn a b d x y = false ∧ inn b c d x y = false)) ∨
    (wh = true ∧ ((inn a b c x y = true ∧ inn a c d x y = false) ∨ (inn a b c x y = false ∧ inn a c d x y = true)) ∧ ((inn a b d x y = true ∧ inn b c d x y = false) ∨ (inn a b d x y = false ∧ inn b c d x y = true))) := by
  obtain ⟨h1, h2, h3, h4⟩ := once_in x y hn hbx hby hcx hcy hdx hdy
  have k0 := bool_cases hw
  have k1 := bool_cases h1
  have k2 := bool_cases h2
  have k3 := bool_cases h3
  have k4 := bool_cases h4
  clear hw h1 h2 h3 h4 hbx hby hcx hcy hdx hdy
  generalize inn a b c x y = r1 at *
  generalize inn a c d x y = r2 at *
  generalize inn a b d x y = r3 at *
  generalize inn b c d x y = r4 at *
  rcases k0 with ⟨rfl, k0⟩ | ⟨rfl, k0⟩ <;> rcases k1 with ⟨rfl, k1⟩ | ⟨rfl, k1⟩ <;> rcases k2 with ⟨rfl, k2⟩ | ⟨rfl, k2⟩ <;> rcases k3 with ⟨rfl, k3⟩ | ⟨rfl, k3⟩ <;> rcases k4 with ⟨rfl, k4⟩ | ⟨rfl, k4⟩ <;>
    first
    | (exfalso; omega)
    | simp
end Go.Proofs.Ytoocphkpmlgipaa
