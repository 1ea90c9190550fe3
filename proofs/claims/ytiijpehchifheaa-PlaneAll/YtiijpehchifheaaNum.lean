/-
  A number over a triangle, as a function on numbers: how great crosses are, what is weighed, rounded down; blocks of three numbers.
-/
import Derived.Test.YtiijpehchifheaaQuiet
namespace Go.Proofs.Ytiijpehchifheaa
open Go.RowKit

theorem mul_abs {x u : Int} (h0 : -16384 ≤ x) (h1 : x ≤ 16384) : ∃ k, (k = u ∨ k = -u) ∧ 0 ≤ k ∧ -(16384 * k) ≤ x * u ∧ x * u ≤ 16384 * k := by
  rcases Int.le_total 0 u with h | h
  · refine ⟨u, Or.inl rfl, h, ?_, ?_⟩
    · have := Int.mul_le_mul_of_nonneg_right h0 h
      omega
    · exact Int.mul_le_mul_of_nonneg_right h1 h
  · refine ⟨-u, Or.inr rfl, by omega, ?_, ?_⟩
    · have := Int.mul_le_mul_of_nonneg_right h1 (show 0 ≤ -u by omega)
      rw [Int.mul_neg, Int.mul_neg] at this
      omega
    · have := Int.mul_le_mul_of_nonneg_right h0 (show 0 ≤ -u by omega)
      rw [Int.mul_neg, Int.mul_neg] at this
      omega
theorem crs_three (a b : P) (x y : Int) : crs a b x y = a.x * (b.y - y) + b.x * (y - a.y) + x * (a.y - b.y) := by
  unfold crs
  grind
/-- Within places of 2^14 a cross is 2^30 at most. -/
theorem crs_in {a b : P} {x y : Int} (ha : a.ok) (hb : b.ok) (hx0 : -16384 ≤ x) (hx1 : x ≤ 16384) (hy0 : -16384 ≤ y) (hy1 : y ≤ 16384) :
    -1073741824 ≤ crs a b x y ∧ crs a b x y ≤ 1073741824 := by
  obtain ⟨⟨a0, a1⟩, ⟨a2, a3⟩⟩ := ha
  obtain ⟨⟨b0, b1⟩, ⟨b2, b3⟩⟩ := hb
  obtain ⟨k1, e1, p1, q1, r1⟩ := mul_abs (u := b.y - y) a0 a1
  obtain ⟨k2, e2, p2, q2, r2⟩ := mul_abs (u := y - a.y) b0 b1
  obtain ⟨k3, e3, p3, q3, r3⟩ := mul_abs (u := a.y - b.y) hx0 hx1
  rw [crs_three]
  generalize a.x * (b.y - y) = m1 at *
  generalize b.x * (y - a.y) = m2 at *
  generalize x * (a.y - b.y) = m3 at *
  omega
theorem area_in {a b c : P} (ha : a.ok) (hb : b.ok) (hc : c.ok) : -1073741824 ≤ area a b c ∧ area a b c ≤ 1073741824 := crs_in ha hb hc.x.1 hc.x.2 hc.y.1 hc.y.2
/-- The three crosses of a place together are the area. -/
theorem crs_sum (a b c : P) (x y : Int) : crs b c x y + crs c a x y + crs a b x y = area a b c := by
  unfold area crs
  grind

/-- What three numbers weigh at a place. -/
def wsum (a b c : P) (l m n x y : Int) : Int := l * crs b c x y + m * crs c a x y + n * crs a b x y
/-- A number over a triangle, at a place. -/
def num (a b c : P) (l m n x y : Int) : Int := if area a b c ≤ 0 then 0 else wsum a b c l m n x y / area a b c
/-- Within the least and the greatest of three. -/
def hld (z l m n : Int) : Int := min (max z (min l (min m n))) (max l (max m n))
def dep (a b c : P) (x y : Int) : Int := if area a b c ≤ 0 then 0 else hld (num a b c a.z b.z c.z (16 * x + 8) (16 * y + 8)) a.z b.z c.z

theorem mul_in {m n : Int} (hm0 : -2147483648 ≤ m) (hm1 : m ≤ 2147483648) (hn0 : -1073741824 ≤ n) (hn1 : n ≤ 1073741824) : -2305843009213693952 ≤ m * n ∧ m * n ≤ 2305843009213693952 := by
  have h := mul_bd (B := 2147483648) (C := 1073741824) hm0 hm1 hn0 hn1
  have e : (2147483648 : Int) * 1073741824 = 2305843009213693952 := by decide
  omega
theorem num_pos {a b c : P} {l m n x y : Int} (h : 0 < area a b c) : num a b c l m n x y = wsum a b c l m n x y / area a b c := by
  unfold num
  rw [if_neg (by omega)]
theorem num_neg {a b c : P} {l m n x y : Int} (h : area a b c ≤ 0) : num a b c l m n x y = 0 := by
  unfold num
  rw [if_pos h]
theorem div_is {n c q r : Int} (hc : 0 < c) (h : r + c * q = n) (h0 : 0 ≤ r) (h1 : r < c) : n / c = q :=
  ((Int.ediv_emod_unique hc).2 ⟨h, h0, h1⟩).1
theorem ediv_bd {n c B : Int} (hc : 0 < c) (h0 : -B ≤ n) (h1 : n ≤ B) (hB : 0 ≤ B) : -B ≤ n / c ∧ n / c ≤ B := by
  constructor
  · rw [Int.le_ediv_iff_mul_le hc]
    have : B * 1 ≤ B * c := Int.mul_le_mul_of_nonneg_left (by omega) hB
    rw [Int.neg_mul]
    omega
  · rcases Int.le_total 0 n with g | g
    · exact Int.le_trans (Int.ediv_le_self c g) h1
    · have := Int.ediv_nonpos_of_nonpos_of_neg g hc
      omega

/-- A block of three numbers. -/
def nB (l m n : Int) : Obj := .cells #[.int .i64 l, .int .i64 m, .int .i64 n] 26 (0, 0)
theorem nB_cell {w : World} {g : Nat} {l m n : Int} (h : w.heap[g]? = some (nB l m n)) : w.cell? ⟨g, 0, none⟩ = some (.int .i64 l) ∧ w.cell? ⟨g, 1, none⟩ = some (.int .i64 m) ∧ w.cell? ⟨g, 2, none⟩ = some (.int .i64 n) := by
  unfold nB at h
  simp [World.cell?, h]
theorem nB_free {w : World} {g : Nat} {l m n : Int} (h : w.heap[g]? = some (nB l m n)) (o : Nat) : w.frozen? ⟨g, o, none⟩ = false := by
  unfold nB at h
  simp [World.frozen?, h]
theorem nB_lt {w : World} {g : Nat} {l m n : Int} (h : w.heap[g]? = some (nB l m n)) : g < w.heap.size := World.block_lt_of_cell? _ _ (nB_cell h).1
theorem nB_grow {w w' : World} {g : Nat} {l m n : Int} (h : w.heap[g]? = some (nB l m n)) (k : Below w.heap.size w w') : w'.heap[g]? = some (nB l m n) := (k.block _ (nB_lt h)).trans h
theorem nB_alloc {w : World} {g : Nat} {l m n : Int} (o : Obj) (h : w.heap[g]? = some (nB l m n)) : (w.alloc o).heap[g]? = some (nB l m n) := (Below.heap_alloc _ _ _ (nB_lt h)).trans h
theorem nB_set {w : World} {g : Nat} {l m n : Int} (l' m' n' : Int) (h : w.heap[g]? = some (nB l m n)) : (((w.setCell ⟨g, 0, none⟩ (.int .i64 l')).setCell ⟨g, 1, none⟩ (.int .i64 m')).setCell ⟨g, 2, none⟩ (.int .i64 n')).heap[g]? = some (nB l' m' n') := by
  have h0 := heap_setCell_same w g 0 _ _ (.int .i64 l') h
  have h1 := heap_setCell_same _ g 1 _ _ (.int .i64 m') h0
  exact (heap_setCell_same _ g 2 _ _ (.int .i64 n') h1).trans (by kernel_rfl)
theorem cell_grow {w w' : World} {g o : Nat} {v : Value} (h : w.cell? ⟨g, o, none⟩ = some v) (k : Below w.heap.size w w') : w'.cell? ⟨g, o, none⟩ = some v := by
  rw [k.cell (World.block_lt_of_cell? _ _ h), h]
end Go.Proofs.Ytiijpehchifheaa
