/-
  The walk of glazierlaw02.ColourHides.
-/
import Derived.Test.YtpnjhmmodkhmfaaMean
import Derived.Test.YtpnjhmmodkhmfaaFew
import Derived.Test.YtpnjhmmodkhmfaaBetwW
import Derived.Deep.AppendLies
namespace Go.Proofs.Ytpnjhmmodkhmfaa
open Go.RowKit
attribute [local go_sem ↓] Go.wp_at_zero Go.wp_at_succ

def wholeOf (c : Col) : Col := ⟨c.r, c.g, c.b, 255⟩
def noneC : Col := ⟨0, 0, 0, 0⟩
theorem wholeOf_ok {c : Col} (h : c.ok) : (wholeOf c).ok := ⟨h.1, h.2.1, h.2.2.1, show (0 : Int) ≤ 255 by decide, show (255 : Int) ≤ 255 by decide⟩
theorem noneC_ok : noneC.ok := ⟨⟨by decide, by decide⟩, ⟨by decide, by decide⟩, ⟨by decide, by decide⟩, ⟨by decide, by decide⟩⟩
theorem over1_255 {x y : Int} (h : x ≤ 255) : over1 x y 255 = x := by
  unfold over1 sat dv
  rw [show y * (255 - 255) = 0 from by omega, if_neg (by omega)]
  omega
theorem over1_00 {y : Int} (h : y ≤ 255) : over1 0 y 0 = y := by
  unfold over1 sat dv
  rw [if_neg (by omega)]
  omega
theorem over1_x0 {x a : Int} (h : x ≤ 255) : over1 x 0 a = x := by
  unfold over1 sat dv
  rw [Int.zero_mul, if_neg (by omega)]
  omega
theorem over_whole {c q : Col} (h : c.ok) : over (wholeOf c) q = wholeOf c := by
  show Col.mk (over1 c.r q.r 255) (over1 c.g q.g 255) (over1 c.b q.b 255) (over1 255 q.a 255) = _
  rw [over1_255 h.1.2, over1_255 h.2.1.2, over1_255 h.2.2.1.2, over1_255 (by decide)]
  rfl
theorem over_none {q : Col} (h : q.ok) : over noneC q = q := by
  show Col.mk (over1 0 q.r 0) (over1 0 q.g 0) (over1 0 q.b 0) (over1 0 q.a 0) = _
  rw [over1_00 h.1.2, over1_00 h.2.1.2, over1_00 h.2.2.1.2, over1_00 h.2.2.2.2]
theorem over_at_none {c : Col} (h : c.ok) : over c noneC = c := by
  show Col.mk (over1 c.r 0 c.a) (over1 c.g 0 c.a) (over1 c.b 0 c.a) (over1 c.a 0 c.a) = _
  rw [over1_x0 h.1.2, over1_x0 h.2.1.2, over1_x0 h.2.2.1.2, over1_x0 h.2.2.2.2]
theorem mn_same (x : Int) : mn x x x x = x := by unfold mn; omega
theorem mean_same (c : Col) : mean c c c c = c := by
  show Col.mk (mn c.r c.r c.r c.r) (mn c.g c.g c.g c.g) (mn c.b c.b c.b c.b) (mn c.a c.a c.a c.a) = _
  rw [mn_same, mn_same, mn_same, mn_same]

/-- The cells of colours, one behind the other. -/
def flat : List Col → List Value
  | [] => []
  | c :: l => .int .u8 c.r :: .int .u8 c.g :: .int .u8 c.b :: .int .u8 c.a :: flat l
theorem flat_length : ∀ l : List Col, (flat l).length = l.length * 4
  | [] => rfl
  | c :: l => by simp [flat, flat_length l]; omega
theorem flat_append : ∀ l k : List Col, flat (l ++ k) = flat l ++ flat k
  | [], _ => rfl
  | c :: l, k => by simp [flat, flat_append l k]
theorem flat_one : ∀ (l : List Col) (u : Value), u ∈ flat l → u.oneCell' = true
  | [], u, h => by simp [flat] at h
  | c :: l, u, h => by
    simp only [flat, List.mem_cons] at h
    rcases h with rfl | rfl | rfl | rfl | h
    · rfl
    · rfl
    · rfl
    · rfl
    · exact flat_one l u h
theorem flat_get : ∀ (l : List Col) (i : Nat) (h : i < l.length), (flat l)[i * 4]? = some (.int .u8 l[i].r) ∧ (flat l)[i * 4 + 1]? = some (.int .u8 l[i].g) ∧ (flat l)[i * 4 + 2]? = some (.int .u8 l[i].b) ∧ (flat l)[i * 4 + 3]? = some (.int .u8 l[i].a)
  | [], i, h => by simp at h
  | c :: l, 0, _ => by simp [flat]
  | c :: l, i + 1, h => by
    have k := flat_get l i (by simpa using h)
    simp only [flat, show (i + 1) * 4 = i * 4 + 1 + 1 + 1 + 1 from by omega, show (i * 4 + 1 + 1 + 1 + 1) + 1 = (i * 4 + 1) + 1 + 1 + 1 + 1 from by omega, show (i * 4 + 1 + 1 + 1 + 1) + 2 = (i * 4 + 2) + 1 + 1 + 1 + 1 from by omega, show (i * 4 + 1 + 1 + 1 + 1) + 3 = (i * 4 + 3) + 1 + 1 + 1 + 1 from by omega, List.getElem?_cons_succ, List.getElem_cons_succ]
    exact k
theorem addr_add (b off k : Nat) : (Addr.mk b off none).add k = ⟨b, off + k, none⟩ := by by_cases e : k = 0 <;> simp [Addr.add, e]
/-- What lies in memory as colours lies there cell by cell. -/
theorem flat_of_cols {w : World} {b off : Nat} {l : List Col} (h : ColsAt w b off l) : ∀ j u, (flat l)[j]? = some u → w.cell? ((Addr.mk b off none).add j) = some u := by
  intro j u hj
  rw [addr_add]
  have hlt : j < l.length * 4 := by
    rw [← flat_length]
    exact (List.getElem?_eq_some_iff.1 hj).1
  have hi : j / 4 < l.length := by omega
  obtain ⟨g0, g1, g2, g3⟩ := flat_get l (j / 4) hi
  obtain ⟨c0, c1, c2, c3⟩ := h (j / 4) hi
  have e : j = j / 4 * 4 ∨ j = j / 4 * 4 + 1 ∨ j = j / 4 * 4 + 2 ∨ j = j / 4 * 4 + 3 := by omega
  rcases e with e | e | e | e
  · rw [e, g0] at hj; rw [e]; exact c0.trans hj
  · rw [e, g1] at hj; rw [e, ← Nat.add_assoc]; exact c1.trans hj
  · rw [e, g2] at hj; rw [e, ← Nat.add_assoc]; exact c2.trans hj
  · rw [e, g3] at hj; rw [e, ← Nat.add_assoc]; exact c3.trans hj
/-- A row of its own that holds these cells is a slice of these colours. -/
theorem cols_of_owns {w : World} {base n : Nat} {v : Value} {l : List Col} (h : w.ownsRow base 23 4 v n (flat l)) (hn : n = l.length) (hpos : 0 < n) :
    ∃ g cap, v = .slice (some ⟨g, 0, none⟩) l.length cap ∧ ColsAt w g 0 l := by
  subst hn
  obtain ⟨g, cap, rfl, _, _⟩ := h.form hpos
  refine ⟨g, cap, rfl, fun i hi => ?_⟩
  obtain ⟨g0, g1, g2, g3⟩ := flat_get l i hi
  rw [Nat.zero_add]
  exact ⟨(h.cellAt _ (by omega)).trans g0, (h.cellAt _ (by omega)).trans g1, (h.cellAt _ (by omega)).trans g2, (h.cellAt _ (by omega)).trans g3⟩
end Go.Proofs.Ytpnjhmmodkhmfaa
