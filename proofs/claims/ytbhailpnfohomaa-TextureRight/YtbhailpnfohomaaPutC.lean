/-
  A colour written into a row of the call's own; worlds that are as one was but for a row; new slices of zeros.
-/
import Derived.Test.YtbhailpnfohomaaHeads
import Derived.Laws.OwnMore
namespace Go.Proofs.Ytbhailpnfohomaa
open Go.RowKit

theorem flat_setC : ∀ {l : List Col} {k r : Nat} {u u' : Col} {x : Value}, l[k]? = some u → r < 4 → EC.cells u' = (EC.cells u).set r x → EC.flat (l.set k u') = (EC.flat l).set (k * 4 + r) x
  | [], k, r, u, u', x, h, _, _ => by simp at h
  | v :: l, 0, r, u, u', x, h, hr, e => by
    obtain rfl : v = u := by simpa using h
    rw [Nat.zero_mul, Nat.zero_add]
    show EC.cells u' ++ EC.flat l = (EC.cells v ++ EC.flat l).set r x
    rw [e, List.set_append_left _ _ (by rw [EC.len]; exact hr)]
  | v :: l, k + 1, r, u, u', x, h, hr, e => by
    have ih := flat_setC (l := l) (k := k) (r := r) (u := u) (u' := u') (x := x) (by simpa using h) hr e
    have e4 : (EC.cells v).length = 4 := EC.len v
    show EC.cells v ++ EC.flat (l.set k u') = (EC.cells v ++ EC.flat l).set ((k + 1) * 4 + r) x
    rw [ih, List.set_append_right _ _ (by rw [e4]; omega)]
    congr 2
    rw [e4]
    omega
theorem ownC_set {w : World} {base : Nat} {g n c k r : Nat} {xs : List Col} {u u' : Col} {x : Value} (h : OwnE EC w base (.slice (some ⟨g, 0, none⟩) n c) xs) (hk : xs[k]? = some u) (hr : r < 4) (e : EC.cells u' = (EC.cells u).set r x) :
    OwnE EC (w.setCell ⟨g, k * 4 + r, none⟩ x) base (.slice (some ⟨g, 0, none⟩) n c) (xs.set k u') := by
  obtain ⟨hl, ⟨h0, _⟩ | ⟨g', cap, cur, e', hg, hh, hc, hm, hs, ht⟩⟩ := h
  · cases h0
  · cases e'
    refine ⟨by rw [EC.flat_length], .inr ⟨g, c, cur.setIfInBounds (k * 4 + r) x, by simp, hg, ?_, by simpa using hc, hm, by simpa using hs, ?_⟩⟩
    · rw [heap_setCell_same _ _ _ _ _ _ hh]
    · rw [flat_setC hk hr e, ← ht, List.length_set]
      simp [List.take_set]
theorem blkcell {D t : World} {j o : Nat} (hb : Below D.heap.size D t) (h : j < D.heap.size) : t.cell? ⟨j, o, none⟩ = D.cell? ⟨j, o, none⟩ := hb.cell (p := ⟨j, o, none⟩) h
theorem ownC_free {w : World} {base : Nat} {g n c : Nat} {xs : List Col} (h : OwnE EC w base (.slice (some ⟨g, 0, none⟩) n c) xs) : ∀ o, w.frozen? ⟨g, o, none⟩ = false := by
  obtain ⟨hl, ⟨h0, _⟩ | ⟨g', cap, cur, e', hg, hh, hc, hm, hs, ht⟩⟩ := h
  · cases h0
  · cases e'
    intro o
    simp [World.frozen?, hh]
theorem set_getC {xs : List Col} {k : Nat} {u v : Col} (h : xs[k]? = some u) : (xs.set k v)[k]? = some v := by
  have hk : k < xs.length := by
    rcases Nat.lt_or_ge k xs.length with e | e
    · exact e
    · rw [List.getElem?_eq_none e] at h; cases h
  simp [hk]
/-- A whole colour written into a row. -/
theorem ownC_put {w : World} {base : Nat} {g n c k : Nat} {xs : List Col} {u : Col} (p : Col) (h : OwnE EC w base (.slice (some ⟨g, 0, none⟩) n c) xs) (hk : xs[k]? = some u) :
    OwnE EC ((((w.setCell ⟨g, k * 4, none⟩ (.int .u8 p.r)).setCell ⟨g, k * 4 + 1, none⟩ (.int .u8 p.g)).setCell ⟨g, k * 4 + 2, none⟩ (.int .u8 p.b)).setCell ⟨g, k * 4 + 3, none⟩ (.int .u8 p.a)) base (.slice (some ⟨g, 0, none⟩) n c) (xs.set k p) := by
  have h0 := ownC_set h (r := 0) (u' := { u with r := p.r }) (x := .int .u8 p.r) hk (by omega) rfl
  have h1 := ownC_set h0 (r := 1) (u' := { u with r := p.r, g := p.g }) (x := .int .u8 p.g) (set_getC hk) (by omega) rfl
  rw [List.set_set] at h1
  have h2 := ownC_set h1 (r := 2) (u' := { u with r := p.r, g := p.g, b := p.b }) (x := .int .u8 p.b) (set_getC hk) (by omega) rfl
  rw [List.set_set] at h2
  have h3 := ownC_set h2 (r := 3) (u' := p) (x := .int .u8 p.a) (set_getC hk) (by omega) rfl
  rw [List.set_set] at h3
  exact h3
theorem own_at0 {w : World} {base : Nat} {v : Value} {xs : List Col} (h : OwnE EC w base v xs) (hne : xs ≠ []) :
    ∃ g c, v = .slice (some ⟨g, 0, none⟩) xs.length c ∧ base ≤ g ∧ g < w.heap.size := by
  obtain ⟨hl, ⟨rfl, h0⟩ | ⟨g, cap, cur, rfl, hg, hh, hc, hm, _, ht⟩⟩ := h
  · exact absurd (List.eq_nil_of_length_eq_zero h0) hne
  · exact ⟨g, cap, rfl, hg, (Array.getElem?_eq_some_iff.1 hh).1⟩

/-- The worlds that are as W was but for row j, and for what is new. -/
def But (w W : World) (j : Nat) : Type := { w' : World // Below w.heap.size w w' ∧ W.heap.size ≤ w'.heap.size ∧ ∀ k, k < W.heap.size → k ≠ j → w'.heap[k]? = W.heap[k]? }
def But.w {w W : World} {j : Nat} (x : But w W j) : World := x.1
theorem But.bel {w W : World} {j : Nat} (x : But w W j) : Below w.heap.size w x.w := x.2.1
theorem But.blk {w W : World} {j k : Nat} {o : Obj} (x : But w W j) (h : W.heap[k]? = some o) (hne : k ≠ j) : x.w.heap[k]? = some o := (x.2.2.2 k (blk_lt h) hne).trans h

theorem make_zeros (W : World) (n : Nat) (hn : n ≤ 1000) (kl kc : IntKind) : ∃ w', (Instr.makeSlice 22 (.int kl (n : Int)) (.int kc (n : Int))).run Try.prog W = .ok (.slice (some ⟨W.heap.size, 0, none⟩) n n) w' ∧ Below W.heap.size W w' := by
  obtain ⟨i0, hi, hz0, hz1, hz2⟩ := info_parts Try.info30
  obtain ⟨w', hr, -, hg⟩ := run_make_full (P := Try.prog) W W.heap.size 22 30 i0 _ 4 Try.underlying22 hi hz0 hz1 kl kc n (by rw [hz2]; omega) (by unfold maxLen; omega) (Nat.le_refl _)
  exact ⟨w', hr, (Below.refl _ _).grown hg (Nat.le_refl _) (fun j e => by cases e)⟩

/-- A list whose first k colours are made right. -/
def preK (l : List Col) (k : Nat) : List Col := (l.take k).map pre ++ l.drop k
theorem preK_zero (l : List Col) : preK l 0 = l := by simp [preK]
theorem preK_len (l : List Col) (k : Nat) : (preK l k).length = l.length := by simp [preK]; omega
theorem preK_get {l : List Col} {k : Nat} {c : Col} (h : l[k]? = some c) : (preK l k)[k]? = some c := by
  have hk : k < l.length := by
    rcases Nat.lt_or_ge k l.length with e | e
    · exact e
    · rw [List.getElem?_eq_none e] at h; cases h
  unfold preK
  rw [List.getElem?_append_right (by simp; omega)]
  simp only [List.length_map, List.length_take, Nat.min_eq_left (Nat.le_of_lt hk), Nat.sub_self]
  rw [List.getElem?_drop, Nat.add_zero]
  exact h
theorem preK_succ {l : List Col} {k : Nat} {c : Col} (h : l[k]? = some c) : preK l (k + 1) = (preK l k).set k (pre c) := by
  have hk : k < l.length := by
    rcases Nat.lt_or_ge k l.length with e | e
    · exact e
    · rw [List.getElem?_eq_none e] at h; cases h
  have hc : l[k] = c := by
    rw [List.getElem?_eq_getElem hk] at h
    simpa using h
  unfold preK
  rw [List.set_append_right _ _ (by simp; omega), List.take_succ_eq_append_getElem hk, hc]
  simp only [List.length_map, List.length_take, Nat.min_eq_left (Nat.le_of_lt hk), Nat.sub_self, List.map_append, List.map_cons, List.map_nil, List.append_assoc]
  congr 1
  rw [List.drop_eq_getElem_cons hk]
  rfl
theorem preK_right {l : List Col} (h : ∀ c ∈ l, c.ok) : (∀ c ∈ preK l l.length, c.right) ∧ ∀ c ∈ preK l l.length, c.ok := by
  unfold preK
  simp only [List.take_length, List.drop_length, List.append_nil]
  refine ⟨fun c hc => ?_, fun c hc => ?_⟩
  · obtain ⟨d, hd, rfl⟩ := List.mem_map.1 hc
    exact pre_right (h d hd)
  · obtain ⟨d, hd, rfl⟩ := List.mem_map.1 hc
    exact pre_ok (h d hd)
end Go.Proofs.Ytbhailpnfohomaa
