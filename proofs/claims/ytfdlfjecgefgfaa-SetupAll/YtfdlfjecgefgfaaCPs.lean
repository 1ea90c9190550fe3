/-
  Slices of points: what one reads, and rows of the call's own.
-/
import Derived.Test.YtfdlfjecgefgfaaCVs
import Derived.Test.YtfdlfjecgefgfaaCPb
import Derived.Maps.AppendAt
import Derived.Lib.SmallJoins
import Derived.Laws.CopyRow
namespace Go.Proofs.Ytfdlfjecgefgfaa.C
open Go.RowKit

theorem Try.info37 : (Try.prog.info? 37).map (fun i => (i.zero, i.size, i.bytes)) = some (some (.agg #[.int .i64 0, .int .i64 0, .int .i64 0, .int .i64 0, .int .i64 0, .int .i64 0, .int .i64 0]), 7, 56) := by kernel_rfl

/-- The cells of a point, and of some. -/
def cellsP (v : P) : List Value := [.int .i64 v.x, .int .i64 v.y, .int .i64 v.z, .int .i64 v.a, .int .i64 v.b, .int .i64 v.c, .int .i64 v.d]
def flatP (l : List P) : List Value := l.flatMap cellsP
theorem flatP_append (k l : List P) : flatP (k ++ l) = flatP k ++ flatP l := by simp [flatP]
theorem flatP_length : ∀ l : List P, (flatP l).length = l.length * 7
  | [] => rfl
  | v :: l => by
    have h := flatP_length l
    have e : flatP (v :: l) = cellsP v ++ flatP l := rfl
    rw [e, List.length_append, h, List.length_cons, Nat.add_mul]
    simp [cellsP]
    omega
theorem cellsP_one (v : P) : ∀ u ∈ cellsP v, u.oneCell' = true := by
  intro u hu
  simp only [cellsP, List.mem_cons, List.not_mem_nil, or_false] at hu
  rcases hu with rfl | rfl | rfl | rfl | rfl | rfl | rfl <;> rfl
theorem flatP_one (l : List P) : ∀ u ∈ flatP l, u.oneCell' = true := by
  intro u hu
  obtain ⟨v, _, hu⟩ := List.mem_flatMap.1 hu
  exact cellsP_one v u hu
theorem flatP_get : ∀ {l : List P} {j : Nat} {u : P}, l[j]? = some u → ∀ r, r < 7 → (flatP l)[j * 7 + r]? = (cellsP u)[r]?
  | [], j, u, h, _, _ => by simp at h
  | v :: l, 0, u, h, r, hr => by
    obtain rfl : v = u := by simpa using h
    rw [Nat.zero_mul, Nat.zero_add]
    show (cellsP v ++ flatP l)[r]? = _
    rw [List.getElem?_append_left (by simp [cellsP]; omega)]
  | v :: l, j + 1, u, h, r, hr => by
    have ih := flatP_get (l := l) (j := j) (u := u) (by simpa using h) r hr
    show (cellsP v ++ flatP l)[_]? = _
    rw [List.getElem?_append_right (by simp [cellsP]; omega), ← ih]
    congr 1
    simp [cellsP]
    omega

/-- The seven cells from place o of block b on are those of a point. -/
def At7 (w : World) (b o : Nat) (v : P) : Prop :=
  w.cell? ⟨b, o, none⟩ = some (.int .i64 v.x) ∧ w.cell? ⟨b, o + 1, none⟩ = some (.int .i64 v.y) ∧ w.cell? ⟨b, o + 2, none⟩ = some (.int .i64 v.z) ∧ w.cell? ⟨b, o + 3, none⟩ = some (.int .i64 v.a) ∧ w.cell? ⟨b, o + 4, none⟩ = some (.int .i64 v.b) ∧ w.cell? ⟨b, o + 5, none⟩ = some (.int .i64 v.c) ∧ w.cell? ⟨b, o + 6, none⟩ = some (.int .i64 v.d)
theorem At7.below {w w' : World} {B b o : Nat} {v : P} (h : At7 w b o v) (hb : Below B w w') (hB : b < B) : At7 w' b o v := by
  obtain ⟨h0, h1, h2, h3, h4, h5, h6⟩ := h
  exact ⟨(hb.cell hB).trans h0, (hb.cell hB).trans h1, (hb.cell hB).trans h2, (hb.cell hB).trans h3, (hb.cell hB).trans h4, (hb.cell hB).trans h5, (hb.cell hB).trans h6⟩
theorem At7.lt {w : World} {b o : Nat} {v : P} (h : At7 w b o v) : b < w.heap.size := World.block_lt_of_cell? _ _ h.1
theorem At7.grow {w w' : World} {b o : Nat} {v : P} (h : At7 w b o v) (hb : Below w.heap.size w w') : At7 w' b o v := h.below hb h.lt
theorem At7.cells {w : World} {b o : Nat} {v : P} (h : At7 w b o v) : ∀ j u, (cellsP v)[j]? = some u → w.cell? ⟨b, o + j, none⟩ = some u := by
  obtain ⟨h0, h1, h2, h3, h4, h5, h6⟩ := h
  intro j u hj
  match j, hj with
  | 0, hj => rw [Nat.add_zero, h0]; simpa [cellsP] using hj
  | 1, hj => rw [h1]; simpa [cellsP] using hj
  | 2, hj => rw [h2]; simpa [cellsP] using hj
  | 3, hj => rw [h3]; simpa [cellsP] using hj
  | 4, hj => rw [h4]; simpa [cellsP] using hj
  | 5, hj => rw [h5]; simpa [cellsP] using hj
  | 6, hj => rw [h6]; simpa [cellsP] using hj
  | j + 7, hj => simp [cellsP] at hj
theorem At7.of {w : World} {b o : Nat} {v : P} (h : ∀ r, r < 7 → w.cell? ⟨b, o + r, none⟩ = (cellsP v)[r]?) : At7 w b o v :=
  ⟨h 0 (by omega), h 1 (by omega), h 2 (by omega), h 3 (by omega), h 4 (by omega), h 5 (by omega), h 6 (by omega)⟩

/-- A slice at A reads these points, below block B. -/
def Ps (w : World) (B : Nat) (A : Option Addr) (xs : List P) : Prop :=
  xs ≠ [] → ∃ b off, A = some ⟨b, off, none⟩ ∧ b < B ∧ ∀ j u, xs[j]? = some u → At7 w b (off + j * 7) u
section
variable {w w' : World} {B B' : Nat} {A : Option Addr} {xs : List P}
theorem Ps.none_ : Ps w B A [] := fun h => absurd rfl h
theorem Ps.below (h : Ps w B A xs) (hb : Below B w w') : Ps w' B A xs := fun hne => by
  obtain ⟨b, off, e, hbB, hc⟩ := h hne
  exact ⟨b, off, e, hbB, fun j u hj => (hc j u hj).below hb hbB⟩
theorem Ps.more (h : Ps w B A xs) (hB : B ≤ B') : Ps w B' A xs := fun hne => by
  obtain ⟨b, off, e, hbB, hc⟩ := h hne
  exact ⟨b, off, e, by omega, hc⟩
theorem Ps.sharp (h : Ps w B A xs) : Ps w w.heap.size A xs := fun hne => by
  obtain ⟨b, off, e, hbB, hc⟩ := h hne
  obtain ⟨u, hu⟩ : ∃ u, xs[0]? = some u := by
    cases xs with
    | nil => exact absurd rfl hne
    | cons x xs => exact ⟨x, rfl⟩
  exact ⟨b, off, e, (hc 0 u hu).lt, hc⟩
theorem Ps.grow (h : Ps w B A xs) (hb : Below w.heap.size w w') : Ps w' w.heap.size A xs := h.sharp.below hb
theorem Ps.open (h : Ps w B A xs) {k : Nat} (hk : k < xs.length) : ∃ b off, A = some ⟨b, off, none⟩ ∧ b < B ∧ ∀ j, j < xs.length → ∃ u, xs[j]? = some u ∧ At7 w b (off + j * 7) u := by
  obtain ⟨b, off, e, hbB, hc⟩ := h (by rintro rfl; simp at hk)
  exact ⟨b, off, e, hbB, fun j hj => ⟨_, List.getElem?_eq_getElem hj, hc _ _ (List.getElem?_eq_getElem hj)⟩⟩
theorem Ps.take (h : Ps w B A xs) (n : Nat) : Ps w B A (xs.take n) := fun hne => by
  obtain ⟨b, off, e, hbB, hc⟩ := h (by rintro rfl; simp at hne)
  refine ⟨b, off, e, hbB, fun j u hj => hc j u ?_⟩
  rw [List.getElem?_take] at hj
  split at hj
  · exact hj
  · simp at hj
/-- The cells of all of them, one behind the other. -/
theorem Ps.cells (h : Ps w B A xs) (hne : xs ≠ []) : ∃ b off, A = some ⟨b, off, none⟩ ∧ b < B ∧ ∀ j u, (flatP xs)[j]? = some u → w.cell? ⟨b, off + j, none⟩ = some u := by
  obtain ⟨b, off, e, hbB, hc⟩ := h hne
  refine ⟨b, off, e, hbB, fun j u hj => ?_⟩
  have hlt : j < (flatP xs).length := by
    rcases Nat.lt_or_ge j (flatP xs).length with h | h
    · exact h
    · rw [List.getElem?_eq_none h] at hj; cases hj
  rw [flatP_length] at hlt
  have hq : j / 7 < xs.length := by omega
  have hx := List.getElem?_eq_getElem hq
  have hf := flatP_get hx (j % 7) (Nat.mod_lt _ (by omega))
  rw [show j / 7 * 7 + j % 7 = j by omega, hj] at hf
  have hcc := (hc _ _ hx).cells (j % 7) u hf.symm
  rw [show off + j / 7 * 7 + j % 7 = off + j by omega] at hcc
  exact hcc
end

/-- A row of the call's own that holds these points. -/
def OwnP (w : World) (base : Nat) (v : Value) (xs : List P) : Prop := w.ownsRow base 37 7 v xs.length (flatP xs)
section
variable {w w' : World} {base base' : Nat} {v : Value} {xs : List P}
theorem OwnP.row (h : OwnP w base v xs) : w.ownsRow base 37 7 v xs.length (flatP xs) := h
theorem OwnP.nil (w : World) (base : Nat) : OwnP w base (.slice none 0 0) [] := World.ownsRow_nil _ _ _ _
theorem OwnP.ps (h : OwnP w base v xs) : ∃ A c, v = .slice A xs.length c ∧ xs.length ≤ c ∧ c ≤ 9223372036854775807 ∧ Ps w w.heap.size A xs := by
  obtain ⟨hl, ⟨rfl, h0⟩ | ⟨g, cap, cur, rfl, _, hh, hc, hm, _, ht⟩⟩ := h
  · have : xs = [] := List.eq_nil_of_length_eq_zero h0
    subst this
    exact ⟨none, 0, rfl, Nat.le_refl _, by decide, fun h => absurd rfl h⟩
  · refine ⟨some ⟨g, 0, none⟩, cap, rfl, hc, by unfold maxLen at hm; exact hm, fun _ => ⟨g, 0, rfl, (Array.getElem?_eq_some_iff.1 hh).1, fun j u hj => At7.of fun r hr => ?_⟩⟩
    have hjl : j < xs.length := by
      rcases Nat.lt_or_ge j xs.length with h | h
      · exact h
      · rw [List.getElem?_eq_none h] at hj; cases hj
    rw [cell_of_row w g (0 + j * 7 + r) cur 37 (0, 0) hh, Nat.zero_add, ← flatP_get hj r hr, ← ht, List.getElem?_take_of_lt (by omega), Array.getElem?_toList]
theorem ownP_ge (h : OwnP w base v xs) : ∀ j, v.ownBlock = some j → base ≤ j := by
  intro j ej
  rcases h.2 with ⟨rfl, _⟩ | ⟨g, cap, cur, rfl, hb, _, _⟩
  · simp [Value.ownBlock] at ej
  · obtain rfl : g = j := by simpa [Value.ownBlock] using ej
    exact hb
theorem OwnP.keep (h : OwnP w base v xs) (hb : Below w.heap.size w w') : OwnP w' base v xs := by
  obtain ⟨hl, h2⟩ := h
  refine ⟨hl, ?_⟩
  rcases h2 with h2 | ⟨g, cap, cur, rfl, hg, hh, hr⟩
  · exact .inl h2
  · exact .inr ⟨g, cap, cur, rfl, hg, (hb.block g (Array.getElem?_eq_some_iff.1 hh).1).trans hh, hr⟩
theorem OwnP.less (h : OwnP w base v xs) (hb : base' ≤ base) : OwnP w base' v xs := by
  obtain ⟨hl, h2⟩ := h
  refine ⟨hl, ?_⟩
  rcases h2 with h2 | ⟨g, cap, cur, rfl, hg, hr⟩
  · exact .inl h2
  · exact .inr ⟨g, cap, cur, rfl, by omega, hr⟩
theorem OwnP.alloc (h : OwnP w base v xs) (o : Obj) : OwnP (w.alloc o) base v xs := h.keep ((Below.refl _ _).alloc (Nat.le_refl _) o)
end

/-- A call answers a new row of points, and what lay lies as it lay. -/
def MadeP (base : Nat) (w : World) (xs : List P) (e : Ending) (w' : World) : Prop := ∃ v, e = .returned v ∧ OwnP w' base v xs ∧ Below base w w'

theorem newP_cells {w : World} {v : P} {t : TypeId} : ∀ j u, (cellsP v)[j]? = some u → (w.alloc (.cells #[.int .i64 v.x, .int .i64 v.y, .int .i64 v.z, .int .i64 v.a, .int .i64 v.b, .int .i64 v.c, .int .i64 v.d] t)).cell? ((⟨w.heap.size, 0, none⟩ : Addr).add j) = some u := by
  intro j u hj
  rw [addr_add, cell_of_row _ _ _ _ t (0, 0) (heap_alloc_new _ _), Nat.zero_add]
  simpa [cellsP] using hj
theorem newP_cells_at {w : World} {v : P} {t : TypeId} {g : Nat} (hg : g = w.heap.size) : ∀ j u, (cellsP v)[j]? = some u → (w.alloc (.cells #[.int .i64 v.x, .int .i64 v.y, .int .i64 v.z, .int .i64 v.a, .int .i64 v.b, .int .i64 v.c, .int .i64 v.d] t)).cell? ((⟨g, 0, none⟩ : Addr).add j) = some u := by
  subst hg
  exact newP_cells
theorem append_ofP {w w1 : World} {base : Nat} {v v' : Value} {cs : List P} {x : P} (ho : OwnP w base v cs) (hbase : base ≤ w.heap.size) {T : Obj}
    (hown : w1.ownsRow base 37 7 v' (cs.length + 1) (flatP cs ++ cellsP x)) (hg : (w.alloc T).grownBy w1 v.ownBlock) : OwnP w1 base v' (cs ++ [x]) ∧ Below base w w1 := by
  refine ⟨?_, ((Below.refl base w).alloc hbase T).grown hg (by simp; omega) fun j ej => ownP_ge ho j ej⟩
  unfold OwnP
  rw [List.length_append, flatP_append, show flatP [x] = cellsP x by simp [flatP]]
  exact hown

theorem flatP_set : ∀ {l : List P} {k r : Nat} {u u' : P} {x : Value}, l[k]? = some u → r < 7 → cellsP u' = (cellsP u).set r x → flatP (l.set k u') = (flatP l).set (k * 7 + r) x
  | [], k, r, u, u', x, h, _, _ => by simp at h
  | v :: l, 0, r, u, u', x, h, hr, e => by
    obtain rfl : v = u := by simpa using h
    rw [Nat.zero_mul, Nat.zero_add]
    show cellsP u' ++ flatP l = (cellsP v ++ flatP l).set r x
    rw [e, List.set_append_left _ _ (by simp [cellsP]; omega)]
  | v :: l, k + 1, r, u, u', x, h, hr, e => by
    have ih := flatP_set (l := l) (k := k) (r := r) (u := u) (u' := u') (x := x) (by simpa using h) hr e
    show cellsP v ++ flatP (l.set k u') = (cellsP v ++ flatP l).set ((k + 1) * 7 + r) x
    rw [ih, List.set_append_right _ _ (by simp [cellsP]; omega)]
    congr 2
    simp [cellsP]
    omega
theorem OwnP.set {w : World} {base : Nat} {g n c k r : Nat} {xs : List P} {u u' : P} {x : Value} (h : OwnP w base (.slice (some ⟨g, 0, none⟩) n c) xs) (hk : xs[k]? = some u) (hr : r < 7) (e : cellsP u' = (cellsP u).set r x) :
    OwnP (w.setCell ⟨g, k * 7 + r, none⟩ x) base (.slice (some ⟨g, 0, none⟩) n c) (xs.set k u') := by
  obtain ⟨hl, ⟨h0, _⟩ | ⟨g', cap, cur, e', hg, hh, hc, hm, hs, ht⟩⟩ := h
  · cases h0
  · cases e'
    refine ⟨by rw [flatP_length], .inr ⟨g, c, cur.setIfInBounds (k * 7 + r) x, by simp, hg, ?_, by simpa using hc, hm, by simpa using hs, ?_⟩⟩
    · rw [heap_setCell_same _ _ _ _ _ _ hh]
    · rw [flatP_set hk hr e, ← ht, List.length_set]
      simp [List.take_set]
theorem OwnP.free {w : World} {base : Nat} {g n c : Nat} {xs : List P} (h : OwnP w base (.slice (some ⟨g, 0, none⟩) n c) xs) : ∀ o, w.frozen? ⟨g, o, none⟩ = false := by
  obtain ⟨hl, ⟨h0, _⟩ | ⟨g', cap, cur, e', hg, hh, hc, hm, hs, ht⟩⟩ := h
  · cases h0
  · cases e'
    intro o
    simp [World.frozen?, hh]
theorem set_get {xs : List P} {k : Nat} {u v : P} (h : xs[k]? = some u) : (xs.set k v)[k]? = some v := by
  have hk : k < xs.length := by
    rcases Nat.lt_or_ge k xs.length with e | e
    · exact e
    · rw [List.getElem?_eq_none e] at h; cases h
  simp [hk]
/-- A whole point written into a row. -/
theorem OwnP.put {w : World} {base : Nat} {g n c k : Nat} {xs : List P} {u : P} (p : P) (h : OwnP w base (.slice (some ⟨g, 0, none⟩) n c) xs) (hk : xs[k]? = some u) :
    OwnP (((((((w.setCell ⟨g, k * 7, none⟩ (.int .i64 p.x)).setCell ⟨g, k * 7 + 1, none⟩ (.int .i64 p.y)).setCell ⟨g, k * 7 + 2, none⟩ (.int .i64 p.z)).setCell ⟨g, k * 7 + 3, none⟩ (.int .i64 p.a)).setCell ⟨g, k * 7 + 4, none⟩ (.int .i64 p.b)).setCell ⟨g, k * 7 + 5, none⟩ (.int .i64 p.c)).setCell ⟨g, k * 7 + 6, none⟩ (.int .i64 p.d)) base (.slice (some ⟨g, 0, none⟩) n c) (xs.set k p) := by
  have h0 := h.set (r := 0) (u' := { u with x := p.x }) (x := .int .i64 p.x) hk (by omega) rfl
  have h1 := h0.set (r := 1) (u' := { u with x := p.x, y := p.y }) (x := .int .i64 p.y) (set_get hk) (by omega) rfl
  rw [List.set_set] at h1
  have h2 := h1.set (r := 2) (u' := { u with x := p.x, y := p.y, z := p.z }) (x := .int .i64 p.z) (set_get hk) (by omega) rfl
  rw [List.set_set] at h2
  have h3 := h2.set (r := 3) (u' := { u with x := p.x, y := p.y, z := p.z, a := p.a }) (x := .int .i64 p.a) (set_get hk) (by omega) rfl
  rw [List.set_set] at h3
  have h4 := h3.set (r := 4) (u' := { u with x := p.x, y := p.y, z := p.z, a := p.a, b := p.b }) (x := .int .i64 p.b) (set_get hk) (by omega) rfl
  rw [List.set_set] at h4
  have h5 := h4.set (r := 5) (u' := { u with x := p.x, y := p.y, z := p.z, a := p.a, b := p.b, c := p.c }) (x := .int .i64 p.c) (set_get hk) (by omega) rfl
  rw [List.set_set] at h5
  have h6 := h5.set (r := 6) (u' := p) (x := .int .i64 p.d) (set_get hk) (by omega) rfl
  rw [List.set_set] at h6
  exact h6
theorem OwnP.at0 {w : World} {base : Nat} {v : Value} {xs : List P} (h : OwnP w base v xs) (hne : xs ≠ []) :
    ∃ g c, v = .slice (some ⟨g, 0, none⟩) xs.length c ∧ base ≤ g ∧ ∀ j u, xs[j]? = some u → At7 w g (j * 7) u := by
  obtain ⟨hl, ⟨rfl, h0⟩ | ⟨g, cap, cur, rfl, hg, hh, hc, hm, _, ht⟩⟩ := h
  · exact absurd (List.eq_nil_of_length_eq_zero h0) hne
  · refine ⟨g, cap, rfl, hg, fun j u hj => At7.of fun r hr => ?_⟩
    have hjl : j < xs.length := by
      rcases Nat.lt_or_ge j xs.length with h | h
      · exact h
      · rw [List.getElem?_eq_none h] at hj; cases hj
    rw [cell_of_row w g (j * 7 + r) cur 37 (0, 0) hh, ← flatP_get hj r hr, ← ht, List.getElem?_take_of_lt (by omega), Array.getElem?_toList]
end Go.Proofs.Ytfdlfjecgefgfaa.C
