/-
  What an argument that is a picture, a colour, or some numbers, is opened to.
-/
import Derived.Test.YtehkcnmjkgelkaaFit
import Derived.ProofKit
import Derived.OpenShut
import Derived.ShutString
import Derived.ChangeOld
import Derived.Deep.Slices
namespace Go.Proofs.Ytehkcnmjkgelkaa
open Go.ChangeShapes Go.WideShapes Go.ChangeAt Go.RowKit Go.Joins

theorem own : ownKnob Try.prog.godebug = none := by kernel_rfl
theorem laidOut : laidOutB Try.prog = true := by kernel_rfl
theorem cells38 : Try.prog.cellsOf 38 = 4 := by kernel_rfl
theorem cells25 : Try.prog.cellsOf 25 = 3 := by kernel_rfl
theorem cells23 : Try.prog.cellsOf 23 = 1 := by kernel_rfl
theorem cells3 : Try.prog.cellsOf 3 = 1 := by kernel_rfl
theorem cells5 : Try.prog.cellsOf 5 = 1 := by kernel_rfl
theorem okWide_array {w : World} {r : Reach} {b0 n : Nat} {t e : TypeId} {v : Value} (ht : Try.prog.underlying t = some (.array n e)) (h : Value.okWide Try.prog w r b0 t v) : ∃ cs, v = .agg cs := by
  cases v <;> first | exact ⟨_, rfl⟩ | simp [Value.okWide, ht] at h

set_option maxRecDepth 100000 in
theorem col_of_cells {H : Type} {enc : TypeId × Value → H} {w : World} {base n : Nat} {spare : Nat → Bool} {held : Bool} {cs : List Value} {x : DataW H × List MemPlace}
    (h : DataW.trod enc Try.prog w base spare held n 38 cs = some x) : ∃ c : Col, c.ok ∧ cs = [.int .u8 c.r, .int .u8 c.g, .int .u8 c.b, .int .u8 c.a] := by
  obtain ⟨xs, m, _, _, hlen, hxl, hf⟩ := DataW.trod_struct Try.underlying38 h
  obtain ⟨c0, c1, c2, c3, rfl⟩ : ∃ c0 c1 c2 c3, cs = [c0, c1, c2, c3] := by
    match cs, hlen.trans cells38 with
    | [c0, c1, c2, c3], _ => exact ⟨_, _, _, _, rfl⟩
  obtain ⟨y0, y1, y2, y3, rfl⟩ : ∃ y0 y1 y2 y3, xs = [y0, y1, y2, y3] := by
    match xs, hxl with
    | [y0, y1, y2, y3], _ => exact ⟨_, _, _, _, rfl⟩
  have h0 := hf 0 _ rfl
  have h1 := hf 1 _ rfl
  have h2 := hf 2 _ rfl
  have h3 := hf 3 _ rfl
  simp [cells5] at h0 h1 h2 h3
  obtain ⟨a0, e0, _, w0⟩ := DataW.trod_int Try.underlying5 h0
  obtain ⟨a1, e1, _, w1⟩ := DataW.trod_int Try.underlying5 h1
  obtain ⟨a2, e2, _, w2⟩ := DataW.trod_int Try.underlying5 h2
  obtain ⟨a3, e3, _, w3⟩ := DataW.trod_int Try.underlying5 h3
  simp at e0 e1 e2 e3
  subst e0 e1 e2 e3
  exact ⟨⟨a0, a1, a2, a3⟩, ⟨bounds_u8 w0, bounds_u8 w1, bounds_u8 w2, bounds_u8 w3⟩, rfl⟩

theorem open_colour {H : Type} {enc : TypeId × Value → H} {w : World} {base b0 : Nat} {spare : Nat → Bool} {held : Bool} {r : Reach} {v : Value} {d : DataW H} {p : List MemPlace}
    (hv : Value.okWide Try.prog w r b0 38 v) (h : DataW.Trod enc Try.prog w base spare held 38 v d p) :
    ∃ c : Col, c.ok ∧ v = .agg #[.int .u8 c.r, .int .u8 c.g, .int .u8 c.b, .int .u8 c.a] := by
  obtain ⟨cs, rfl, _⟩ := okWide_struct Try.underlying38 hv
  obtain ⟨m, hm⟩ := h
  obtain ⟨c, hc, e⟩ := col_of_cells hm
  refine ⟨c, hc, ?_⟩
  cases cs
  simp [Value.cells] at e
  rw [e]

set_option maxRecDepth 100000 in
theorem cols_of_cells {H : Type} {enc : TypeId × Value → H} {w : World} {fuel : Nat} {cs : List Value} {x : DataW H × List MemPlace}
    (h : DataW.trod enc Try.prog w 0 (fun _ => true) true fuel 23 cs = some x) :
    ∃ (A : Option Addr) (l : List Col) (c : Nat), cs = [.slice A l.length c] ∧ l.length ≤ c ∧ (A = none → l.length = 0) ∧ (∀ x ∈ l, x.ok) ∧ Es EC w w.heap.size A l := by
  rcases Go.Deep.open_slice Try.underlying23 h with ⟨hcs, _⟩ | ⟨a, len', cap', m, n, D, Pl, hcs, _, hl, _, hmm, _, hi⟩
  · exact ⟨none, [], 0, hcs, Nat.le_refl _, fun _ => rfl, fun x hx => (by cases hx), Es.none_⟩
  · simp at hmm
    subst hmm
    rcases Nat.eq_zero_or_pos m with h0 | hpos
    · subst h0
      obtain rfl : len' = 0 := by omega
      exact ⟨some a, [], 0, hcs, Nat.le_refl _, fun h => (by cases h), fun x hx => (by cases hx), Es.none_⟩
    · have key : ∀ i, ∃ c : Col, i < m → c.ok ∧ (∀ j, j < 4 → w.cell? (a.add (i * 4 + j)) = [.int .u8 c.r, .int .u8 c.g, .int .u8 c.b, .int .u8 c.a][j]?) := by
        intro i
        by_cases him : i < m
        · obtain ⟨cs', hc, ht⟩ := hi i him
          obtain ⟨c, hok, rfl⟩ := col_of_cells ht
          rw [cells38] at hc
          obtain ⟨_, _, hat⟩ := World.cells?_some hc
          refine ⟨c, fun _ => ⟨hok, fun j hj => ?_⟩⟩
          rw [← Go.Deep.add_add]
          exact hat j hj
        · exact ⟨⟨0, 0, 0, 0⟩, fun h => absurd h him⟩
      obtain ⟨f, hf'⟩ := Classical.skolem.1 key
      have c0 := (hf' 0 hpos).2 0 (by omega)
      have hsp : a.spot = none := by simpa [Addr.add] using World.cell?_spot c0
      obtain ⟨b, off, spot⟩ := a
      simp at hsp
      subst hsp
      have hadd : ∀ k, (Addr.mk b off none).add k = ⟨b, off + k, none⟩ := by intro k; by_cases e : k = 0 <;> simp [Addr.add, e]
      refine ⟨some ⟨b, off, none⟩, (List.range len').map f, m, by simpa using hcs, by simpa using hl, fun h => (by cases h), ?_, fun _ => ⟨b, off, rfl, ?_, ?_⟩⟩
      · intro x hx
        simp at hx
        obtain ⟨i, hi', rfl⟩ := hx
        exact (hf' i (by omega)).1
      · rw [hadd] at c0
        exact World.block_lt_of_cell? _ _ c0
      · intro j u hj i v hv
        rw [List.getElem?_map] at hj
        have hjl : j < len' := by
          rcases Nat.lt_or_ge j len' with h | h
          · exact h
          · rw [List.getElem?_eq_none (by simpa using h)] at hj; cases hj
        rw [List.getElem?_range hjl] at hj
        obtain rfl : f j = u := by simpa using hj
        have hil : i < 4 := by
          rcases Nat.lt_or_ge i 4 with h | h
          · exact h
          · rw [List.getElem?_eq_none h] at hv; cases hv
        have g := (hf' j (by omega)).2 i hil
        rw [hadd, ← Nat.add_assoc] at g
        exact g.trans hv

set_option maxRecDepth 100000 in
/-- A picture. -/
theorem open_tex {H : Type} {enc : TypeId × Value → H} {w : World} {b0 : Nat} {r : Reach} {v : Value} {d : DataW H} {p : List MemPlace}
    (hv : Value.okWide Try.prog w r b0 25 v) (h : DataW.Trod enc Try.prog w 0 (fun _ => true) true 25 v d p) :
    ∃ (t : Tx) (A : Option Addr) (c : Nat), v = .agg #[.int .i64 t.w, .int .i64 t.h, .slice A t.px.length c] ∧ I64 t.w ∧ I64 t.h ∧ t.px.length ≤ c ∧ (A = none → t.px.length = 0) ∧ t.ok ∧ Es EC w w.heap.size A t.px := by
  obtain ⟨cs, rfl, _⟩ := okWide_struct Try.underlying25 hv
  obtain ⟨m, hm⟩ := h
  obtain ⟨xs, m', _, _, hlen, hxl, hf⟩ := DataW.trod_struct Try.underlying25 hm
  obtain ⟨l⟩ := cs
  simp only [Value.cells] at hlen hf
  obtain ⟨c0, c1, c2, rfl⟩ : ∃ c0 c1 c2, l = [c0, c1, c2] := by
    match l, hlen.trans cells25 with
    | [c0, c1, c2], _ => exact ⟨_, _, _, rfl⟩
  obtain ⟨y0, y1, y2, rfl⟩ : ∃ y0 y1 y2, xs = [y0, y1, y2] := by
    match xs, hxl with
    | [y0, y1, y2], _ => exact ⟨_, _, _, rfl⟩
  have h0 := hf 0 _ rfl
  have h1 := hf 1 _ rfl
  have h2 := hf 2 _ rfl
  simp [cells3, cells23] at h0 h1 h2
  obtain ⟨a0, e0, _, w0⟩ := DataW.trod_int Try.underlying3 h0
  obtain ⟨a1, e1, _, w1⟩ := DataW.trod_int Try.underlying3 h1
  obtain ⟨A, px, c, e2, k0, k1, k2, k3⟩ := cols_of_cells h2
  simp at e0 e1 e2
  subst e0 e1 e2
  exact ⟨⟨a0, a1, px⟩, A, c, rfl, bounds_i64 w0, bounds_i64 w1, k0, k1, k2, k3⟩

end Go.Proofs.Ytehkcnmjkgelkaa
