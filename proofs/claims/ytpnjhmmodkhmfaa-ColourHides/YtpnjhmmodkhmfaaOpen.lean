/-
  What an argument that is a colour, or a byte, is opened to.
-/
import Derived.Test.YtpnjhmmodkhmfaaFold
import Derived.WalkKit
import Derived.ProofKit
import Derived.OpenShut
import Derived.ShutString
import Derived.ChangeOld
import Derived.Below
import Derived.Lib.SmallJoins
import Derived.Deep.Slices
namespace Go.Proofs.Ytpnjhmmodkhmfaa
open Go.ChangeShapes Go.WideShapes Go.ChangeAt Go.RowKit Go.Joins

theorem own : ownKnob Try.prog.godebug = none := by kernel_rfl
theorem laidOut : laidOutB Try.prog = true := by kernel_rfl
theorem cells23 : Try.prog.cellsOf 23 = 4 := by kernel_rfl

theorem cells5 : Try.prog.cellsOf 5 = 1 := by kernel_rfl

theorem col_of_cells {H : Type} {enc : TypeId × Value → H} {w : World} {base n : Nat} {spare : Nat → Bool} {held : Bool} {cs : List Value} {x : DataW H × List MemPlace}
    (h : DataW.trod enc Try.prog w base spare held n 23 cs = some x) : ∃ c : Col, c.ok ∧ cs = [.int .u8 c.r, .int .u8 c.g, .int .u8 c.b, .int .u8 c.a] := by
  obtain ⟨xs, m, _, _, hlen, hxl, hf⟩ := DataW.trod_struct Try.underlying23 h
  obtain ⟨c0, c1, c2, c3, rfl⟩ : ∃ c0 c1 c2 c3, cs = [c0, c1, c2, c3] := by
    match cs, hlen.trans cells23 with
    | [c0, c1, c2, c3], _ => exact ⟨_, _, _, _, rfl⟩
  obtain ⟨y0, y1, y2, y3, rfl⟩ : ∃ y0 y1 y2 y3, xs = [y0, y1, y2, y3] := by
    match xs, hxl with
    | [y0, y1, y2, y3], _ => exact ⟨_, _, _, _, rfl⟩
  have h0 := hf 0 _ rfl
  have h1 := hf 1 _ rfl
  have h2 := hf 2 _ rfl
  have h3 := hf 3 _ rfl
  simp [cells5] at h0 h1 h2 h3
  obtain ⟨a0, e0, _, w0⟩ := DataW.trod_int Try.underlying5 h0
  obtain ⟨a1, e1, _, w1⟩ := DataW.trod_int Try.underlying5 h1
  obtain ⟨a2, e2, _, w2⟩ := DataW.trod_int Try.underlying5 h2
  obtain ⟨a3, e3, _, w3⟩ := DataW.trod_int Try.underlying5 h3
  simp at e0 e1 e2 e3
  subst e0 e1 e2 e3
  exact ⟨⟨a0, a1, a2, a3⟩, ⟨bounds_u8 w0, bounds_u8 w1, bounds_u8 w2, bounds_u8 w3⟩, rfl⟩

theorem open_colour {H : Type} {enc : TypeId × Value → H} {w : World} {base b0 : Nat} {spare : Nat → Bool} {held : Bool} {r : Reach} {v : Value} {d : DataW H} {p : List MemPlace}
    (hv : Value.okWide Try.prog w r b0 23 v) (h : DataW.Trod enc Try.prog w base spare held 23 v d p) :
    ∃ c : Col, c.ok ∧ v = .agg #[.int .u8 c.r, .int .u8 c.g, .int .u8 c.b, .int .u8 c.a] := by
  obtain ⟨cs, rfl, _⟩ := okWide_struct Try.underlying23 hv
  obtain ⟨m, hm⟩ := h
  obtain ⟨c, hc, e⟩ := col_of_cells hm
  refine ⟨c, hc, ?_⟩
  cases cs
  simp [Value.cells] at e
  rw [e]

theorem open_cols {H : Type} {enc : TypeId × Value → H} {w : World} {v : Value} {b0 : Nat} {r : Reach} {d : DataW H} {p : List MemPlace}
    (hv : Value.okWide Try.prog w r b0 25 v) (h : DataW.Trod enc Try.prog w 0 (fun _ => true) true 25 v d p) :
    (v = .slice none 0 0) ∨ (∃ a, v = .slice (some a) 0 0) ∨
      ∃ (b off cap : Nat) (l : List Col), v = .slice (some ⟨b, off, none⟩) l.length cap ∧ 0 < cap ∧ l.length ≤ cap ∧ (∀ x ∈ l, x.ok) ∧ ColsAt w b off l := by
  obtain ⟨ad, len, cap, rfl⟩ := okWide_slice Try.underlying25 hv
  obtain ⟨fuel, hf⟩ := h
  rcases Go.Deep.open_slice Try.underlying25 hf with ⟨hcs, _⟩ | ⟨a, len', cap', m, n, D, Pl, hcs, _, hl, _, hmm, _, hi⟩
  · simp [Value.cells] at hcs
    obtain ⟨rfl, rfl, rfl⟩ := hcs
    exact .inl rfl
  · simp [Value.cells] at hcs
    obtain ⟨rfl, rfl, rfl⟩ := hcs
    simp at hmm
    subst hmm
    rcases Nat.eq_zero_or_pos m with h0 | hpos
    · subst h0
      obtain rfl : len = 0 := by omega
      exact .inr (.inl ⟨a, rfl⟩)
    · have key : ∀ i, ∃ c : Col, i < m → c.ok ∧ (∀ j, j < 4 → w.cell? (a.add (i * 4 + j)) = [Value.int .u8 c.r, .int .u8 c.g, .int .u8 c.b, .int .u8 c.a][j]?) := by
        intro i
        by_cases him : i < m
        · obtain ⟨cs', hc, ht⟩ := hi i him
          obtain ⟨c, hok, rfl⟩ := col_of_cells ht
          rw [cells23] at hc
          obtain ⟨_, _, hat⟩ := World.cells?_some hc
          refine ⟨c, fun _ => ⟨hok, fun j hj => ?_⟩⟩
          rw [← Go.Deep.add_add]
          exact hat j hj
        · exact ⟨⟨0, 0, 0, 0⟩, fun h => absurd h him⟩
      obtain ⟨f, hf'⟩ := Classical.skolem.1 key
      have c0 := (hf' 0 hpos).2 0 (by omega)
      have hsp : a.spot = none := by simpa [Addr.add] using World.cell?_spot c0
      obtain ⟨b, off, spot⟩ := a
      simp at hsp
      subst hsp
      refine .inr (.inr ⟨b, off, m, (List.range len).map f, by simp, hpos, by simpa using hl, ?_, ?_⟩)
      · intro x hx
        simp at hx
        obtain ⟨i, hi', rfl⟩ := hx
        exact (hf' i (by omega)).1
      · intro i hi'
        simp at hi'
        have g := (hf' i (by omega)).2
        have hadd : ∀ k, (Addr.mk b off none).add k = ⟨b, off + k, none⟩ := by intro k; by_cases e : k = 0 <;> simp [Addr.add, e]
        simp only [hadd] at g
        simp only [List.getElem_map, List.getElem_range]
        exact ⟨g 0 (by omega), g 1 (by omega), g 2 (by omega), g 3 (by omega)⟩
end Go.Proofs.Ytpnjhmmodkhmfaa
