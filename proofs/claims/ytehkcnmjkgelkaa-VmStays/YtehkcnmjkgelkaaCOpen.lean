/-
  What an argument that is an instruction, some of them, or some numbers, is opened to.
-/
import Derived.Test.YtehkcnmjkgelkaaCFit
import Derived.ProofKit
import Derived.OpenShut
import Derived.ShutString
import Derived.ChangeOld
import Derived.Deep.Slices
namespace Go.Proofs.Ytehkcnmjkgelkaa.C
open Go.ChangeShapes Go.WideShapes Go.ChangeAt Go.RowKit Go.Joins

theorem own : ownKnob Try.prog.godebug = none := by kernel_rfl
theorem laidOut : laidOutB Try.prog = true := by kernel_rfl
theorem cells45 : Try.prog.cellsOf 45 = 5 := by kernel_rfl
theorem cells22 : Try.prog.cellsOf 22 = 1 := by kernel_rfl
theorem cells53 : Try.prog.cellsOf 53 = 2 := by kernel_rfl
theorem cells3 : Try.prog.cellsOf 3 = 1 := by kernel_rfl
theorem cells5 : Try.prog.cellsOf 5 = 1 := by kernel_rfl
theorem cells21 : Try.prog.cellsOf 21 = 1 := by kernel_rfl
theorem okWide_array {w : World} {r : Reach} {b0 n : Nat} {t e : TypeId} {v : Value} (ht : Try.prog.underlying t = some (.array n e)) (h : Value.okWide Try.prog w r b0 t v) : ∃ cs, v = .agg cs := by
  cases v <;> first | exact ⟨_, rfl⟩ | simp [Value.okWide, ht] at h

set_option maxRecDepth 100000 in
theorem in_of_cells {H : Type} {enc : TypeId × Value → H} {w : World} {base n : Nat} {spare : Nat → Bool} {held : Bool} {cs : List Value} {x : DataW H × List MemPlace}
    (h : DataW.trod enc Try.prog w base spare held n 45 cs = some x) : ∃ c : In, c.ok ∧ cs = [.int .u8 c.o, .int .u8 c.d, .int .u8 c.a, .int .u8 c.b, .int .i64 c.n] := by
  obtain ⟨xs, m, _, _, hlen, hxl, hf⟩ := DataW.trod_struct Try.underlying45 h
  obtain ⟨c0, c1, c2, c3, c4, rfl⟩ : ∃ c0 c1 c2 c3 c4, cs = [c0, c1, c2, c3, c4] := by
    match cs, hlen.trans cells45 with
    | [c0, c1, c2, c3, c4], _ => exact ⟨_, _, _, _, _, rfl⟩
  obtain ⟨y0, y1, y2, y3, y4, rfl⟩ : ∃ y0 y1 y2 y3 y4, xs = [y0, y1, y2, y3, y4] := by
    match xs, hxl with
    | [y0, y1, y2, y3, y4], _ => exact ⟨_, _, _, _, _, rfl⟩
  have h0 := hf 0 _ rfl
  have h1 := hf 1 _ rfl
  have h2 := hf 2 _ rfl
  have h3 := hf 3 _ rfl
  have h4 := hf 4 _ rfl
  simp [cells5, cells3] at h0 h1 h2 h3 h4
  obtain ⟨a0, e0, _, w0⟩ := DataW.trod_int Try.underlying5 h0
  obtain ⟨a1, e1, _, w1⟩ := DataW.trod_int Try.underlying5 h1
  obtain ⟨a2, e2, _, w2⟩ := DataW.trod_int Try.underlying5 h2
  obtain ⟨a3, e3, _, w3⟩ := DataW.trod_int Try.underlying5 h3
  obtain ⟨a4, e4, _, w4⟩ := DataW.trod_int Try.underlying3 h4
  simp at e0 e1 e2 e3 e4
  subst e0 e1 e2 e3 e4
  exact ⟨⟨a0, a1, a2, a3, a4⟩, ⟨bounds_u8 w0, bounds_u8 w1, bounds_u8 w2, bounds_u8 w3, bounds_i64 w4⟩, rfl⟩

theorem open_ins {H : Type} {enc : TypeId × Value → H} {w : World} {base b0 : Nat} {spare : Nat → Bool} {held : Bool} {r : Reach} {v : Value} {d : DataW H} {p : List MemPlace}
    (hv : Value.okWide Try.prog w r b0 45 v) (h : DataW.Trod enc Try.prog w base spare held 45 v d p) :
    ∃ c : In, c.ok ∧ v = .agg #[.int .u8 c.o, .int .u8 c.d, .int .u8 c.a, .int .u8 c.b, .int .i64 c.n] := by
  obtain ⟨cs, rfl, _⟩ := okWide_struct Try.underlying45 hv
  obtain ⟨m, hm⟩ := h
  obtain ⟨c, hc, e⟩ := in_of_cells hm
  refine ⟨c, hc, ?_⟩
  cases cs
  simp [Value.cells] at e
  rw [e]

set_option maxRecDepth 100000 in
theorem ins_of_cells {H : Type} {enc : TypeId × Value → H} {w : World} {fuel : Nat} {cs : List Value} {x : DataW H × List MemPlace}
    (h : DataW.trod enc Try.prog w 0 (fun _ => true) true fuel 22 cs = some x) :
    ∃ (A : Option Addr) (l : List In) (c : Nat), cs = [.slice A l.length c] ∧ l.length ≤ c ∧ (A = none → l.length = 0) ∧ (∀ x ∈ l, x.ok) ∧ Es EI w w.heap.size A l := by
  rcases Go.Deep.open_slice Try.underlying22 h with ⟨hcs, _⟩ | ⟨a, len', cap', m, n, D, Pl, hcs, _, hl, _, hmm, _, hi⟩
  · exact ⟨none, [], 0, hcs, Nat.le_refl _, fun _ => rfl, fun x hx => (by cases hx), Es.none_⟩
  · simp at hmm
    subst hmm
    rcases Nat.eq_zero_or_pos m with h0 | hpos
    · subst h0
      obtain rfl : len' = 0 := by omega
      exact ⟨some a, [], 0, hcs, Nat.le_refl _, fun h => (by cases h), fun x hx => (by cases hx), Es.none_⟩
    · have key : ∀ i, ∃ c : In, i < m → c.ok ∧ (∀ j, j < 5 → w.cell? (a.add (i * 5 + j)) = [.int .u8 c.o, .int .u8 c.d, .int .u8 c.a, .int .u8 c.b, .int .i64 c.n][j]?) := by
        intro i
        by_cases him : i < m
        · obtain ⟨cs', hc, ht⟩ := hi i him
          obtain ⟨c, hok, rfl⟩ := in_of_cells ht
          rw [cells45] at hc
          obtain ⟨_, _, hat⟩ := World.cells?_some hc
          refine ⟨c, fun _ => ⟨hok, fun j hj => ?_⟩⟩
          rw [← Go.Deep.add_add]
          exact hat j hj
        · exact ⟨⟨0, 0, 0, 0, 0⟩, fun h => absurd h him⟩
      obtain ⟨f, hf'⟩ := Classical.skolem.1 key
      have c0 := (hf' 0 hpos).2 0 (by omega)
      have hsp : a.spot = none := by simpa [Addr.add] using World.cell?_spot c0
      obtain ⟨b, off, spot⟩ := a
      simp at hsp
      subst hsp
      have hadd : ∀ k, (Addr.mk b off none).add k = ⟨b, off + k, none⟩ := by intro k; by_cases e : k = 0 <;> simp [Addr.add, e]
      refine ⟨some ⟨b, off, none⟩, (List.range len').map f, m, by simpa using hcs, by simpa using hl, fun h => (by cases h), ?_, fun _ => ⟨b, off, rfl, ?_, ?_⟩⟩
      · intro x hx
        simp at hx
        obtain ⟨i, hi', rfl⟩ := hx
        exact (hf' i (by omega)).1
      · rw [hadd] at c0
        exact World.block_lt_of_cell? _ _ c0
      · intro j u hj i v hv
        rw [List.getElem?_map] at hj
        have hjl : j < len' := by
          rcases Nat.lt_or_ge j len' with h | h
          · exact h
          · rw [List.getElem?_eq_none (by simpa using h)] at hj; cases hj
        rw [List.getElem?_range hjl] at hj
        obtain rfl : f j = u := by simpa using hj
        have hil : i < 5 := by
          rcases Nat.lt_or_ge i 5 with h | h
          · exact h
          · rw [List.getElem?_eq_none h] at hv; cases hv
        have g := (hf' j (by omega)).2 i hil
        rw [hadd, ← Nat.add_assoc] at g
        exact g.trans hv

/-- A program. -/
theorem open_code {H : Type} {enc : TypeId × Value → H} {w : World} {b0 : Nat} {r : Reach} {v : Value} {d : DataW H} {p : List MemPlace}
    (hv : Value.okWide Try.prog w r b0 22 v) (h : DataW.Trod enc Try.prog w 0 (fun _ => true) true 22 v d p) :
    ∃ (l : List In) (A : Option Addr) (c : Nat), v = .slice A l.length c ∧ l.length ≤ c ∧ (A = none → l.length = 0) ∧ (∀ x ∈ l, x.ok) ∧ Es EI w w.heap.size A l := by
  obtain ⟨ad, len, cap, rfl⟩ := okWide_slice Try.underlying22 hv
  obtain ⟨m, hm⟩ := h
  obtain ⟨A, l, c, e, k0, k1, k2, k3⟩ := ins_of_cells hm
  simp [Value.cells] at e
  obtain ⟨rfl, rfl, rfl⟩ := e
  exact ⟨l, _, _, rfl, k0, k1, k2, k3⟩

set_option maxRecDepth 100000 in
/-- Two numbers of 32 bits. -/
theorem open_i32s {H : Type} {enc : TypeId × Value → H} {w : World} {base b0 : Nat} {spare : Nat → Bool} {held : Bool} {r : Reach} {v : Value} {d : DataW H} {p : List MemPlace}
    (hv : Value.okWide Try.prog w r b0 53 v) (h : DataW.Trod enc Try.prog w base spare held 53 v d p) : ∃ a b : Int, v = .agg #[.int .i32 a, .int .i32 b] ∧ (-2147483648 ≤ a ∧ a ≤ 2147483647) ∧ (-2147483648 ≤ b ∧ b ≤ 2147483647) := by
  obtain ⟨cs, rfl⟩ := okWide_array Try.underlying53 hv
  obtain ⟨m, hm⟩ := h
  obtain ⟨xs, n, _, _, hlen, hxl, hf⟩ := DataW.trod_array Try.underlying53 hm
  obtain ⟨l⟩ := cs
  simp only [Value.cells] at hlen hf
  obtain ⟨c0, c1, rfl⟩ : ∃ c0 c1, l = [c0, c1] := by
    match l, hlen.trans cells53 with
    | [c0, c1], _ => exact ⟨_, _, rfl⟩
  obtain ⟨y0, y1, rfl⟩ : ∃ y0 y1, xs = [y0, y1] := by
    match xs, hxl with
    | [y0, y1], _ => exact ⟨_, _, rfl⟩
  have h0 := hf 0 (by decide)
  have h1 := hf 1 (by decide)
  simp [cells21] at h0 h1
  obtain ⟨a0, e0, _, w0⟩ := DataW.trod_int Try.underlying21 h0
  obtain ⟨a1, e1, _, w1⟩ := DataW.trod_int Try.underlying21 h1
  simp at e0 e1
  subst e0 e1
  exact ⟨a0, a1, rfl, bounds_i32 w0, bounds_i32 w1⟩

end Go.Proofs.Ytehkcnmjkgelkaa.C
