/-
  What an argument that is a scene, a byte, or some of them, is opened to.
-/
import Derived.Test.YtfmmfaeognoleaaGreatM5
import Derived.ProofKit
import Derived.OpenShut
import Derived.ShutString
import Derived.ChangeOld
import Derived.Deep.Slices
import Derived.Test.YtfmmfaeognoleaaGreatM4
import Derived.Below
import Derived.Test.YtfmmfaeognoleaaGreatRows
import Derived.WalkKit
import Derived.WalkSpells
import Derived.Deep.QuietTactic
import Derived.BigQuiet
import Derived.Lib.Hide
import Derived.Laws.BitsAllLaws
import Derived.Laws.BitsLemmas
import Derived.Laws.Bits64b
import Derived.Maps.AppendAt
import Derived.RangeFuncBox
namespace Go.Proofs.YtfmmfaeognoleaaGreat
open Go.ChangeShapes Go.WideShapes Go.ChangeAt Go.RowKit Go.Joins

theorem own : ownKnob Tryz.prog.godebug = none := by kernel_rfl
theorem laidOut : laidOutB Tryz.prog = true := by kernel_rfl
theorem cells23 : Tryz.prog.cellsOf 23 = 4 := by kernel_rfl
theorem cells74 : Tryz.prog.cellsOf 74 = 8 := by kernel_rfl
theorem cells72 : Tryz.prog.cellsOf 72 = 4 := by kernel_rfl
theorem cells47 : Tryz.prog.cellsOf 47 = 3 := by kernel_rfl
theorem cells76 : Tryz.prog.cellsOf 76 = 5 := by kernel_rfl
theorem cells48 : Tryz.prog.cellsOf 48 = 1 := by kernel_rfl
theorem cells86 : Tryz.prog.cellsOf 86 = 4 := by kernel_rfl
theorem cells84 : Tryz.prog.cellsOf 84 = 3 := by kernel_rfl
theorem cells51 : Tryz.prog.cellsOf 51 = 5 := by kernel_rfl
theorem cells29 : Tryz.prog.cellsOf 29 = 10 := by kernel_rfl
theorem cells24 : Tryz.prog.cellsOf 24 = 1 := by kernel_rfl
theorem cells25 : Tryz.prog.cellsOf 25 = 1 := by kernel_rfl
theorem cells26 : Tryz.prog.cellsOf 26 = 1 := by kernel_rfl
theorem cells27 : Tryz.prog.cellsOf 27 = 1 := by kernel_rfl
theorem cells49 : Tryz.prog.cellsOf 49 = 1 := by kernel_rfl
theorem cells45 : Tryz.prog.cellsOf 45 = 1 := by kernel_rfl
theorem cells3 : Tryz.prog.cellsOf 3 = 1 := by kernel_rfl
theorem cells4 : Tryz.prog.cellsOf 4 = 1 := by kernel_rfl
theorem cells5 : Tryz.prog.cellsOf 5 = 1 := by kernel_rfl
set_option maxRecDepth 100000 in
theorem okWide_array {w : World} {r : Reach} {b0 n : Nat} {t e : TypeId} {v : Value} (ht : Tryz.prog.underlying t = some (.array n e)) (h : Value.okWide Tryz.prog w r b0 t v) : ∃ cs, v = .agg cs := by
  cases v <;> first | exact ⟨_, rfl⟩ | simp [Value.okWide, ht] at h
set_option maxRecDepth 100000 in
theorem col_of_cells {H : Type} {enc : TypeId × Value → H} {w : World} {base n : Nat} {spare : Nat → Bool} {held : Bool} {cs : List Value} {x : DataW H × List MemPlace}
    (h : DataW.trod enc Tryz.prog w base spare held n 23 cs = some x) : ∃ c : Col, c.ok ∧ cs = [.int .u8 c.r, .int .u8 c.g, .int .u8 c.b, .int .u8 c.a] := by
  obtain ⟨xs, m, _, _, hlen, hxl, hf⟩ := DataW.trod_struct Tryz.underlying23 h
  obtain ⟨c0, c1, c2, c3, rfl⟩ : ∃ c0 c1 c2 c3, cs = [c0, c1, c2, c3] := by
    match cs, hlen.trans cells23 with
    | [c0, c1, c2, c3], _ => exact ⟨_, _, _, _, rfl⟩
  obtain ⟨y0, y1, y2, y3, rfl⟩ : ∃ y0 y1 y2 y3, xs = [y0, y1, y2, y3] := by
    match xs, hxl with
    | [y0, y1, y2, y3], _ => exact ⟨_, _, _, _, rfl⟩
  have h0 := hf 0 _ rfl
  have h1 := hf 1 _ rfl
  have h2 := hf 2 _ rfl
  have h3 := hf 3 _ rfl
  simp [cells5] at h0 h1 h2 h3
  obtain ⟨a0, e0, _, w0⟩ := DataW.trod_int Tryz.underlying5 h0
  obtain ⟨a1, e1, _, w1⟩ := DataW.trod_int Tryz.underlying5 h1
  obtain ⟨a2, e2, _, w2⟩ := DataW.trod_int Tryz.underlying5 h2
  obtain ⟨a3, e3, _, w3⟩ := DataW.trod_int Tryz.underlying5 h3
  simp at e0 e1 e2 e3
  subst e0 e1 e2 e3
  exact ⟨⟨a0, a1, a2, a3⟩, ⟨bounds_u8 w0, bounds_u8 w1, bounds_u8 w2, bounds_u8 w3⟩, rfl⟩
set_option maxRecDepth 100000 in
theorem four_of_cells {H : Type} {enc : TypeId × Value → H} {w : World} {base n : Nat} {spare : Nat → Bool} {held : Bool} {l : List Value} {x : DataW H × List MemPlace}
    (h : DataW.trod enc Tryz.prog w base spare held n 72 l = some x) : ∃ a b c d : Int, l = [.int .i64 a, .int .i64 b, .int .i64 c, .int .i64 d] ∧
      ((-9223372036854775808 ≤ a ∧ a ≤ 9223372036854775807) ∧ (-9223372036854775808 ≤ b ∧ b ≤ 9223372036854775807) ∧ (-9223372036854775808 ≤ c ∧ c ≤ 9223372036854775807) ∧ (-9223372036854775808 ≤ d ∧ d ≤ 9223372036854775807)) := by
  obtain ⟨xs, m, _, _, hlen, hxl, hf⟩ := DataW.trod_array Tryz.underlying72 h
  obtain ⟨c0, c1, c2, c3, rfl⟩ : ∃ c0 c1 c2 c3, l = [c0, c1, c2, c3] := by
    match l, hlen.trans cells72 with
    | [c0, c1, c2, c3], _ => exact ⟨_, _, _, _, rfl⟩
  obtain ⟨y0, y1, y2, y3, rfl⟩ : ∃ y0 y1 y2 y3, xs = [y0, y1, y2, y3] := by
    match xs, hxl with
    | [y0, y1, y2, y3], _ => exact ⟨_, _, _, _, rfl⟩
  have h0 := hf 0 (by decide)
  have h1 := hf 1 (by decide)
  have h2 := hf 2 (by decide)
  have h3 := hf 3 (by decide)
  simp [cells3] at h0 h1 h2 h3
  obtain ⟨a0, e0, _, w0⟩ := DataW.trod_int Tryz.underlying3 h0
  obtain ⟨a1, e1, _, w1⟩ := DataW.trod_int Tryz.underlying3 h1
  obtain ⟨a2, e2, _, w2⟩ := DataW.trod_int Tryz.underlying3 h2
  obtain ⟨a3, e3, _, w3⟩ := DataW.trod_int Tryz.underlying3 h3
  simp at e0 e1 e2 e3
  subst e0 e1 e2 e3
  exact ⟨a0, a1, a2, a3, rfl, bounds_i64 w0, bounds_i64 w1, bounds_i64 w2, bounds_i64 w3⟩
set_option maxRecDepth 100000 in
theorem vec_of_cells {H : Type} {enc : TypeId × Value → H} {w : World} {base n : Nat} {spare : Nat → Bool} {held : Bool} {cs : List Value} {x : DataW H × List MemPlace}
    (h : DataW.trod enc Tryz.prog w base spare held n 74 cs = some x) : ∃ v : U.V, v.i64 ∧ cs = [.int .i64 v.x, .int .i64 v.y, .int .i64 v.z, .int .i64 v.w, .int .i64 v.a, .int .i64 v.b, .int .i64 v.c, .int .i64 v.d] := by
  obtain ⟨xs, m, _, _, hlen, hxl, hf⟩ := DataW.trod_struct Tryz.underlying74 h
  obtain ⟨c0, c1, c2, c3, c4, c5, c6, c7, rfl⟩ : ∃ c0 c1 c2 c3 c4 c5 c6 c7, cs = [c0, c1, c2, c3, c4, c5, c6, c7] := by
    match cs, hlen.trans cells74 with
    | [c0, c1, c2, c3, c4, c5, c6, c7], _ => exact ⟨_, _, _, _, _, _, _, _, rfl⟩
  obtain ⟨y0, y1, y2, y3, y4, rfl⟩ : ∃ y0 y1 y2 y3 y4, xs = [y0, y1, y2, y3, y4] := by
    match xs, hxl with
    | [y0, y1, y2, y3, y4], _ => exact ⟨_, _, _, _, _, rfl⟩
  have h0 := hf 0 _ rfl
  have h1 := hf 1 _ rfl
  have h2 := hf 2 _ rfl
  have h3 := hf 3 _ rfl
  have h4 := hf 4 _ rfl
  simp [cells3, cells72] at h0 h1 h2 h3 h4
  obtain ⟨a0, e0, _, w0⟩ := DataW.trod_int Tryz.underlying3 h0
  obtain ⟨a1, e1, _, w1⟩ := DataW.trod_int Tryz.underlying3 h1
  obtain ⟨a2, e2, _, w2⟩ := DataW.trod_int Tryz.underlying3 h2
  obtain ⟨a3, e3, _, w3⟩ := DataW.trod_int Tryz.underlying3 h3
  obtain ⟨b0, b1, b2, b3, e4, w4, w5, w6, w7⟩ := four_of_cells h4
  simp at e0 e1 e2 e3 e4
  obtain ⟨rfl, rfl, rfl, rfl⟩ := e4
  subst e0 e1 e2 e3
  exact ⟨⟨a0, a1, a2, a3, b0, b1, b2, b3⟩, ⟨bounds_i64 w0, bounds_i64 w1, bounds_i64 w2, bounds_i64 w3, w4, w5, w6, w7⟩, rfl⟩
set_option maxRecDepth 100000 in
theorem in_of_cells {H : Type} {enc : TypeId × Value → H} {w : World} {base n : Nat} {spare : Nat → Bool} {held : Bool} {cs : List Value} {x : DataW H × List MemPlace}
    (h : DataW.trod enc Tryz.prog w base spare held n 76 cs = some x) : ∃ c : C.In, c.ok ∧ cs = [.int .u8 c.o, .int .u8 c.d, .int .u8 c.a, .int .u8 c.b, .int .i64 c.n] := by
  obtain ⟨xs, m, _, _, hlen, hxl, hf⟩ := DataW.trod_struct Tryz.underlying76 h
  obtain ⟨c0, c1, c2, c3, c4, rfl⟩ : ∃ c0 c1 c2 c3 c4, cs = [c0, c1, c2, c3, c4] := by
    match cs, hlen.trans cells76 with
    | [c0, c1, c2, c3, c4], _ => exact ⟨_, _, _, _, _, rfl⟩
  obtain ⟨y0, y1, y2, y3, y4, rfl⟩ : ∃ y0 y1 y2 y3 y4, xs = [y0, y1, y2, y3, y4] := by
    match xs, hxl with
    | [y0, y1, y2, y3, y4], _ => exact ⟨_, _, _, _, _, rfl⟩
  have h0 := hf 0 _ rfl
  have h1 := hf 1 _ rfl
  have h2 := hf 2 _ rfl
  have h3 := hf 3 _ rfl
  have h4 := hf 4 _ rfl
  simp [cells5, cells3] at h0 h1 h2 h3 h4
  obtain ⟨a0, e0, _, w0⟩ := DataW.trod_int Tryz.underlying5 h0
  obtain ⟨a1, e1, _, w1⟩ := DataW.trod_int Tryz.underlying5 h1
  obtain ⟨a2, e2, _, w2⟩ := DataW.trod_int Tryz.underlying5 h2
  obtain ⟨a3, e3, _, w3⟩ := DataW.trod_int Tryz.underlying5 h3
  obtain ⟨a4, e4, _, w4⟩ := DataW.trod_int Tryz.underlying3 h4
  simp at e0 e1 e2 e3 e4
  subst e0 e1 e2 e3 e4
  exact ⟨⟨a0, a1, a2, a3, a4⟩, ⟨bounds_u8 w0, bounds_u8 w1, bounds_u8 w2, bounds_u8 w3, bounds_i64 w4⟩, rfl⟩

/-- The elements of a slice, whatever they are. -/
theorem slice_of_cells {α : Type} (E : Elem α) (T : TypeId) (hT : Tryz.prog.underlying T = some (.slice E.t)) (hc : Tryz.prog.cellsOf E.t = E.size) (P : α → Prop) (dflt : α) {H : Type} {enc : TypeId × Value → H} {w : World} {fuel : Nat} {cs : List Value} {x : DataW H × List MemPlace}
    (hel : ∀ (fuel : Nat) (cs : List Value) (x : DataW H × List MemPlace), DataW.trod enc Tryz.prog w 0 (fun _ => true) true fuel E.t cs = some x → ∃ a, P a ∧ cs = E.cells a)
    (h : DataW.trod enc Tryz.prog w 0 (fun _ => true) true fuel T cs = some x) :
    ∃ (A : Option Addr) (l : List α) (c : Nat), cs = [.slice A l.length c] ∧ l.length ≤ c ∧ (A = none → l.length = 0) ∧ (∀ x ∈ l, P x) ∧ Es E w w.heap.size A l := by
  have hp := E.pos
  rcases Go.Deep.open_slice hT h with ⟨hcs, _⟩ | ⟨a, len', cap', m, n, D, Pl, hcs, _, hl, _, hmm, _, hi⟩
  · exact ⟨none, [], 0, hcs, Nat.le_refl _, fun _ => rfl, fun x hx => (by cases hx), Es.none_⟩
  · simp at hmm
    subst hmm
    rcases Nat.eq_zero_or_pos m with h0 | hpos
    · subst h0
      obtain rfl : len' = 0 := by omega
      exact ⟨some a, [], 0, hcs, Nat.le_refl _, fun h => (by cases h), fun x hx => (by cases hx), Es.none_⟩
    · have key : ∀ i, ∃ c : α, i < m → P c ∧ (∀ j, j < E.size → w.cell? (a.add (i * E.size + j)) = (E.cells c)[j]?) := by
        intro i
        by_cases him : i < m
        · obtain ⟨cs', hc', ht⟩ := hi i him
          obtain ⟨c, hok, rfl⟩ := hel _ _ _ ht
          rw [hc] at hc'
          obtain ⟨_, _, hat⟩ := World.cells?_some hc'
          refine ⟨c, fun _ => ⟨hok, fun j hj => ?_⟩⟩
          rw [← Go.Deep.add_add]
          exact hat j hj
        · exact ⟨dflt, fun h => absurd h him⟩
      obtain ⟨f, hf'⟩ := Classical.skolem.1 key
      have c0 := (hf' 0 hpos).2 0 hp
      rw [List.getElem?_eq_getElem (by rw [E.len]; exact hp)] at c0
      have hsp : a.spot = none := by simpa [Addr.add] using World.cell?_spot c0
      obtain ⟨b, off, spot⟩ := a
      simp at hsp
      subst hsp
      have hadd : ∀ k, (Addr.mk b off none).add k = ⟨b, off + k, none⟩ := by intro k; by_cases e : k = 0 <;> simp [Addr.add, e]
      refine ⟨some ⟨b, off, none⟩, (List.range len').map f, m, by simpa using hcs, by simpa using hl, fun h => (by cases h), ?_, fun _ => ⟨b, off, rfl, ?_, ?_⟩⟩
      · intro x hx
        simp at hx
        obtain ⟨i, hi', rfl⟩ := hx
        exact (hf' i (by omega)).1
      · rw [hadd] at c0
        exact World.block_lt_of_cell? _ _ c0
      · intro j u hj i v hv
        rw [List.getElem?_map] at hj
        have hjl : j < len' := by
          rcases Nat.lt_or_ge j len' with h | h
          · exact h
          · rw [List.getElem?_eq_none (by simpa using h)] at hj; cases hj
        rw [List.getElem?_range hjl] at hj
        obtain rfl : f j = u := by simpa using hj
        have hil : i < E.size := by
          rw [← E.len (f j)]
          exact (List.getElem?_eq_some_iff.1 hv).1
        have g := (hf' j (by omega)).2 i hil
        rw [hadd, ← Nat.add_assoc] at g
        exact g.trans hv
set_option maxRecDepth 100000 in
theorem three_of_cells {H : Type} {enc : TypeId × Value → H} {w : World} {base n : Nat} {spare : Nat → Bool} {held : Bool} {cs : List Value} {x : DataW H × List MemPlace} (h : DataW.trod enc Tryz.prog w base spare held n 84 cs = some x) : ∃ a b c : Int, I64 a ∧ I64 b ∧ I64 c ∧ cs = [.int .i64 a, .int .i64 b, .int .i64 c] := by
  obtain ⟨xs, m, _, _, hlen, hxl, hf⟩ := DataW.trod_array Tryz.underlying84 h
  obtain ⟨c0, c1, c2, rfl⟩ : ∃ c0 c1 c2, cs = [c0, c1, c2] := by
    match cs, hlen.trans cells84 with
    | [c0, c1, c2], _ => exact ⟨_, _, _, rfl⟩
  obtain ⟨y0, y1, y2, rfl⟩ : ∃ y0 y1 y2, xs = [y0, y1, y2] := by
    match xs, hxl with
    | [y0, y1, y2], _ => exact ⟨_, _, _, rfl⟩
  have h0 := hf 0 (by decide)
  have h1 := hf 1 (by decide)
  have h2 := hf 2 (by decide)
  simp [cells3] at h0 h1 h2
  obtain ⟨a0, e0, _, w0⟩ := DataW.trod_int Tryz.underlying3 h0
  obtain ⟨a1, e1, _, w1⟩ := DataW.trod_int Tryz.underlying3 h1
  obtain ⟨a2, e2, _, w2⟩ := DataW.trod_int Tryz.underlying3 h2
  simp at e0 e1 e2
  subst e0 e1 e2
  exact ⟨a0, a1, a2, bounds_i64 w0, bounds_i64 w1, bounds_i64 w2, rfl⟩
set_option maxRecDepth 100000 in
theorem tri_of_cells {H : Type} {enc : TypeId × Value → H} {w : World} {base n : Nat} {spare : Nat → Bool} {held : Bool} {cs : List Value} {x : DataW H × List MemPlace} (h : DataW.trod enc Tryz.prog w base spare held n 86 cs = some x) : ∃ t : Tr, t.ok ∧ cs = ER.cells t := by
  obtain ⟨xs, m, _, _, hlen, hxl, hf⟩ := DataW.trod_struct Tryz.underlying86 h
  obtain ⟨c0, c1, c2, c3, rfl⟩ : ∃ c0 c1 c2 c3, cs = [c0, c1, c2, c3] := by
    match cs, hlen.trans cells86 with
    | [c0, c1, c2, c3], _ => exact ⟨_, _, _, _, rfl⟩
  obtain ⟨y0, y1, rfl⟩ : ∃ y0 y1, xs = [y0, y1] := by
    match xs, hxl with
    | [y0, y1], _ => exact ⟨_, _, rfl⟩
  have h0 := hf 0 _ rfl
  have h1 := hf 1 _ rfl
  simp [cells3, cells84] at h0 h1
  obtain ⟨a0, e0, _, w0⟩ := DataW.trod_int Tryz.underlying3 h0
  obtain ⟨a, b, c, ha, hb, hc, e1⟩ := three_of_cells h1
  simp at e0 e1
  obtain ⟨rfl, rfl, rfl⟩ := e1
  subst e0
  exact ⟨⟨a0, a, b, c⟩, ⟨bounds_i64 w0, ha, hb, hc⟩, rfl⟩
set_option maxRecDepth 100000 in
theorem tex_of_cells {H : Type} {enc : TypeId × Value → H} {w : World} {n : Nat} {cs : List Value} {x : DataW H × List MemPlace} (h : DataW.trod enc Tryz.prog w 0 (fun _ => true) true n 47 cs = some x) : ∃ l : Lo Tx, (I64 l.x.w ∧ I64 l.x.h ∧ l.x.ok ∧ l.x.px.length ≤ l.c ∧ Es EC w w.heap.size l.A l.x.px ∧ (l.A = none → l.x.px.length = 0)) ∧ cs = ET.cells l := by
  obtain ⟨xs, m, _, _, hlen, hxl, hf⟩ := DataW.trod_struct Tryz.underlying47 h
  obtain ⟨c0, c1, c2, rfl⟩ : ∃ c0 c1 c2, cs = [c0, c1, c2] := by
    match cs, hlen.trans cells47 with
    | [c0, c1, c2], _ => exact ⟨_, _, _, rfl⟩
  obtain ⟨y0, y1, y2, rfl⟩ : ∃ y0 y1 y2, xs = [y0, y1, y2] := by
    match xs, hxl with
    | [y0, y1, y2], _ => exact ⟨_, _, _, rfl⟩
  have h0 := hf 0 _ rfl
  have h1 := hf 1 _ rfl
  have h2 := hf 2 _ rfl
  simp [cells3, cells45] at h0 h1 h2
  obtain ⟨a0, e0, _, w0⟩ := DataW.trod_int Tryz.underlying3 h0
  obtain ⟨a1, e1, _, w1⟩ := DataW.trod_int Tryz.underlying3 h1
  obtain ⟨A, px, c, e2, k0, k1, k2, k3⟩ := slice_of_cells EC 45 Tryz.underlying45 cells23 (fun c => c.ok) zC (fun _ _ _ h => col_of_cells h) h2
  simp at e0 e1 e2
  subst e0 e1 e2
  exact ⟨⟨⟨a0, a1, px⟩, A, c⟩, ⟨bounds_i64 w0, bounds_i64 w1, k2, k0, k3, k1⟩, rfl⟩
set_option maxRecDepth 100000 in
theorem prog_of_cells {H : Type} {enc : TypeId × Value → H} {w : World} {n : Nat} {cs : List Value} {x : DataW H × List MemPlace} (h : DataW.trod enc Tryz.prog w 0 (fun _ => true) true n 48 cs = some x) : ∃ l : Lo (List C.In), ((∀ x ∈ l.x, x.ok) ∧ l.x.length ≤ l.c ∧ Es C.EI w w.heap.size l.A l.x ∧ (l.A = none → l.x.length = 0)) ∧ cs = EP.cells l := by
  obtain ⟨A, l, c, e2, k0, k1, k2, k3⟩ := slice_of_cells C.EI 48 Tryz.underlying48 cells76 (fun c => c.ok) C.mov (fun _ _ _ h => in_of_cells h) h
  exact ⟨⟨l, A, c⟩, ⟨k2, k0, k3, k1⟩, e2⟩
set_option maxRecDepth 100000 in
theorem draw_of_cells {H : Type} {enc : TypeId × Value → H} {w : World} {n : Nat} {cs : List Value} {x : DataW H × List MemPlace} (h : DataW.trod enc Tryz.prog w 0 (fun _ => true) true n 51 cs = some x) : ∃ l : Lo Dr, (l.x.ok ∧ l.x.tris.length ≤ l.c ∧ Es ER w w.heap.size l.A l.x.tris ∧ (l.A = none → l.x.tris.length = 0)) ∧ cs = ED.cells l := by
  obtain ⟨xs, m, _, _, hlen, hxl, hf⟩ := DataW.trod_struct Tryz.underlying51 h
  obtain ⟨c0, c1, c2, c3, c4, rfl⟩ : ∃ c0 c1 c2 c3 c4, cs = [c0, c1, c2, c3, c4] := by
    match cs, hlen.trans cells51 with
    | [c0, c1, c2, c3, c4], _ => exact ⟨_, _, _, _, _, rfl⟩
  obtain ⟨y0, y1, y2, y3, y4, rfl⟩ : ∃ y0 y1 y2 y3 y4, xs = [y0, y1, y2, y3, y4] := by
    match xs, hxl with
    | [y0, y1, y2, y3, y4], _ => exact ⟨_, _, _, _, _, rfl⟩
  have h0 := hf 0 _ rfl
  have h1 := hf 1 _ rfl
  have h2 := hf 2 _ rfl
  have h3 := hf 3 _ rfl
  have h4 := hf 4 _ rfl
  simp [cells3, cells4, cells49] at h0 h1 h2 h3 h4
  obtain ⟨a0, e0, _, w0⟩ := DataW.trod_int Tryz.underlying3 h0
  obtain ⟨a1, e1, _, w1⟩ := DataW.trod_int Tryz.underlying3 h1
  obtain ⟨a2, e2, _, w2⟩ := DataW.trod_int Tryz.underlying3 h2
  obtain ⟨a3, e3, _⟩ := DataW.trod_bool Tryz.underlying4 h3
  obtain ⟨A, l, c, e4, k0, k1, k2, k3⟩ := slice_of_cells ER 49 Tryz.underlying49 cells86 (fun c => c.ok) ⟨0, 0, 0, 0⟩ (fun _ _ _ h => tri_of_cells h) h4
  simp at e0 e1 e2 e3 e4
  subst e0 e1 e2 e3 e4
  exact ⟨⟨⟨a0, a1, a2, a3, l⟩, A, c⟩, ⟨⟨bounds_i64 w0, bounds_i64 w1, bounds_i64 w2, k2⟩, k0, k3, k1⟩, rfl⟩

/-- Slices that may be cut: nil ones are empty. -/
structure Sc.cut (s : Sc) : Prop where
  v : s.vA = none → s.vs.length = 0
  t : ∀ l ∈ s.ts, l.A = none → l.x.px.length = 0
  p : ∀ l ∈ s.ps, l.A = none → l.x.length = 0
  d : ∀ l ∈ s.ds, l.A = none → l.x.tris.length = 0
set_option maxRecDepth 100000 in
/-- A scene. -/
theorem open_scene {H : Type} {enc : TypeId × Value → H} {w : World} {b0 : Nat} {r : Reach} {v : Value} {d : DataW H} {p : List MemPlace}
    (hv : Value.okWide Tryz.prog w r b0 29 v) (h : DataW.Trod enc Tryz.prog w 0 (fun _ => true) true 29 v d p) :
    ∃ s : Sc, v = .agg #[.int .i64 s.w, .int .i64 s.h, .int .u8 s.k.r, .int .u8 s.k.g, .int .u8 s.k.b, .int .u8 s.k.a, .slice s.vA s.vs.length s.vc, .slice s.tA s.ts.length s.tc, .slice s.pA s.ps.length s.pc, .slice s.dA s.ds.length s.dc] ∧ s.ok ∧ s.at w w.heap.size ∧ s.cut := by
  obtain ⟨cs, rfl, _⟩ := okWide_struct Tryz.underlying29 hv
  obtain ⟨m, hm⟩ := h
  obtain ⟨xs, m', _, _, hlen, hxl, hf⟩ := DataW.trod_struct Tryz.underlying29 hm
  obtain ⟨l⟩ := cs
  simp only [Value.cells] at hlen hf
  obtain ⟨c0, c1, c2, c3, c4, c5, c6, c7, c8, c9, rfl⟩ : ∃ c0 c1 c2 c3 c4 c5 c6 c7 c8 c9, l = [c0, c1, c2, c3, c4, c5, c6, c7, c8, c9] := by
    match l, hlen.trans cells29 with
    | [c0, c1, c2, c3, c4, c5, c6, c7, c8, c9], _ => exact ⟨_, _, _, _, _, _, _, _, _, _, rfl⟩
  obtain ⟨y0, y1, y2, y3, y4, y5, y6, rfl⟩ : ∃ y0 y1 y2 y3 y4 y5 y6, xs = [y0, y1, y2, y3, y4, y5, y6] := by
    match xs, hxl with
    | [y0, y1, y2, y3, y4, y5, y6], _ => exact ⟨_, _, _, _, _, _, _, rfl⟩
  have h0 := hf 0 _ rfl
  have h1 := hf 1 _ rfl
  have h2 := hf 2 _ rfl
  have h3 := hf 3 _ rfl
  have h4 := hf 4 _ rfl
  have h5 := hf 5 _ rfl
  have h6 := hf 6 _ rfl
  simp [cells3, cells23, cells24, cells25, cells26, cells27] at h0 h1 h2 h3 h4 h5 h6
  obtain ⟨a0, e0, _, w0⟩ := DataW.trod_int Tryz.underlying3 h0
  obtain ⟨a1, e1, _, w1⟩ := DataW.trod_int Tryz.underlying3 h1
  obtain ⟨k, hk, e2⟩ := col_of_cells h2
  obtain ⟨vA, vs, vc, e3, v0, v1, v2, v3⟩ := slice_of_cells EV 24 Tryz.underlying24 cells74 (fun v => v.i64) ⟨0, 0, 0, 0, 0, 0, 0, 0⟩ (fun _ _ _ h => vec_of_cells h) h3
  obtain ⟨tA, ts, tc, e4, t0, t1, t2, t3⟩ := slice_of_cells ET 25 Tryz.underlying25 cells47 _ ⟨⟨0, 0, []⟩, none, 0⟩ (fun _ _ _ h => tex_of_cells h) h4
  obtain ⟨pA, ps, pc, e5, p0, p1, p2, p3⟩ := slice_of_cells EP 26 Tryz.underlying26 cells48 _ ⟨[], none, 0⟩ (fun _ _ _ h => prog_of_cells h) h5
  obtain ⟨dA, ds, dc, e6, d0, d1, d2, d3⟩ := slice_of_cells ED 27 Tryz.underlying27 cells51 _ ⟨⟨0, 0, 0, false, []⟩, none, 0⟩ (fun _ _ _ h => draw_of_cells h) h6
  simp at e0 e1 e2 e3 e4 e5 e6
  obtain ⟨rfl, rfl, rfl, rfl⟩ := e2
  subst e0 e1 e3 e4 e5 e6
  exact ⟨⟨a0, a1, k, vs, vA, vc, ts, tA, tc, ps, pA, pc, ds, dA, dc⟩, rfl,
    ⟨bounds_i64 w0, bounds_i64 w1, hk, v2, fun l hl => ⟨(t2 l hl).1, (t2 l hl).2.1, (t2 l hl).2.2.1, (t2 l hl).2.2.2.1⟩, fun l hl => ⟨(p2 l hl).1, (p2 l hl).2.1⟩, fun l hl => ⟨(d2 l hl).1, (d2 l hl).2.1⟩, v0, t0, p0, d0⟩,
    ⟨v3, t3, fun l hl => (t2 l hl).2.2.2.2.1, p3, fun l hl => (p2 l hl).2.2.1, d3, fun l hl => (d2 l hl).2.2.1⟩,
    ⟨v1, fun l hl => (t2 l hl).2.2.2.2.2, fun l hl => (p2 l hl).2.2.2, fun l hl => (d2 l hl).2.2.2⟩⟩
end Go.Proofs.YtfmmfaeognoleaaGreat
/-
  Scenes of not too much of all (pure), and what of a scene's parts is fine.
-/
namespace Go.Proofs.YtfmmfaeognoleaaGreat

structure PS.ok (p : PS) : Prop where
  w : I64 p.w
  h : I64 p.h
  k : p.k.ok
  vs : ∀ v ∈ p.vs, v.i64
  ts : ∀ t ∈ p.ts, I64 t.w ∧ I64 t.h ∧ t.ok
  ps : ∀ l ∈ p.ps, ∀ x ∈ l, x.ok
  ds : ∀ d ∈ p.ds, d.ok
structure PS.few (p : PS) : Prop where
  vs : p.vs.length ≤ 100000
  ts : p.ts.length ≤ 100000
  tx : ∀ t ∈ p.ts, t.px.length ≤ 100000
  ps : p.ps.length ≤ 100000
  px : ∀ l ∈ p.ps, l.length ≤ 100000
  ds : p.ds.length ≤ 100000
  dx : ∀ d ∈ p.ds, d.tris.length ≤ 100000
/-- Its rows have room for what they have. -/
structure Sc.cap (s : Sc) : Prop where
  v : s.vs.length ≤ s.vc
  t : s.ts.length ≤ s.tc
  tx : ∀ l ∈ s.ts, l.x.px.length ≤ l.c
  p : s.ps.length ≤ s.pc
  px : ∀ l ∈ s.ps, l.x.length ≤ l.c
  d : s.ds.length ≤ s.dc
  dx : ∀ l ∈ s.ds, l.x.tris.length ≤ l.c
theorem ok_p {s : Sc} (h : s.ok) : s.p.ok := by
  refine ⟨h.w, h.h, h.k, h.vs, fun t ht => ?_, fun l hl => ?_, fun d hd => ?_⟩
  · obtain ⟨l, hl, rfl⟩ := List.mem_map.1 (show t ∈ s.ts.map Lo.x from ht)
    exact ⟨(h.ts l hl).1, (h.ts l hl).2.1, (h.ts l hl).2.2.1⟩
  · obtain ⟨x, hx, rfl⟩ := List.mem_map.1 (show l ∈ s.ps.map Lo.x from hl)
    exact (h.ps x hx).1
  · obtain ⟨x, hx, rfl⟩ := List.mem_map.1 (show d ∈ s.ds.map Lo.x from hd)
    exact (h.ds x hx).1
theorem ok_of {s : Sc} {p : PS} (e : s.p = p) (h : p.ok) (c : s.cap) : s.ok := by
  subst e
  exact ⟨h.w, h.h, h.k, h.vs, fun l hl => by
    have := h.ts l.x (List.mem_map.2 ⟨l, hl, rfl⟩)
    exact ⟨this.1, this.2.1, this.2.2, c.tx l hl⟩, fun l hl => ⟨h.ps l.x (List.mem_map.2 ⟨l, hl, rfl⟩), c.px l hl⟩, fun l hl => ⟨h.ds l.x (List.mem_map.2 ⟨l, hl, rfl⟩), c.dx l hl⟩, c.v, c.t, c.p, c.d⟩
theorem few_of {s : Sc} {p : PS} (e : s.p = p) (h : p.few) : s.few := by
  subst e
  exact ⟨h.vs, by have := h.ts; rwa [show s.p.ts.length = s.ts.length by show (s.ts.map Lo.x).length = _; rw [List.length_map]] at this, fun l hl => h.tx l.x (List.mem_map.2 ⟨l, hl, rfl⟩),
    by have := h.ps; rwa [show s.p.ps.length = s.ps.length by show (s.ps.map Lo.x).length = _; rw [List.length_map]] at this, fun l hl => h.px l.x (List.mem_map.2 ⟨l, hl, rfl⟩),
    by have := h.ds; rwa [show s.p.ds.length = s.ds.length by show (s.ds.map Lo.x).length = _; rw [List.length_map]] at this, fun l hl => h.dx l.x (List.mem_map.2 ⟨l, hl, rfl⟩)⟩
def smT (t : Tx) : Tx := ⟨t.w, t.h, t.px.take 260⟩
def smI (l : List C.In) : List C.In := l.take 34
def smD (d : Dr) : Dr := ⟨d.id, d.prog, d.tex, d.op, d.tris.take 34⟩
def smP (p : PS) : PS := ⟨p.w, p.h, p.k, p.vs.take 66, (p.ts.take 5).map smT, (p.ps.take 5).map smI, (p.ds.take 9).map smD⟩
theorem smP_ok {p : PS} (h : p.ok) : (smP p).ok := by
  refine ⟨h.w, h.h, h.k, fun v hv => h.vs v (List.mem_of_mem_take hv), fun t ht => ?_, fun l hl => ?_, fun d hd => ?_⟩
  · obtain ⟨t, hm, rfl⟩ := List.mem_map.1 ht
    have := h.ts t (List.mem_of_mem_take hm)
    exact ⟨this.1, this.2.1, fun c hc => this.2.2 c (List.mem_of_mem_take hc)⟩
  · obtain ⟨l, hm, rfl⟩ := List.mem_map.1 hl
    exact fun x hx => h.ps l (List.mem_of_mem_take hm) x (List.mem_of_mem_take hx)
  · obtain ⟨d, hm, rfl⟩ := List.mem_map.1 hd
    have := h.ds d (List.mem_of_mem_take hm)
    exact ⟨this.id, this.prog, this.tex, fun t ht => this.tris t (List.mem_of_mem_take ht)⟩
theorem take_le {α : Type} (l : List α) (n : Nat) : (l.take n).length ≤ n := by rw [List.length_take]; omega
theorem smP_few (p : PS) : (smP p).few := by
  refine ⟨?_, ?_, fun t ht => ?_, ?_, fun l hl => ?_, ?_, fun d hd => ?_⟩
  · exact Nat.le_trans (take_le _ _) (by omega)
  · show ((p.ts.take 5).map smT).length ≤ 100000
    rw [List.length_map]
    exact Nat.le_trans (take_le _ _) (by omega)
  · obtain ⟨t, hm, rfl⟩ := List.mem_map.1 ht
    exact Nat.le_trans (take_le _ _) (by omega)
  · show ((p.ps.take 5).map smI).length ≤ 100000
    rw [List.length_map]
    exact Nat.le_trans (take_le _ _) (by omega)
  · obtain ⟨l, hm, rfl⟩ := List.mem_map.1 hl
    exact Nat.le_trans (take_le _ _) (by omega)
  · show ((p.ds.take 9).map smD).length ≤ 100000
    rw [List.length_map]
    exact Nat.le_trans (take_le _ _) (by omega)
  · obtain ⟨d, hm, rfl⟩ := List.mem_map.1 hd
    exact Nat.le_trans (take_le _ _) (by omega)
end Go.Proofs.YtfmmfaeognoleaaGreat
/-
  Plain mathematics of layer 3: numbers folded, put as bytes, and read again. No program is named here.
-/
namespace Go.Proofs.YtfmmfaeognoleaaGreat.P

def fold (n : Int) : Nat := if n < 0 then 2 * (-(n + 1)).toNat + 1 else 2 * n.toNat
def unf (u : Nat) : Int := if u % 2 = 1 then -((u / 2 : Nat) : Int) - 1 else ((u / 2 : Nat) : Int)
def In64 (n : Int) : Prop := -9223372036854775808 ≤ n ∧ n ≤ 9223372036854775807

theorem unf_fold (n : Int) : unf (fold n) = n := by
  unfold unf fold
  by_cases h : n < 0
  · rw [if_pos h, if_pos (by omega)]; omega
  · rw [if_neg h, if_neg (by omega)]; omega
theorem fold_unf (u : Nat) : fold (unf u) = u := by
  unfold unf fold
  by_cases h : u % 2 = 1
  · rw [if_pos h, if_pos (by omega)]; omega
  · rw [if_neg h, if_neg (by omega)]; omega
theorem fold_lt {n : Int} (h : In64 n) : fold n < 18446744073709551616 := by
  unfold In64 at h
  unfold fold
  split <;> omega
theorem unf_in {u : Nat} (h : u < 18446744073709551616) : In64 (unf u) := by
  unfold In64 unf
  split <;> omega

def enc (u : Nat) : List Int := if u < 128 then [(u : Int)] else ((u % 128 + 128 : Nat) : Int) :: enc (u / 128)
termination_by u
decreasing_by omega

theorem enc_lt {u : Nat} (h : u < 128) : enc u = [(u : Int)] := by rw [enc, if_pos h]
theorem enc_ge {u : Nat} (h : ¬ u < 128) : enc u = ((u % 128 + 128 : Nat) : Int) :: enc (u / 128) := by rw [enc, if_neg h]

def Byt (l : List Int) : Prop := ∀ x ∈ l, 0 ≤ x ∧ x ≤ 255
theorem Byt.nil : Byt [] := fun _ h => by simp at h
theorem Byt.app {a b : List Int} (h : Byt a) (k : Byt b) : Byt (a ++ b) := fun x hx => (List.mem_append.1 hx).elim (h x) (k x)
theorem Byt.take {a : List Int} (h : Byt a) (n : Nat) : Byt (a.take n) := fun x hx => h x (List.mem_of_mem_take hx)
theorem Byt.drop {a : List Int} (h : Byt a) (n : Nat) : Byt (a.drop n) := fun x hx => h x (List.mem_of_mem_drop hx)
theorem Byt.get {a : List Int} (h : Byt a) (n : Nat) : 0 ≤ a.getD n 0 ∧ a.getD n 0 ≤ 255 := by
  rcases Nat.lt_or_ge n a.length with hl | hl
  · rw [List.getD_eq_getElem?_getD, List.getElem?_eq_getElem hl]; exact h _ (List.getElem_mem hl)
  · rw [List.getD_eq_getElem?_getD, List.getElem?_eq_none hl]; simp

theorem enc_byt (u : Nat) : Byt (enc u) := by
  induction u using Nat.strongRecOn with
  | ind u ih =>
    by_cases h : u < 128
    · rw [enc_lt h]; intro x hx; simp at hx; omega
    · rw [enc_ge h]; intro x hx
      rcases List.mem_cons.1 hx with rfl | hx
      · omega
      · exact ih _ (by omega) x hx

theorem enc_pos (u : Nat) : 1 ≤ (enc u).length := by
  by_cases h : u < 128
  · rw [enc_lt h]; simp
  · rw [enc_ge h]; simp

theorem enc_mono : ∀ (v u : Nat), u ≤ v → (enc u).length ≤ (enc v).length := by
  intro v
  induction v using Nat.strongRecOn with
  | ind v ih =>
    intro u huv
    by_cases h : u < 128
    · rw [enc_lt h]; exact enc_pos v
    · rw [enc_ge h, enc_ge (u := v) (by omega)]
      simp only [List.length_cons]
      have := ih (v / 128) (by omega) (u / 128) (by omega)
      omega

theorem enc_len_step {u k : Nat} (h : (enc (u / 128)).length ≤ k) : (enc u).length ≤ k + 1 := by
  by_cases hu : u < 128
  · rw [enc_lt hu]; simp
  · rw [enc_ge hu]; simp; exact h

theorem enc_len10 {u : Nat} (h : u < 18446744073709551616) : (enc u).length ≤ 10 := by
  have e1 : ∀ x, x < 128 → (enc x).length ≤ 1 := fun x hx => by rw [enc_lt hx]; simp
  refine enc_len_step (enc_len_step (enc_len_step (enc_len_step (enc_len_step (enc_len_step (enc_len_step (enc_len_step (enc_len_step (e1 _ ?_)))))))))
  omega

theorem enc_one (u : Nat) : (enc u).length = 1 ↔ u < 128 := by
  constructor
  · intro h
    rcases Nat.lt_or_ge u 128 with hu | hu
    · exact hu
    · rw [enc_ge (by omega)] at h; simp only [List.length_cons] at h
      have := enc_pos (u / 128); omega
  · intro h; rw [enc_lt h]; simp

theorem enc_two (u : Nat) : (enc u).length ≤ 2 ↔ u < 16384 := by
  by_cases hu : u < 128
  · rw [enc_lt hu]; simp; omega
  · rw [enc_ge hu]; simp only [List.length_cons]
    have h1 := enc_one (u / 128)
    have h2 := enc_pos (u / 128)
    omega

/-- The bytes of an even number and of the next one: the first one is one more, the others are the same. -/
theorem enc_next (m : Nat) : ∃ (a : Int) (t : List Int), enc (2 * m) = a :: t ∧ enc (2 * m + 1) = (a + 1) :: t ∧ 0 ≤ a ∧ a + 1 ≤ 255 := by
  by_cases h : 2 * m < 128
  · exact ⟨((2 * m : Nat) : Int), [], by rw [enc_lt h], by rw [enc_lt (by omega)]; simp, by omega, by omega⟩
  · refine ⟨((2 * m % 128 + 128 : Nat) : Int), enc (2 * m / 128), by rw [enc_ge h], ?_, by omega, by omega⟩
    rw [enc_ge (by omega), show (2 * m + 1) / 128 = 2 * m / 128 by omega]
    congr 1
    omega

def scan : Nat → Nat → List Int → Int × Nat
  | _, _, [] => (0, 0)
  | i, u, p :: r => if 10 ≤ i then (0, 0) else if 128 ≤ p then scan (i + 1) (u + (p.toNat % 128) * 128 ^ i) r else
      if (0 < i ∧ p = 0) ∨ (i = 9 ∧ 1 < p) then (0, 0) else (unf (u + p.toNat * 128 ^ i), i + 1)
def first (b : List Int) : Int × Nat := scan 0 0 b

theorem scan_ten (i u : Nat) (h : 10 ≤ i) : ∀ l, scan i u l = (0, 0)
  | [] => rfl
  | p :: r => by rw [scan, if_pos h]
theorem scan_more {i u : Nat} {p : Int} {r : List Int} (h : i < 10) (hp : 128 ≤ p) : scan i u (p :: r) = scan (i + 1) (u + (p.toNat % 128) * 128 ^ i) r := by
  rw [scan, if_neg (by omega), if_pos hp]
theorem scan_bad {i u : Nat} {p : Int} {r : List Int} (h : i < 10) (hp : p < 128) (hb : (0 < i ∧ p = 0) ∨ (i = 9 ∧ 1 < p)) : scan i u (p :: r) = (0, 0) := by
  rw [scan, if_neg (by omega), if_neg (by omega), if_pos hb]
theorem scan_good {i u : Nat} {p : Int} {r : List Int} (h : i < 10) (hp : p < 128) (hb : ¬ ((0 < i ∧ p = 0) ∨ (i = 9 ∧ 1 < p))) : scan i u (p :: r) = (unf (u + p.toNat * 128 ^ i), i + 1) := by
  rw [scan, if_neg (by omega), if_neg (by omega), if_neg hb]

theorem pow_parts (k : Nat) : 128 ^ (k + 1) = 128 ^ k * 128 := Nat.pow_succ ..

theorem ten_cases {k : Nat} (h : k < 10) : k = 0 ∨ k = 1 ∨ k = 2 ∨ k = 3 ∨ k = 4 ∨ k = 5 ∨ k = 6 ∨ k = 7 ∨ k = 8 ∨ k = 9 := by omega

theorem step_lt {q x A R T : Nat} (hq : q < 128) (hA : 0 < A) (hR : R * (A * 128) = T) (h : x * (A * 128) < T) : (q + 128 * x) * A < T := by
  subst hR
  have hx : x < R := Nat.lt_of_mul_lt_mul_right h
  have h1 : q + 128 * x < R * 128 := by omega
  have h2 := Nat.mul_lt_mul_of_pos_right h1 hA
  rwa [Nat.mul_assoc, Nat.mul_comm 128 A] at h2

theorem step_lt9 {q x k : Nat} (hq : q < 128) (hk : k + 1 < 10) (h : x * 128 ^ (k + 1) < 18446744073709551616) : (q + 128 * x) * 128 ^ k < 18446744073709551616 := by
  rw [pow_parts] at h
  refine step_lt (R := 2 ^ 64 / 128 ^ (k + 1)) hq (Nat.pow_pos (by decide)) ?_ h
  rcases ten_cases (k := k) (by omega) with rfl | rfl | rfl | rfl | rfl | rfl | rfl | rfl | rfl | rfl
  all_goals first | decide | omega

/-- x * 128 ^ k is of 64 bits: at the tenth part x is 0 or 1. -/
theorem last_small {x : Nat} (h : x * 128 ^ 9 < 18446744073709551616) : x ≤ 1 := by
  simp at h; omega

theorem scan_enc : ∀ (x k u : Nat) (r : List Int), k < 10 → x * 128 ^ k < 18446744073709551616 → (k = 0 ∨ 0 < x) →
    scan k u (enc x ++ r) = (unf (u + x * 128 ^ k), k + (enc x).length) := by
  intro x
  induction x using Nat.strongRecOn with
  | ind x ih =>
    intro k u r hk hx h0
    by_cases h : x < 128
    · rw [enc_lt h]
      show scan k u ((x : Int) :: r) = _
      rw [scan_good hk (by omega) ?_]
      · simp
      · rintro (⟨h1, h2⟩ | ⟨h1, h2⟩)
        · omega
        · subst h1; have := last_small hx; omega
    · rw [enc_ge h]
      have hk9 : k ≠ 9 := by rintro rfl; have := last_small hx; omega
      have e1 : x * 128 ^ k = x % 128 * 128 ^ k + x / 128 * 128 ^ (k + 1) := by
        rw [pow_parts, Nat.mul_comm (128 ^ k) 128, ← Nat.mul_assoc, ← Nat.add_mul]
        congr 1; omega
      show scan k u (((x % 128 + 128 : Nat) : Int) :: (enc (x / 128) ++ r)) = _
      rw [scan_more hk (by omega), ih (x / 128) (by omega) (k + 1) _ r (by omega) (by omega) (by omega)]
      rw [show ((x % 128 + 128 : Nat) : Int).toNat % 128 = x % 128 by omega]
      refine Prod.ext ?_ ?_
      · show unf _ = unf _
        congr 1; omega
      · simp only [List.length_cons]; omega

theorem scan_inv : ∀ (l : List Int) (k u : Nat) (n : Int) (s : Nat), Byt l → scan k u l = (n, s) → s ≠ 0 →
    k < 10 ∧ ∃ x r, l = enc x ++ r ∧ s = k + (enc x).length ∧ n = unf (u + x * 128 ^ k) ∧ x * 128 ^ k < 18446744073709551616 ∧ (k = 0 ∨ 0 < x) := by
  intro l
  induction l with
  | nil => intro k u n s _ h hs; simp [scan] at h; omega
  | cons p r ih =>
    intro k u n s hb h hs
    have hp := hb p (by simp)
    by_cases hk : 10 ≤ k
    · rw [scan_ten _ _ hk] at h; simp at h; omega
    by_cases hp128 : 128 ≤ p
    · rw [scan_more (by omega) hp128] at h
      obtain ⟨hk1, x, r', hl, hs', hn, hx, h0⟩ := ih (k + 1) _ n s (fun y hy => hb y (List.mem_cons_of_mem _ hy)) h hs
      have hx0 : 0 < x := by omega
      refine ⟨by omega, p.toNat % 128 + 128 * x, r', ?_, ?_, ?_, ?_, by omega⟩
      · rw [enc_ge (by omega), show (p.toNat % 128 + 128 * x) / 128 = x by omega, hl]
        show p :: (enc x ++ r') = ((_ : Nat) : Int) :: (enc x ++ r')
        congr 1; omega
      · rw [enc_ge (by omega), show (p.toNat % 128 + 128 * x) / 128 = x by omega, hs']
        simp only [List.length_cons]; omega
      · rw [hn]
        congr 1
        rw [Nat.add_mul, pow_parts, Nat.mul_comm 128 x, Nat.mul_assoc, Nat.mul_comm 128 (128 ^ k)]; omega
      · clear ih h hn hl hs' hb
        have hq : p.toNat % 128 < 128 := by omega
        generalize p.toNat % 128 = q at hq ⊢
        exact step_lt9 hq hk1 hx
    · by_cases hbad : (0 < k ∧ p = 0) ∨ (k = 9 ∧ 1 < p)
      · rw [scan_bad (by omega) (by omega) hbad] at h; simp at h; omega
      · rw [scan_good (by omega) (by omega) hbad] at h
        simp only [Prod.mk.injEq] at h
        obtain ⟨hn, hs'⟩ := h
        refine ⟨by omega, p.toNat, r, ?_, ?_, hn.symm, ?_, by omega⟩
        · rw [enc_lt (by omega)]
          show p :: r = ((p.toNat : Nat) : Int) :: r
          congr 1; omega
        · rw [enc_lt (by omega)]; simp; omega
        · rcases ten_cases (k := k) (by omega) with rfl | rfl | rfl | rfl | rfl | rfl | rfl | rfl | rfl | rfl <;> simp only [Nat.reducePow] <;> omega

/-- What was put is read, and nothing behind it. -/
theorem first_put {n : Int} (h : In64 n) (r : List Int) : first (enc (fold n) ++ r) = (n, (enc (fold n)).length) := by
  unfold first
  rw [scan_enc _ 0 0 r (by decide) (by simpa using fold_lt h) (.inl rfl)]
  simp [unf_fold]

/-- What is read was put. -/
theorem first_inv {b : List Int} {n : Int} {s : Nat} (hb : Byt b) (h : first b = (n, s)) (hs : s ≠ 0) :
    In64 n ∧ s = (enc (fold n)).length ∧ b = enc (fold n) ++ b.drop s ∧ s ≤ b.length ∧ 1 ≤ s ∧ s ≤ 10 := by
  obtain ⟨_, x, r, hl, hs', hn, hx, _⟩ := scan_inv b 0 0 n s hb h hs
  simp at hs' hn hx
  have hf : fold n = x := by rw [hn, fold_unf]
  have hin : In64 n := by rw [hn]; exact unf_in hx
  have hd : b.drop s = r := by rw [hl, hs']; simp
  have hlen : s ≤ b.length := by rw [hl, hs']; simp
  have := enc_pos x
  have := enc_len10 hx
  exact ⟨hin, by rw [hf, hs'], by rw [hd, hf]; exact hl, hlen, by omega, by omega⟩

theorem scan_zero : ∀ (l : List Int) (k u : Nat) (n : Int), scan k u l = (n, 0) → n = 0 := by
  intro l
  induction l with
  | nil => intro k u n h; simp [scan] at h; exact h.symm
  | cons p r ih =>
    intro k u n h
    by_cases hk : 10 ≤ k
    · rw [scan_ten _ _ hk] at h; simp at h; exact h.symm
    by_cases hp128 : 128 ≤ p
    · rw [scan_more (by omega) hp128] at h; exact ih _ _ _ h
    · by_cases hbad : (0 < k ∧ p = 0) ∨ (k = 9 ∧ 1 < p)
      · rw [scan_bad (by omega) (by omega) hbad] at h; simp at h; exact h.symm
      · rw [scan_good (by omega) (by omega) hbad] at h
        simp at h

theorem first_zero {b : List Int} {n : Int} (h : first b = (n, 0)) : n = 0 := scan_zero b 0 0 n h

/-- All numbers put, one behind the other. -/
def put (l : List Int) : List Int := l.flatMap fun n => enc (fold n)
theorem put_nil : put [] = [] := rfl
theorem put_cons (n : Int) (l : List Int) : put (n :: l) = enc (fold n) ++ put l := rfl
theorem put_app (a b : List Int) : put (a ++ b) = put a ++ put b := by simp [put]
theorem put_snoc (a : List Int) (n : Int) : put (a ++ [n]) = put a ++ enc (fold n) := by simp [put]
theorem put_byt (l : List Int) : Byt (put l) := by
  induction l with
  | nil => exact Byt.nil
  | cons n l ih => rw [put_cons]; exact (enc_byt _).app ih
def Ins (l : List Int) : Prop := ∀ n ∈ l, In64 n
theorem Ins.take {l : List Int} (h : Ins l) (k : Nat) : Ins (l.take k) := fun n hn => h n (List.mem_of_mem_take hn)
theorem Ins.app {a b : List Int} (h : Ins a) (k : Ins b) : Ins (a ++ b) := fun x hx => (List.mem_append.1 hx).elim (h x) (k x)
theorem Ins.get {l : List Int} (h : Ins l) (k : Nat) : In64 (l.getD k 0) := by
  rcases Nat.lt_or_ge k l.length with hl | hl
  · rw [List.getD_eq_getElem?_getD, List.getElem?_eq_getElem hl]; exact h _ (List.getElem_mem hl)
  · rw [List.getD_eq_getElem?_getD, List.getElem?_eq_none hl]; unfold In64; simp
theorem put_len {l : List Int} (h : Ins l) : l.length ≤ (put l).length ∧ (put l).length ≤ 10 * l.length := by
  induction l with
  | nil => simp [put]
  | cons n l ih =>
    have h1 := ih fun x hx => h x (List.mem_cons_of_mem _ hx)
    have h2 := enc_pos (fold n)
    have h3 := enc_len10 (fold_lt (h n (by simp)))
    rw [put_cons]; simp only [List.length_append, List.length_cons]; omega

/-- The numbers with which bytes begin, each with true; then, if bytes are left, 0 with false. -/
def seq (b : List Int) : List (Int × Bool) :=
  if b = [] then [] else if (first b).2 = 0 then [(0, false)] else if _h : (first b).2 ≤ b.length then ((first b).1, true) :: seq (b.drop (first b).2) else []
termination_by b.length
decreasing_by simp only [List.length_drop]; omega

theorem seq_nil : seq [] = [] := by rw [seq, if_pos rfl]
theorem seq_bad {b : List Int} {n : Int} (hb : b ≠ []) (h : first b = (n, 0)) : seq b = [(0, false)] := by rw [seq, if_neg hb, if_pos (by rw [h])]
theorem seq_good {b : List Int} {n : Int} {s : Nat} (hb : Byt b) (h : first b = (n, s)) (hs : s ≠ 0) : seq b = (n, true) :: seq (b.drop s) := by
  obtain ⟨_, _, _, hl, h1, _⟩ := first_inv hb h hs
  have hne : b ≠ [] := by rintro rfl; simp at hl; omega
  rw [seq, if_neg hne, if_neg (by rw [h]; exact hs), dif_pos (by rw [h]; exact hl), h]

theorem seq_put {l : List Int} (h : Ins l) (r : List Int) : seq (put l ++ r) = l.map (fun n => (n, true)) ++ seq r := by
  induction l with
  | nil => simp [put]
  | cons n l ih =>
    have hn := h n (by simp)
    have hp := enc_pos (fold n)
    rw [put_cons, List.append_assoc]
    have hf := first_put hn (put l ++ r)
    have hne : enc (fold n) ++ (put l ++ r) ≠ [] := by intro e; have := congrArg List.length e; simp only [List.length_append, List.length_nil] at this; omega
    rw [seq, if_neg hne, if_neg (by rw [hf]; show ¬ (enc (fold n)).length = 0; omega), dif_pos (by rw [hf]; simp), hf]
    simp [ih fun x hx => h x (List.mem_cons_of_mem _ hx)]

def nums (q : List (Int × Bool)) : List Int := (q.filter (·.2)).map (·.1)
def flag (q : List (Int × Bool)) : Bool := q.any fun x => !x.2
theorem nums_snoc_t (q : List (Int × Bool)) (n : Int) : nums (q ++ [(n, true)]) = nums q ++ [n] := by simp [nums]
theorem nums_snoc_f (q : List (Int × Bool)) (n : Int) : nums (q ++ [(n, false)]) = nums q := by simp [nums]
theorem flag_snoc_t (q : List (Int × Bool)) (n : Int) : flag (q ++ [(n, true)]) = flag q := by simp [flag]
theorem flag_snoc_f (q : List (Int × Bool)) (n : Int) : flag (q ++ [(n, false)]) = true := by simp [flag]
theorem nums_le (q : List (Int × Bool)) : (nums q).length ≤ q.length := by unfold nums; rw [List.length_map]; exact List.length_filter_le _ _

theorem seq_len : ∀ (k : Nat) (b : List Int), b.length ≤ k → Byt b → (seq b).length ≤ b.length ∧ Ins (nums (seq b)) ∧
    (∃ (q : List Int) (t : List (Int × Bool)), seq b = q.map (fun n => (n, true)) ++ t ∧ (t = [] ∨ t = [(0, false)])) := by
  intro k
  induction k with
  | zero =>
    intro b hb _
    have : b = [] := List.eq_nil_of_length_eq_zero (by omega)
    subst this; rw [seq_nil]; exact ⟨by simp, fun _ h => by simp [nums] at h, [], [], rfl, .inl rfl⟩
  | succ k ih =>
    intro b hbk hb
    by_cases hne : b = []
    · subst hne; rw [seq_nil]; exact ⟨by simp, fun _ h => by simp [nums] at h, [], [], rfl, .inl rfl⟩
    have hl0 : 0 < b.length := List.length_pos_iff.2 hne
    obtain ⟨n, s, hf⟩ : ∃ n s, first b = (n, s) := ⟨_, _, rfl⟩
    by_cases hs : s = 0
    · subst hs; rw [seq_bad hne hf]; exact ⟨by simp; omega, fun _ h => by simp [nums] at h, [], [(0, false)], rfl, .inr rfl⟩
    · obtain ⟨hin, _, _, hl, h1, _⟩ := first_inv hb hf hs
      obtain ⟨ha, hc, q, t, hq, ht⟩ := ih (b.drop s) (by rw [List.length_drop]; omega) (hb.drop s)
      rw [seq_good hb hf hs]
      refine ⟨by rw [List.length_drop] at ha; simp only [List.length_cons]; omega, ?_, n :: q, t, by rw [hq]; rfl, ht⟩
      intro x hx
      rw [show nums ((n, true) :: seq (b.drop s)) = n :: nums (seq (b.drop s)) by simp [nums]] at hx
      rcases List.mem_cons.1 hx with rfl | hx
      · exact hin
      · exact hc x hx

end Go.Proofs.YtfmmfaeognoleaaGreat.P
/-
  Plain mathematics for WireBack and WireLeft: what a part of the bytes says.
-/
namespace Go.Proofs.YtfmmfaeognoleaaGreat.P

theorem nums_trues (q : List Int) : nums (q.map fun n => (n, true)) = q := by simp [nums, List.filter_map, Function.comp_def]
theorem flag_trues (q : List Int) : flag (q.map fun n => (n, true)) = false := by simp [flag]

theorem seq_all {l : List Int} (h : Ins l) : seq (put l) = l.map fun n => (n, true) := by
  have := seq_put h []
  rw [List.append_nil, seq_nil, List.append_nil] at this
  exact this

theorem seq_part {n : Int} (hn : In64 n) {k : Nat} (hk : k < (enc (fold n)).length) : nums (seq ((enc (fold n)).take k)) = [] := by
  by_cases he : (enc (fold n)).take k = []
  · rw [he, seq_nil]; rfl
  obtain ⟨x, s, hf⟩ : ∃ x s, first ((enc (fold n)).take k) = (x, s) := ⟨_, _, rfl⟩
  by_cases hs : s = 0
  · subst hs; rw [seq_bad he hf]; rfl
  exfalso
  obtain ⟨hx, hsl, happ, hle, _, _⟩ := first_inv ((enc_byt _).take k) hf hs
  have h1 := first_put hn []
  rw [List.append_nil] at h1
  have h2 : enc (fold n) = enc (fold x) ++ (((enc (fold n)).take k).drop s ++ (enc (fold n)).drop k) := by
    rw [← List.append_assoc, ← happ, List.take_append_drop]
  have h3 := first_put hx (((enc (fold n)).take k).drop s ++ (enc (fold n)).drop k)
  rw [← h2, h1] at h3
  have h4 := congrArg Prod.snd h3
  simp only at h4
  rw [List.length_take] at hle
  omega

theorem seq_cut : ∀ {l : List Int} (_ : Ins l) (k : Nat), k ≤ (put l).length → ∃ j, j ≤ l.length ∧ nums (seq ((put l).take k)) = l.take j ∧ (k < (put l).length → j < l.length) := by
  intro l
  induction l with
  | nil => intro _ k hk; exact ⟨0, by simp, by simp [put, seq_nil, nums], fun h => by simp [put] at h⟩
  | cons n l ih =>
    intro h k hk
    have hn := h n (by simp)
    have hl : Ins l := fun x hx => h x (List.mem_cons_of_mem _ hx)
    by_cases hkn : k < (enc (fold n)).length
    · refine ⟨0, by simp, ?_, fun _ => by simp⟩
      rw [put_cons, List.take_append_of_le_length (by omega), seq_part hn hkn]; rfl
    · rw [put_cons, List.length_append] at hk
      obtain ⟨j, hj, hjn, hjk⟩ := ih hl (k - (enc (fold n)).length) (by omega)
      refine ⟨j + 1, by simp; omega, ?_, fun hlt => ?_⟩
      · have e : (put (n :: l)).take k = put [n] ++ (put l).take (k - (enc (fold n)).length) := by
          rw [put_cons, put_cons, put_nil, List.append_nil, List.take_append, List.take_of_length_le (by omega)]
        rw [e, seq_put (fun x hx => by simp at hx; subst hx; exact hn)]
        show nums ((n, true) :: seq _) = _
        rw [show nums ((n, true) :: seq ((put l).take (k - (enc (fold n)).length))) = n :: nums (seq ((put l).take (k - (enc (fold n)).length))) by simp [nums], hjn]; rfl
      · rw [put_cons, List.length_append] at hlt
        have := hjk (by omega)
        simp; omega

theorem first_here {l : List Int} (h : Ins l) {i : Nat} (hi : i < l.length) {n : Int} (hn : l.getD i 0 = n) : first (put (l.drop i)) = (n, (enc (fold n)).length) ∧ (put (l.drop i)).drop (enc (fold n)).length = put (l.drop (i + 1)) := by
  have e : l.drop i = n :: l.drop (i + 1) := by
    rw [List.drop_eq_getElem_cons hi, ← hn, List.getD_eq_getElem?_getD, List.getElem?_eq_getElem hi]; rfl
  have hin : In64 n := by rw [← hn]; exact h.get i
  rw [e, put_cons]
  exact ⟨first_put hin _, by simp⟩
theorem Ins.drop {l : List Int} (h : Ins l) (k : Nat) : Ins (l.drop k) := fun n hn => h n (List.mem_of_mem_drop hn)
end Go.Proofs.YtfmmfaeognoleaaGreat.P
/-
  Scenes as numbers, and numbers as scenes (pure): what is said, and how it is read, as package codec reads it.
-/
namespace Go.Proofs.YtfmmfaeognoleaaGreat

def nC (c : Col) : List Int := [c.r, c.g, c.b, c.a]
def nV (v : U.V) : List Int := [v.x, v.y, v.z, v.w, v.a, v.b, v.c, v.d]
def nI (x : C.In) : List Int := [x.o, x.d, x.a, x.b, x.n]
def nR (t : Tr) : List Int := [t.i, t.a, t.b, t.c]
def nAll {α : Type} (g : α → List Int) (l : List α) : List Int := (l.length : Int) :: l.flatMap g
def nT (t : Tx) : List Int := t.w :: t.h :: nAll nC t.px
def nP (l : List C.In) : List Int := nAll nI l
def nB (b : Bool) : Int := if b then 1 else 0
def nD (d : Dr) : List Int := d.id :: d.prog :: d.tex :: nB d.op :: nAll nR d.tris
def nS (p : PS) : List Int := p.w :: p.h :: (nC p.k ++ (nAll nV p.vs ++ (nAll nT p.ts ++ (nAll nP p.ps ++ nAll nD p.ds))))

/-- What is left to be read, and whether it went bad. -/
structure St where
  l : List Int
  bad : Bool
def rNum (s : St) : Int × St := match s.l with
  | [] => (0, ⟨[], true⟩)
  | n :: r => (n, ⟨r, s.bad⟩)
def rUp (m : Int) (s : St) : Int × St := if (rNum s).1 < 0 ∨ m < (rNum s).1 then (0, ⟨(rNum s).2.l, true⟩) else rNum s
def rSm (s : St) : Int × St := rUp 255 s
def rSign (s : St) : Bool × St := (decide ((rUp 1 s).1 = 1), (rUp 1 s).2)
/-- So many, one behind the other. -/
def rRep {α : Type} (f : St → α × St) : Nat → St → List α × St
  | 0, s => ([], s)
  | k + 1, s => ((rRep f k s).1 ++ [(f (rRep f k s).2).1], (f (rRep f k s).2).2)
def rMany (s : St) : Int × St := rUp (s.l.length - 1) s
def rAll {α : Type} (f : St → α × St) (s : St) : List α × St := rRep f (rMany s).1.toNat (rMany s).2
def rC (s : St) : Col × St :=
  let a := rSm s; let b := rSm a.2; let c := rSm b.2; let d := rSm c.2
  (⟨a.1, b.1, c.1, d.1⟩, d.2)
def rV (s : St) : U.V × St :=
  let a := rNum s; let b := rNum a.2; let c := rNum b.2; let d := rNum c.2; let e := rNum d.2; let f := rNum e.2; let g := rNum f.2; let h := rNum g.2
  (⟨a.1, b.1, c.1, d.1, e.1, f.1, g.1, h.1⟩, h.2)
def rI (s : St) : C.In × St :=
  let a := rSm s; let b := rSm a.2; let c := rSm b.2; let d := rSm c.2; let e := rNum d.2
  (⟨a.1, b.1, c.1, d.1, e.1⟩, e.2)
def rR (s : St) : Tr × St :=
  let a := rNum s; let b := rNum a.2; let c := rNum b.2; let d := rNum c.2
  (⟨a.1, b.1, c.1, d.1⟩, d.2)
def rT (s : St) : Tx × St :=
  let a := rNum s; let b := rNum a.2; let c := rAll rC b.2
  (⟨a.1, b.1, c.1⟩, c.2)
def rP (s : St) : List C.In × St := rAll rI s
def rD (s : St) : Dr × St :=
  let a := rNum s; let b := rNum a.2; let c := rNum b.2; let d := rSign c.2; let e := rAll rR d.2
  (⟨a.1, b.1, c.1, d.1, e.1⟩, e.2)
def rS (s : St) : PS × St :=
  let a := rNum s; let b := rNum a.2; let c := rC b.2; let d := rAll rV c.2; let e := rAll rT d.2; let f := rAll rP e.2; let g := rAll rD f.2
  (⟨a.1, b.1, c.1, d.1, e.1, f.1, g.1⟩, g.2)

/-- A way to read goes with a way to say. -/
structure Goes {α : Type} (f : St → α × St) (g : α → List Int) (ok : α → Prop) : Prop where
  fwd : ∀ x r b, ok x → f ⟨g x ++ r, b⟩ = (x, ⟨r, b⟩)
  mono : ∀ s, (f s).2.bad = false → s.bad = false
  inv : ∀ s, (f s).2.bad = false → s.l = g (f s).1 ++ (f s).2.l
  ok : ∀ s, (f s).2.bad = false → P.Ins s.l → ok (f s).1
section
variable {α : Type} {f : St → α × St} {g : α → List Int} {ok : α → Prop}
theorem ins_right {a b : List Int} (h : P.Ins (a ++ b)) : P.Ins b := fun n hn => h n (List.mem_append_right _ hn)
theorem ins_left {a b : List Int} (h : P.Ins (a ++ b)) : P.Ins a := fun n hn => h n (List.mem_append_left _ hn)
theorem Goes.next (h : Goes f g ok) {s : St} (hb : (f s).2.bad = false) (hi : P.Ins s.l) : P.Ins (f s).2.l := by
  have := h.inv s hb
  rw [this] at hi
  exact ins_right hi
theorem num_goes : Goes rNum (fun n => [n]) I64 where
  fwd x r b _ := rfl
  mono s hb := by
    obtain ⟨l, b⟩ := s
    cases l with
    | nil => cases hb
    | cons n r => exact hb
  inv s hb := by
    obtain ⟨l, b⟩ := s
    cases l with
    | nil => cases hb
    | cons n r => rfl
  ok s hb hi := by
    obtain ⟨l, b⟩ := s
    cases l with
    | nil => cases hb
    | cons n r => exact hi n (by simp)
theorem up_of {m : Int} {s : St} (hb : (rUp m s).2.bad = false) : rUp m s = rNum s ∧ 0 ≤ (rNum s).1 ∧ (rNum s).1 ≤ m := by
  unfold rUp at hb ⊢
  split at hb
  · cases hb
  · rename_i hn
    rw [if_neg hn]
    exact ⟨rfl, by omega, by omega⟩
theorem up_goes (m : Int) : Goes (rUp m) (fun n => [n]) (fun n => 0 ≤ n ∧ n ≤ m) where
  fwd x r b h := by
    show (if x < 0 ∨ m < x then _ else _) = _
    rw [if_neg (by omega)]
    rfl
  mono s hb := by
    have e := (up_of hb).1
    rw [e] at hb
    exact num_goes.mono s hb
  inv s hb := by
    have e := (up_of hb).1
    rw [e] at hb ⊢
    exact num_goes.inv s hb
  ok s hb _ := by
    obtain ⟨e, h1, h2⟩ := up_of hb
    rw [e]
    exact ⟨h1, h2⟩
theorem sign_goes : Goes rSign (fun b => [nB b]) (fun _ => True) where
  fwd x r b _ := by
    unfold rSign
    cases x
    · rw [show ([nB false] ++ r : List Int) = [0] ++ r from rfl, (up_goes 1).fwd 0 r b (by omega)]
      rfl
    · rw [show ([nB true] ++ r : List Int) = [1] ++ r from rfl, (up_goes 1).fwd 1 r b (by omega)]
      rfl
  mono s hb := (up_goes 1).mono s hb
  inv s hb := by
    obtain ⟨e, h1, h2⟩ := up_of (s := s) (m := 1) hb
    have h3 := (up_goes 1).inv s hb
    rw [h3]
    unfold rSign
    rw [e]
    have : (rNum s).1 = 0 ∨ (rNum s).1 = 1 := by omega
    rcases this with e | e <;> rw [e] <;> rfl
  ok s _ _ := trivial
theorem rep_mono (h : Goes f g ok) : ∀ (k : Nat) (s : St), (rRep f k s).2.bad = false → s.bad = false
  | 0, _, hb => hb
  | k + 1, s, hb => rep_mono h k s (h.mono _ hb)
theorem rep_len : ∀ (k : Nat) (s : St), (rRep f k s).1.length = k
  | 0, _ => rfl
  | k + 1, s => by
    show ((rRep f k s).1 ++ [_]).length = _
    rw [List.length_append, rep_len k s]
    rfl
theorem rep_inv (h : Goes f g ok) : ∀ (k : Nat) (s : St), (rRep f k s).2.bad = false → s.l = (rRep f k s).1.flatMap g ++ (rRep f k s).2.l
  | 0, s, _ => rfl
  | k + 1, s, hb => by
    have e1 := rep_inv h k s (h.mono _ hb)
    have e2 := h.inv _ hb
    show _ = ((rRep f k s).1 ++ [_]).flatMap g ++ (f (rRep f k s).2).2.l
    rw [List.flatMap_append, List.append_assoc, e1]
    congr 1
    simpa using e2
theorem rep_ok (h : Goes f g ok) : ∀ (k : Nat) (s : St), (rRep f k s).2.bad = false → P.Ins s.l → ∀ x ∈ (rRep f k s).1, ok x
  | 0, s, _, _ => fun x hx => (by cases hx)
  | k + 1, s, hb, hi => fun x hx => by
    have e1 := rep_inv h k s (h.mono _ hb)
    rcases List.mem_append.1 (show x ∈ (rRep f k s).1 ++ [(f (rRep f k s).2).1] from hx) with hx | hx
    · exact rep_ok h k s (h.mono _ hb) hi x hx
    · obtain rfl : x = (f (rRep f k s).2).1 := by simpa using hx
      rw [e1] at hi
      exact h.ok _ hb (ins_right hi)
theorem rep_fwd (h : Goes f g ok) (l : List α) (r : List Int) (b : Bool) (ho : ∀ x ∈ l, ok x) : ∀ n, n ≤ l.length → rRep f n ⟨l.flatMap g ++ r, b⟩ = (l.take n, ⟨(l.drop n).flatMap g ++ r, b⟩)
  | 0, _ => rfl
  | n + 1, hn => by
    have e := rep_fwd h l r b ho n (by omega)
    have hx : l.drop n = l[n] :: l.drop (n + 1) := List.drop_eq_getElem_cons (by omega)
    show ((rRep f n _).1 ++ [(f (rRep f n _).2).1], (f (rRep f n _).2).2) = _
    rw [e]
    have e5 := h.fwd l[n] ((l.drop (n + 1)).flatMap g ++ r) b (ho _ (List.getElem_mem _))
    rw [hx, List.flatMap_cons, List.append_assoc, e5, List.take_succ_eq_append_getElem (by omega)]
theorem all_goes (h : Goes f g ok) (pos : ∀ x, 1 ≤ (g x).length) : Goes (rAll f) (nAll g) (fun l => ∀ x ∈ l, ok x) where
  fwd l r b ho := by
    have hm : rMany ⟨nAll g l ++ r, b⟩ = ((l.length : Int), ⟨l.flatMap g ++ r, b⟩) := by
      unfold rMany
      have hl : l.length ≤ (l.flatMap g).length := by
        clear ho
        induction l with
        | nil => simp
        | cons x l ih =>
          have := pos x
          rw [List.flatMap_cons, List.length_append, List.length_cons]
          omega
      refine (up_goes _).fwd (l.length : Int) (l.flatMap g ++ r) b ⟨by omega, ?_⟩
      show (l.length : Int) ≤ (((l.length : Int) :: l.flatMap g ++ r).length : Int) - 1
      simp only [List.cons_append, List.length_cons, List.length_append]
      omega
    unfold rAll
    rw [hm]
    have := rep_fwd h l r b ho l.length (Nat.le_refl _)
    simpa using this
  mono s hb := (up_goes _).mono s (rep_mono h _ _ hb)
  inv s hb := by
    have h1 : (rMany s).2.bad = false := rep_mono h _ _ hb
    obtain ⟨e, h2, h3⟩ := up_of (s := s) h1
    have h4 : s.l = [(rMany s).1] ++ (rMany s).2.l := (up_goes _).inv s h1
    have h5 : (rMany s).2.l = (rAll f s).1.flatMap g ++ (rAll f s).2.l := rep_inv h _ _ hb
    have h6 : (rAll f s).1.length = (rMany s).1.toNat := rep_len _ _
    have h7 : (rMany s).1 = ((rAll f s).1.length : Int) := by
      have h8 : rMany s = rNum s := e
      rw [h6, h8]
      omega
    rw [h4, h5, h7]
    rfl
  ok s hb hi := rep_ok h _ _ hb ((up_goes _).next (rep_mono h _ _ hb) hi)
theorem Goes.imp {ok' : α → Prop} (h : Goes f g ok) (h1 : ∀ x, ok' x → ok x) (h2 : ∀ x, ok x → ok' x) : Goes f g ok' := ⟨fun x r b hx => h.fwd x r b (h1 x hx), h.mono, h.inv, fun s hb hi => h2 _ (h.ok s hb hi)⟩
end
section
variable {α β : Type} {f1 : St → α × St} {g1 : α → List Int} {ok1 : α → Prop} {f2 : St → β × St} {g2 : β → List Int} {ok2 : β → Prop}
def rPair (f1 : St → α × St) (f2 : St → β × St) (s : St) : (α × β) × St := (((f1 s).1, (f2 (f1 s).2).1), (f2 (f1 s).2).2)
theorem pair_goes (h1 : Goes f1 g1 ok1) (h2 : Goes f2 g2 ok2) : Goes (rPair f1 f2) (fun x => g1 x.1 ++ g2 x.2) (fun x => ok1 x.1 ∧ ok2 x.2) where
  fwd x r b h := by
    unfold rPair
    rw [List.append_assoc, h1.fwd _ _ _ h.1]
    show (_, _) = _
    rw [h2.fwd _ _ _ h.2]
  mono s hb := h1.mono s (h2.mono _ hb)
  inv s hb := by
    have e1 := h1.inv s (h2.mono _ hb)
    have e2 := h2.inv _ hb
    show s.l = (g1 (f1 s).1 ++ g2 (f2 (f1 s).2).1) ++ (f2 (f1 s).2).2.l
    rw [List.append_assoc, ← e2, ← e1]
  ok s hb hi := ⟨h1.ok s (h2.mono _ hb) hi, h2.ok _ hb (h1.next (h2.mono _ hb) hi)⟩
theorem map_goes (h : Goes f1 g1 ok1) (e : α → β) (d : β → α) (he : ∀ y, e (d y) = y) (hd : ∀ x, d (e x) = x) : Goes (fun s => (e (f1 s).1, (f1 s).2)) (fun y => g1 (d y)) (fun y => ok1 (d y)) where
  fwd y r b h2 := by
    show (e (f1 ⟨g1 (d y) ++ r, b⟩).1, (f1 ⟨g1 (d y) ++ r, b⟩).2) = _
    rw [h.fwd _ _ _ h2, he]
  mono s hb := h.mono s hb
  inv s hb := by
    show s.l = g1 (d (e (f1 s).1)) ++ (f1 s).2.l
    rw [hd]
    exact h.inv s hb
  ok s hb hi := by
    show ok1 (d (e (f1 s).1))
    rw [hd]
    exact h.ok s hb hi
end
theorem sm_goes : Goes rSm (fun n => [n]) (fun n => 0 ≤ n ∧ n ≤ 255) := up_goes 255
theorem col_goes : Goes rC nC Col.ok := map_goes (pair_goes sm_goes (pair_goes sm_goes (pair_goes sm_goes sm_goes))) (fun x => (⟨x.1, x.2.1, x.2.2.1, x.2.2.2⟩ : Col)) (fun c => (c.r, c.g, c.b, c.a)) (fun _ => rfl) (fun _ => rfl)
theorem vert_goes : Goes rV nV U.V.i64 :=
  (map_goes (pair_goes num_goes (pair_goes num_goes (pair_goes num_goes (pair_goes num_goes (pair_goes num_goes (pair_goes num_goes (pair_goes num_goes num_goes))))))) (fun x => (⟨x.1, x.2.1, x.2.2.1, x.2.2.2.1, x.2.2.2.2.1, x.2.2.2.2.2.1, x.2.2.2.2.2.2.1, x.2.2.2.2.2.2.2⟩ : U.V))
    (fun v => (v.x, v.y, v.z, v.w, v.a, v.b, v.c, v.d)) (fun _ => rfl) (fun _ => rfl)).imp (fun _ h => ⟨h.x, h.y, h.z, h.w, h.a, h.b, h.c, h.d⟩) (fun _ h => ⟨h.1, h.2.1, h.2.2.1, h.2.2.2.1, h.2.2.2.2.1, h.2.2.2.2.2.1, h.2.2.2.2.2.2.1, h.2.2.2.2.2.2.2⟩)
theorem ins_goes : Goes rI nI C.In.ok :=
  (map_goes (pair_goes sm_goes (pair_goes sm_goes (pair_goes sm_goes (pair_goes sm_goes num_goes)))) (fun x => (⟨x.1, x.2.1, x.2.2.1, x.2.2.2.1, x.2.2.2.2⟩ : C.In)) (fun x => (x.o, x.d, x.a, x.b, x.n)) (fun _ => rfl) (fun _ => rfl)).imp
    (fun _ h => ⟨h.o, h.d, h.a, h.b, h.n⟩) (fun _ h => ⟨h.1, h.2.1, h.2.2.1, h.2.2.2.1, h.2.2.2.2⟩)
theorem tri_goes : Goes rR nR Tr.ok :=
  (map_goes (pair_goes num_goes (pair_goes num_goes (pair_goes num_goes num_goes))) (fun x => (⟨x.1, x.2.1, x.2.2.1, x.2.2.2⟩ : Tr)) (fun t => (t.i, t.a, t.b, t.c)) (fun _ => rfl) (fun _ => rfl)).imp
    (fun _ h => ⟨h.i, h.a, h.b, h.c⟩) (fun _ h => ⟨h.1, h.2.1, h.2.2.1, h.2.2.2⟩)
theorem tex_goes : Goes rT nT (fun t => I64 t.w ∧ I64 t.h ∧ t.ok) :=
  map_goes (pair_goes num_goes (pair_goes num_goes (all_goes col_goes (fun _ => by simp [nC])))) (fun x => (⟨x.1, x.2.1, x.2.2⟩ : Tx)) (fun t => (t.w, t.h, t.px)) (fun _ => rfl) (fun _ => rfl)
theorem prog_goes : Goes rP nP (fun l => ∀ x ∈ l, x.ok) := all_goes ins_goes (fun _ => by simp [nI])
theorem draw_goes : Goes rD nD Dr.ok :=
  (map_goes (pair_goes num_goes (pair_goes num_goes (pair_goes num_goes (pair_goes sign_goes (all_goes tri_goes (fun _ => by simp [nR])))))) (fun x => (⟨x.1, x.2.1, x.2.2.1, x.2.2.2.1, x.2.2.2.2⟩ : Dr)) (fun d => (d.id, d.prog, d.tex, d.op, d.tris)) (fun _ => rfl) (fun _ => rfl)).imp
    (fun _ h => ⟨h.id, h.prog, h.tex, trivial, h.tris⟩) (fun _ h => ⟨h.1, h.2.1, h.2.2.1, h.2.2.2.2⟩)
theorem scene_goes : Goes rS nS PS.ok :=
  (map_goes (pair_goes num_goes (pair_goes num_goes (pair_goes col_goes (pair_goes (all_goes vert_goes (fun _ => by simp [nV])) (pair_goes (all_goes tex_goes (fun _ => by simp [nT])) (pair_goes (all_goes prog_goes (fun _ => by simp [nP, nAll])) (all_goes draw_goes (fun _ => by simp [nD]))))))))
    (fun x => (⟨x.1, x.2.1, x.2.2.1, x.2.2.2.1, x.2.2.2.2.1, x.2.2.2.2.2.1, x.2.2.2.2.2.2⟩ : PS)) (fun p => (p.w, p.h, p.k, p.vs, p.ts, p.ps, p.ds)) (fun _ => rfl) (fun _ => rfl)).imp
    (fun _ h => ⟨h.w, h.h, h.k, h.vs, h.ts, h.ps, h.ds⟩) (fun _ h => ⟨h.1, h.2.1, h.2.2.1, h.2.2.2.1, h.2.2.2.2.1, h.2.2.2.2.2.1, h.2.2.2.2.2.2⟩)

/-- What numbers say that are all told. -/
def scanP (l : List Int) : Option PS := if (rS ⟨l, false⟩).2.bad = false ∧ (rS ⟨l, false⟩).2.l = [] then some (rS ⟨l, false⟩).1 else none
theorem scan_nS {p : PS} (h : p.ok) : scanP (nS p) = some p := by
  have e := scene_goes.fwd p [] false h
  rw [List.append_nil] at e
  unfold scanP
  rw [e]
  rfl
theorem scan_inv {l : List Int} {p : PS} (hi : P.Ins l) (h : scanP l = some p) : p.ok ∧ nS p = l := by
  unfold scanP at h
  split at h
  · rename_i hc
    obtain rfl : (rS ⟨l, false⟩).1 = p := by simpa using h
    have e := scene_goes.inv ⟨l, false⟩ hc.1
    rw [hc.2, List.append_nil] at e
    exact ⟨scene_goes.ok ⟨l, false⟩ hc.1 hi, e.symm⟩
  · cases h
/-- Numbers with more behind them, or fewer, are none. -/
theorem scan_cut {p q : PS} {l r : List Int} (hp : p.ok) (hi : P.Ins l) (he : nS p = l ++ r) (h : scanP l = some q) : r = [] := by
  obtain ⟨hq, e⟩ := scan_inv hi h
  have e1 := scene_goes.fwd q r false hq
  have e2 := scene_goes.fwd p [] false hp
  rw [List.append_nil, he, ← e, e1] at e2
  simpa using congrArg (fun x => x.2.l) e2
theorem scan_more {p q : PS} {r : List Int} (hp : p.ok) (hi : P.Ins (nS p ++ r)) (h : scanP (nS p ++ r) = some q) : r = [] := by
  obtain ⟨hq, e⟩ := scan_inv hi h
  have e1 := scene_goes.fwd p r false hp
  have e2 := scene_goes.fwd q [] false hq
  rw [List.append_nil, e, e1] at e2
  simpa using congrArg (fun x => x.2.l) e2
theorem goes_ins {α : Type} {g : α → List Int} {l : List α} (h : ∀ x ∈ l, P.Ins (g x)) (hl : l.length ≤ 100000) : P.Ins (nAll g l) := fun n hn => by
  rcases List.mem_cons.1 hn with rfl | hn
  · unfold P.In64; omega
  · obtain ⟨x, hx, hn⟩ := List.mem_flatMap.1 hn
    exact h x hx n hn
theorem ins_cons {n : Int} {l : List Int} (h : I64 n) (k : P.Ins l) : P.Ins (n :: l) := fun x hx => by
  rcases List.mem_cons.1 hx with rfl | hx
  · exact h
  · exact k x hx
theorem ins_nil : P.Ins [] := fun x hx => by cases hx
theorem ins_nC {c : Col} (h : c.ok) : P.Ins (nC c) := by
  obtain ⟨a, b, c, d⟩ := h
  exact ins_cons (by unfold I64; omega) (ins_cons (by unfold I64; omega) (ins_cons (by unfold I64; omega) (ins_cons (by unfold I64; omega) ins_nil)))
theorem ins_nV {v : U.V} (h : v.i64) : P.Ins (nV v) := ins_cons h.x (ins_cons h.y (ins_cons h.z (ins_cons h.w (ins_cons h.a (ins_cons h.b (ins_cons h.c (ins_cons h.d ins_nil)))))))
theorem ins_nI {x : C.In} (h : x.ok) : P.Ins (nI x) := by
  obtain ⟨a, b, c, d, e⟩ := h
  exact ins_cons (by unfold I64; omega) (ins_cons (by unfold I64; omega) (ins_cons (by unfold I64; omega) (ins_cons (by unfold I64; omega) (ins_cons e ins_nil))))
theorem ins_nR {t : Tr} (h : t.ok) : P.Ins (nR t) := ins_cons h.i (ins_cons h.a (ins_cons h.b (ins_cons h.c ins_nil)))
theorem ins_nT {t : Tx} (h : I64 t.w ∧ I64 t.h ∧ t.ok) (hl : t.px.length ≤ 100000) : P.Ins (nT t) := ins_cons h.1 (ins_cons h.2.1 (goes_ins (fun c hc => ins_nC (h.2.2 c hc)) hl))
theorem ins_nP {l : List C.In} (h : ∀ x ∈ l, x.ok) (hl : l.length ≤ 100000) : P.Ins (nP l) := goes_ins (fun x hx => ins_nI (h x hx)) hl
theorem ins_nD {d : Dr} (h : d.ok) (hl : d.tris.length ≤ 100000) : P.Ins (nD d) :=
  ins_cons h.id (ins_cons h.prog (ins_cons h.tex (ins_cons (by unfold nB I64; split <;> omega) (goes_ins (fun t ht => ins_nR (h.tris t ht)) hl))))
theorem ins_nS {p : PS} (h : p.ok) (f : p.few) : P.Ins (nS p) :=
  ins_cons h.w (ins_cons h.h ((ins_nC h.k).app ((goes_ins (fun v hv => ins_nV (h.vs v hv)) f.vs).app ((goes_ins (fun t ht => ins_nT (h.ts t ht) (f.tx t ht)) f.ts).app
    ((goes_ins (fun l hl => ins_nP (h.ps l hl) (f.px l hl)) f.ps).app (goes_ins (fun d hd => ins_nD (h.ds d hd) (f.dx d hd)) f.ds))))))

theorem few_p {s : Sc} (h : s.few) : s.p.few := by
  refine ⟨h.vs, ?_, fun t ht => ?_, ?_, fun l hl => ?_, ?_, fun d hd => ?_⟩
  · show (s.ts.map Lo.x).length ≤ _
    rw [List.length_map]
    exact h.ts
  · obtain ⟨l, hl, rfl⟩ := List.mem_map.1 (show t ∈ s.ts.map Lo.x from ht)
    exact h.tx l hl
  · show (s.ps.map Lo.x).length ≤ _
    rw [List.length_map]
    exact h.ps
  · obtain ⟨x, hx, rfl⟩ := List.mem_map.1 (show l ∈ s.ps.map Lo.x from hl)
    exact h.px x hx
  · show (s.ds.map Lo.x).length ≤ _
    rw [List.length_map]
    exact h.ds
  · obtain ⟨x, hx, rfl⟩ := List.mem_map.1 (show d ∈ s.ds.map Lo.x from hd)
    exact h.dx x hx
/-- What bytes say that are all told. -/
def readP (b : List Int) : Option PS := if P.flag (P.seq b) = true then none else scanP (P.nums (P.seq b))
theorem flag_put : ∀ (k : Nat) {b : List Int}, b.length ≤ k → P.Byt b → P.flag (P.seq b) = false → b = P.put (P.nums (P.seq b))
  | k, b, hk, hb, hf => by
    by_cases hne : b = []
    · subst hne
      rw [P.seq_nil]
      rfl
    obtain ⟨n, s, he⟩ : ∃ n s, P.first b = (n, s) := ⟨_, _, rfl⟩
    by_cases hs : s = 0
    · subst hs
      rw [P.seq_bad hne he] at hf
      cases hf
    · obtain ⟨-, e1, e2, e3, e4, -⟩ := P.first_inv hb he hs
      rw [P.seq_good hb he hs] at hf ⊢
      have hl := List.length_pos_iff.2 hne
      cases k with
      | zero => omega
      | succ k =>
        have ih := flag_put k (b := b.drop s) (by rw [List.length_drop]; omega) (hb.drop s) (by simpa [P.flag] using hf)
        show b = P.put (n :: P.nums (P.seq (b.drop s)))
        rw [P.put_cons, ← ih]
        exact e2
theorem read_some {b : List Int} {p : PS} (hb : P.Byt b) (h : readP b = some p) : p.ok ∧ P.put (nS p) = b ∧ P.nums (P.seq b) = nS p := by
  unfold readP at h
  split at h
  · cases h
  · rename_i hf
    obtain ⟨h1, h2⟩ := scan_inv (P.seq_len _ b (Nat.le_refl _) hb).2.1 h
    have h3 := flag_put _ (Nat.le_refl _) hb (by simpa using hf)
    exact ⟨h1, by rw [h2, ← h3], h2.symm⟩
theorem read_put {p : PS} (h : p.ok) (hf : p.few) : readP (P.put (nS p)) = some p := by
  unfold readP
  rw [P.seq_all (ins_nS h hf), P.flag_trues, P.nums_trues]
  exact scan_nS h
end Go.Proofs.YtfmmfaeognoleaaGreat
/-
  The contracts of the small functions of package wire, at this seat's translation.
-/
namespace Go.Proofs.YtfmmfaeognoleaaGreat.P
open Go.RowKit

theorem ret_int {k : IntKind} {a b : Int} (h : a = b) : Ending.returned (.int k a) = .returned (.int k b) := by rw [h]

theorem folded_any (n : Int) (w : World) (h0 : -9223372036854775808 ≤ n) (h1 : n ≤ 9223372036854775807) :
    Calls Tryz.prog 108 #[.int .i64 n] w fun e w' => e = .returned (.int .u64 (fold n : Nat)) ∧ w = w' := by
  by_cases h : n < 0
  · go_enter Tryz.func108, Tryz.ntmps108
    go_wp2
    go_ret
    exact ⟨ret_int (by unfold fold; rw [if_pos h]; omega), rfl⟩
  · go_enter Tryz.func108, Tryz.ntmps108
    go_wp2
    go_ret
    exact ⟨ret_int (by unfold fold; rw [if_neg (by omega)]; omega), rfl⟩

theorem unfolded_any (u : Nat) (w : World) (h : u < 18446744073709551616) :
    Calls Tryz.prog 136 #[.int .u64 (u : Int)] w fun e w' => e = .returned (.int .i64 (unf u)) ∧ w = w' := by
  by_cases hu : u % 2 = 1
  · go_enter Tryz.func136, Tryz.ntmps136
    go_wp2
    go_ret
    exact ⟨ret_int (by unfold unf; rw [if_pos hu]; omega), rfl⟩
  · go_enter Tryz.func136, Tryz.ntmps136
    go_wp2
    go_ret
    exact ⟨ret_int (by unfold unf; rw [if_neg hu]; omega), rfl⟩

def Sl (k : IntKind) (w : World) (B : Nat) (A : Option Addr) (xs : List Int) : Prop :=
  xs ≠ [] → ∃ b off, A = some ⟨b, off, none⟩ ∧ b < B ∧ ∀ j, j < xs.length → w.cell? ⟨b, off + j, none⟩ = some (.int k (xs.getD j 0))

theorem Sl.at {k : IntKind} {w : World} {B : Nat} {A : Option Addr} {xs : List Int} (h : Sl k w B A xs) {j : Nat} (hj : j < xs.length) :
    ∃ b off, A = some ⟨b, off, none⟩ ∧ b < B ∧ w.cell? ⟨b, off + j, none⟩ = some (.int k (xs.getD j 0)) := by
  obtain ⟨b, off, e, hb, hc⟩ := h (by rintro rfl; simp at hj)
  exact ⟨b, off, e, hb, hc j hj⟩

theorem pow_128 (k : Nat) : 2 ^ (7 * k) = 128 ^ k := by rw [Nat.pow_mul]

theorem or_parts (v q k : Nat) (hv : v < 18446744073709551616) :
    ∃ z : Nat, bits BinOp.or .u64 (v : Int) (IntKind.u64.wrap ((q : Int) * 2 ^ (7 * k))) = (z : Int) ∧ z < 18446744073709551616 ∧ (v < 128 ^ k → q * 128 ^ k < 18446744073709551616 → z = v + q * 128 ^ k) := by
  have e : IntKind.u64.wrap ((q : Int) * 2 ^ (7 * k)) = ((q * 128 ^ k % 18446744073709551616 : Nat) : Int) := by
    rw [IntKind.wrap_u64, ← pow_128, Int.natCast_emod, Int.natCast_mul, Int.natCast_pow]
    rfl
  rw [e]
  have hlt : q * 128 ^ k % 18446744073709551616 < 18446744073709551616 := Nat.mod_lt _ (by decide)
  refine ⟨v ||| (q * 128 ^ k % 18446744073709551616), bits_or_u64_nat _ _ hv hlt, Nat.or_lt_two_pow (n := 64) hv hlt, fun h1 h2 => ?_⟩
  rw [Nat.mod_eq_of_lt h2, ← pow_128, Nat.or_comm, Nat.mul_comm q, ← Nat.two_pow_add_eq_or_of_lt (by rw [pow_128]; exact h1)]
  omega

theorem drop_at {xs : List Int} {k : Nat} {p : Int} (hk : k < xs.length) (hp : xs.getD k 0 = p) : xs.drop k = p :: xs.drop (k + 1) := by
  rw [List.drop_eq_getElem_cons hk, ← hp, List.getD_eq_getElem?_getD, List.getElem?_eq_getElem hk]; rfl

theorem ret_pair {q : Int × Nat} {a b : Int} {s : Nat} (h : q = (a, s)) (hb : b = (s : Int)) : Ending.returned (.tuple #[.int .i64 a, .int .i64 b]) = .returned (.tuple #[.int .i64 q.1, .int .i64 (q.2 : Nat)]) := by rw [h, hb]

theorem small_part {p : Int} {k : Nat} (h0 : 0 ≤ p) (h1 : p < 128) (hk : k < 10) (hl : k = 9 → p ≤ 1) : p.toNat * 128 ^ k < 18446744073709551616 := by
  rcases ten_cases hk with rfl | rfl | rfl | rfl | rfl | rfl | rfl | rfl | rfl | rfl <;> simp only [Nat.reducePow] <;> omega
theorem small_sum {v q k : Nat} (hv : v < 128 ^ k) (hq : q < 128) : v + q * 128 ^ k < 128 ^ (k + 1) := by
  rw [pow_parts, Nat.mul_comm (128 ^ k) 128]
  have := Nat.mul_le_mul_right (128 ^ k) (show q + 1 ≤ 128 by omega)
  rw [Nat.add_mul] at this; omega
theorem small_more {q k : Nat} (hq : q < 128) (hk : k < 9) : q * 128 ^ k < 18446744073709551616 := by
  rcases ten_cases (k := k) (by omega) with rfl | rfl | rfl | rfl | rfl | rfl | rfl | rfl | rfl | rfl <;> simp only [Nat.reducePow] <;> omega

/-- What the loop of first knows at its k-th part. -/
def At (xs : List Int) (k v : Nat) : Prop := (k ≤ 9 → v < 128 ^ k) ∧ first xs = scan k v (xs.drop k)
theorem At.start (xs : List Int) : At xs 0 0 := ⟨fun _ => by decide, rfl⟩
theorem At.more {xs : List Int} {k v z : Nat} {p : Int} (h : At xs k v) (hk : k < 10) (hl : k < xs.length) (hp : xs.getD k 0 = p) (h1 : p ≤ 255) (h2 : 128 ≤ p)
    (hz : v < 128 ^ k → (p % 128).toNat * 128 ^ k < 18446744073709551616 → z = v + (p % 128).toNat * 128 ^ k) : At xs (k + 1) z := by
  obtain ⟨ha, hb⟩ := h
  have hpp : (p % 128).toNat = p.toNat % 128 := by omega
  rw [hpp] at hz
  rw [drop_at hl hp, scan_more hk h2] at hb
  by_cases h9 : k = 9
  · subst h9
    exact ⟨fun h => by omega, by rw [hb, scan_ten _ _ (by omega), scan_ten _ _ (by omega)]⟩
  · have e := hz (ha (by omega)) (small_more (by omega) (by omega))
    refine ⟨fun _ => ?_, by rw [hb, e]⟩
    rw [e]; exact small_sum (ha (by omega)) (by omega)
theorem At.bad {xs : List Int} {k v : Nat} {p : Int} (h : At xs k v) (hk : k < 10) (hl : k < xs.length) (hp : xs.getD k 0 = p) (h1 : p < 128) (h2 : (0 < k ∧ p = 0) ∨ (k = 9 ∧ 1 < p)) : first xs = (0, 0) := by
  rw [h.2, drop_at hl hp, scan_bad hk h1 h2]
theorem At.good {xs : List Int} {k v z : Nat} {p : Int} (h : At xs k v) (hk : k < 10) (hl : k < xs.length) (hp : xs.getD k 0 = p) (h0 : 0 ≤ p) (h1 : p < 128) (h2 : ¬ ((0 < k ∧ p = 0) ∨ (k = 9 ∧ 1 < p)))
    (hz : v < 128 ^ k → (p % 128).toNat * 128 ^ k < 18446744073709551616 → z = v + (p % 128).toNat * 128 ^ k) : first xs = (unf z, k + 1) := by
  have hpp : (p % 128).toNat = p.toNat := by omega
  rw [hpp] at hz
  rw [h.2, drop_at hl hp, scan_good hk h1 h2, hz (h.1 (by omega)) (small_part h0 h1 hk (by omega))]
theorem At.ends {xs : List Int} {k v : Nat} (h : At xs k v) (hk : 10 ≤ k ∨ xs.length ≤ k) : first xs = (0, 0) := by
  rw [h.2]
  rcases hk with hk | hk
  · exact scan_ten _ _ hk _
  · rw [List.drop_eq_nil_of_le hk]; rfl

set_option maxHeartbeats 1000000 in
theorem first_any (A : Option Addr) (c : Nat) (xs : List Int) (B : Nat) (w : World) (hs : Sl .u8 w B A xs) (hb : Byt xs) (hc : xs.length ≤ c) (hm : xs.length ≤ 9223372036854775807) :
    Calls Tryz.prog 122 #[.slice A xs.length c] w fun e w' => e = .returned (.tuple #[.int .i64 (first xs).1, .int .i64 ((first xs).2 : Nat)]) ∧ w = w' := by
  have HS := Lib.hid hs
  have HB := Lib.hid hb
  clear hs hb
  rcases Nat.lt_or_ge 10 xs.length with hbig | hsmall
  all_goals
    go_enter Tryz.func122, Tryz.ntmps122
    go_wp2
    go_loop [4, 13] (fun u i => ∃ k v : Nat, k ≤ 10 ∧ k ≤ xs.length ∧ v < 18446744073709551616 ∧ i = .int .i64 k ∧ u = .int .u64 v ∧ At xs k v) (fun _ i => 10 - (intOf i).toNat)
    case atStart => exact ⟨0, 0, by omega, by omega, by decide, rfl, rfl, At.start xs⟩
    case round =>
      obtain ⟨k, v, hk, hkl, hv, rfl, rfl, hAt⟩ := hrel
      have HA := Lib.hid hAt
      clear hAt
      by_cases hlt : k < 10 ∧ k < xs.length
      · obtain ⟨hlt, hlx⟩ := hlt
        obtain ⟨b, off, rfl, _, hcell⟩ := HS.out.at (j := k) (by omega)
        have hpb := HB.out.get k
        generalize hp : xs.getD k 0 = p at hcell hpb
        obtain ⟨hp0, hp1⟩ := hpb
        have HP := Lib.hid hp
        clear hp
        obtain ⟨z, hor, hz, hzz⟩ := or_parts v (p % 128).toNat k hv
        rw [show (((p % 128).toNat : Nat) : Int) = p % 128 by omega] at hor
        have HZ := Lib.hid hzz
        clear hzz
        go_wp2_with (go_at_call 136; refine (unfolded_any _ _ (by omega)).mono ?_; rintro e w' ⟨rfl, rfl⟩)
        all_goals first
          | (go_round
             case rel => exact ⟨k + 1, z, by omega, by omega, hz, by go_num, rfl, HA.out.more hlt hlx HP.out hp1 (by omega) HZ.out⟩
             case measure => simp [intOf]; omega)
          | (go_ret2; exact ⟨ret_pair (HA.out.bad hlt hlx HP.out (by omega) (by omega)) (by simp), rfl⟩)
          | (go_ret2; exact ⟨ret_pair (HA.out.good hlt hlx HP.out hp0 (by omega) (by omega) HZ.out) (by omega), rfl⟩)
          | (have hd : p = 0 ∨ 1 < p := by simpa using ‹(p == 0) = true ∨ 1 < p›
             go_ret2; exact ⟨ret_pair (HA.out.bad hlt hlx HP.out (by omega) (by omega)) (by simp), rfl⟩)
      · go_wp2
        go_ret2
        exact ⟨ret_pair (HA.out.ends (by omega)) (by simp), rfl⟩
end Go.Proofs.YtfmmfaeognoleaaGreat.P
/-
  wire.putOne and wire.Put, at this seat's translation.
-/
namespace Go.Proofs.YtfmmfaeognoleaaGreat.P
open Go.RowKit

theorem Tryz.info5 : (Tryz.prog.info? 5).map (fun i => (i.zero, i.size, i.bytes)) = some (some (.int .u8 0), 1, 1) := by kernel_rfl
theorem Tryz.info3 : (Tryz.prog.info? 3).map (fun i => (i.zero, i.size, i.bytes)) = some (some (.int .i64 0), 1, 8) := by kernel_rfl

def OwnS (t : TypeId) (k : IntKind) (w : World) (base : Nat) (v : Value) (xs : List Int) : Prop := w.ownsRow base t 1 v xs.length (xs.map (Value.int k))

theorem OwnS.row {t : TypeId} {k : IntKind} {w : World} {base : Nat} {v : Value} {xs : List Int} (h : OwnS t k w base v xs) : w.ownsRow base t 1 v xs.length (xs.map (Value.int k)) := h

theorem OwnS.sl {t : TypeId} {k : IntKind} {w : World} {base : Nat} {v : Value} {xs : List Int} (h : OwnS t k w base v xs) :
    ∃ A c, v = .slice A xs.length c ∧ xs.length ≤ c ∧ c ≤ 9223372036854775807 ∧ Sl k w w.heap.size A xs := by
  obtain ⟨hl, ⟨rfl, h0⟩ | ⟨g, cap, cur, rfl, _, hh, hc, hm, _, ht⟩⟩ := h
  · have : xs = [] := List.eq_nil_of_length_eq_zero h0
    subst this
    exact ⟨none, 0, rfl, Nat.le_refl _, by decide, fun h => absurd rfl h⟩
  · refine ⟨some ⟨g, 0, none⟩, cap, rfl, hc, by unfold maxLen at hm; exact hm, fun _ => ⟨g, 0, rfl, (Array.getElem?_eq_some_iff.1 hh).1, fun j hj => ?_⟩⟩
    rw [cell_of_row w g (0 + j) cur t (0, 0) hh, Nat.zero_add]
    have e : (cur.toList.take (xs.length * 1))[j]? = (xs.map (Value.int k))[j]? := by rw [ht]
    rw [List.getElem?_take_of_lt (by omega), Array.getElem?_toList] at e
    rw [e, List.getElem?_map, List.getElem?_eq_getElem hj, List.getD_eq_getElem?_getD, List.getElem?_eq_getElem hj]
    rfl

theorem OwnS.nil (t : TypeId) (k : IntKind) (w : World) (base : Nat) : OwnS t k w base (.slice none 0 0) [] := World.ownsRow_nil _ _ _ _

theorem own_ge {w : World} {base size : Nat} {t : TypeId} {v : Value} {n : Nat} {xs : List Value} (h : w.ownsRow base t size v n xs) : ∀ j, v.ownBlock = some j → base ≤ j := by
  intro j ej
  rcases h.2 with ⟨rfl, _⟩ | ⟨g, cap, cur, rfl, hb, _, _⟩
  · simp [Value.ownBlock] at ej
  · obtain rfl : g = j := by simpa [Value.ownBlock] using ej
    exact hb

theorem OwnS.keep {t : TypeId} {k : IntKind} {w w' : World} {base : Nat} {v : Value} {xs : List Int} (h : OwnS t k w base v xs) (hb : Below w.heap.size w w') : OwnS t k w' base v xs := by
  obtain ⟨hl, h2⟩ := h
  refine ⟨hl, ?_⟩
  rcases h2 with h2 | ⟨g, cap, cur, rfl, hg, hh, hr⟩
  · exact .inl h2
  · exact .inr ⟨g, cap, cur, rfl, hg, (hb.block g (Array.getElem?_eq_some_iff.1 hh).1).trans hh, hr⟩
theorem OwnS.less {t : TypeId} {k : IntKind} {w : World} {base base' : Nat} {v : Value} {xs : List Int} (h : OwnS t k w base v xs) (hb : base' ≤ base) : OwnS t k w base' v xs := by
  obtain ⟨hl, h2⟩ := h
  refine ⟨hl, ?_⟩
  rcases h2 with h2 | ⟨g, cap, cur, rfl, hg, hr⟩
  · exact .inl h2
  · exact .inr ⟨g, cap, cur, rfl, by omega, hr⟩

/-- A call answers a new row of numbers, and what lay lies as it lay. -/
def Made (t : TypeId) (k : IntKind) (base : Nat) (w : World) (xs : List Int) (e : Ending) (w' : World) : Prop :=
  ∃ v, e = .returned v ∧ OwnS t k w' base v xs ∧ Below base w w'

def PutAt (base : Nat) (w : World) (bs : List Int) (n : Int) (b u : Value) (wr : World) : Prop :=
  ∃ (k : Nat) (cs : List Int), u = .int .u64 k ∧ k < 18446744073709551616 ∧ OwnS 5 .u8 wr base b cs ∧ cs ++ enc k = bs ++ enc (fold n) ∧ Below base w wr

theorem append_of {w w1 : World} {base : Nat} {t : TypeId} {k : IntKind} {v v' : Value} {cs : List Int} {x : Int} (ho : OwnS t k w base v cs) (hbase : base ≤ w.heap.size) {T : Obj}
    (hown : w1.ownsRow base t 1 v' (cs.length + 1) (cs.map (Value.int k) ++ [Value.int k x])) (hg : (w.alloc T).grownBy w1 v.ownBlock) : OwnS t k w1 base v' (cs ++ [x]) ∧ Below base w w1 := by
  refine ⟨by unfold OwnS; simpa using hown, ((Below.refl base w).alloc hbase T).grown hg (by simp; omega) fun j ej => own_ge ho j ej⟩

set_option maxRecDepth 100000 in
set_option maxHeartbeats 1000000 in
theorem putOne_any (v : Value) (n : Int) (bs : List Int) (base : Nat) (w : World) (hown : OwnS 5 .u8 w base v bs) (hbase : base ≤ w.heap.size) (hl : bs.length ≤ 10000000000) (h0 : -9223372036854775808 ≤ n) (h1 : n ≤ 9223372036854775807) :
    Calls Tryz.prog 71 #[v, .int .i64 n] w (Made 5 .u8 base w (bs ++ enc (fold n))) := by
  obtain ⟨i0, hi, hz0, hz1, hz2⟩ := info_parts Tryz.info5
  have HI := Lib.hid hi
  have HZ := Lib.hid (And.intro hz0 (And.intro hz1 hz2))
  clear hi hz0 hz1 hz2
  have hf := fold_lt ⟨h0, h1⟩
  have hel := enc_len10 hf
  have HO := Lib.hid hown
  clear hown
  go_enter Tryz.func71, Tryz.ntmps71
  go_wp2_with (go_at_call 108; refine (folded_any _ _ h0 h1).mono ?_; rintro e w' ⟨rfl, rfl⟩)
  go_loopw [0, 5] (fun b u wr => PutAt base w bs n b u wr) (fun _ u _ => (intOf u).toNat)
  case atStart => exact ⟨fold n, bs, rfl, hf, HO.out, rfl, Below.refl _ _⟩
  case round =>
    obtain ⟨k, cs, rfl, hk, ho, hcs, hb⟩ := hrel
    have hlen : cs.length + (enc k).length = bs.length + (enc (fold n)).length := by simpa using congrArg List.length hcs
    have hsz := hb.size
    have HB := Lib.hid hb
    have HW := Lib.hid ho
    have HC := Lib.hid hcs
    clear hb ho hcs
    have hep := enc_pos k
    have hcl : cs.length ≤ 10000000010 := by omega
    have HL := Lib.hid hlen
    clear hlen hel hep
    by_cases hge : 128 ≤ k
    · go_wp2_with (at_builtin; refine wpList_append_own _ rfl _ _ 30 rfl base 5 i0 (.int .u8 0) 1 1 Tryz.underlying30 HI.out HZ.out.1 HZ.out.2.1 HZ.out.2.2 rfl (by decide) _ _ _ rfl (HW.out.row.alloc _) _ 1 1 [_] rfl rfl (cell_one_new _ _ _) (by simp [Value.oneCell']) (by unfold maxLen; omega) (by omega) (by simp; omega) ?_; intro v' w1 hown' hgrow _)
      obtain ⟨ho', hb'⟩ := append_of HW.out (by omega) hown' hgrow
      refine ⟨⟨k / 128, cs ++ [((k % 128 + 128 : Nat) : Int)], by simp, by omega, by simpa using ho', ?_, HB.out.trans hb'⟩, by simp [intOf]; omega⟩
      rw [← HC.out, enc_ge (u := k) (by omega)]; simp
    · go_wp2_with (at_builtin; refine wpList_append_own _ rfl _ _ 30 rfl base 5 i0 (.int .u8 0) 1 1 Tryz.underlying30 HI.out HZ.out.1 HZ.out.2.1 HZ.out.2.2 rfl (by decide) _ _ _ rfl (HW.out.row.alloc _) _ 1 1 [_] rfl rfl (cell_one_new _ _ _) (by simp [Value.oneCell']) (by unfold maxLen; omega) (by omega) (by simp; omega) ?_; intro v' w1 hown' hgrow _)
      go_ret
      obtain ⟨ho', hb'⟩ := append_of HW.out (by omega) hown' hgrow
      refine ⟨v', rfl, ?_, HB.out.trans hb'⟩
      rw [← HC.out, enc_lt (u := k) (by omega)]; exact ho'

def AllAt (base : Nat) (w : World) (l : List Int) (b i : Value) (wr : World) : Prop :=
  ∃ k : Nat, k ≤ l.length ∧ i = .int .i64 k ∧ OwnS 5 .u8 wr base b (put (l.take k)) ∧ Below base w wr

theorem take_at {xs : List Int} {k : Nat} {p : Int} (hk : k < xs.length) (hp : xs.getD k 0 = p) : xs.take (k + 1) = xs.take k ++ [p] := by
  rw [List.take_succ_eq_append_getElem hk, ← hp, List.getD_eq_getElem?_getD, List.getElem?_eq_getElem hk]; rfl

set_option maxRecDepth 100000 in
set_option maxHeartbeats 1000000 in
theorem put_any (A : Option Addr) (c : Nat) (l : List Int) (B : Nat) (w : World) (hs : Sl .i64 w B A l) (hB : B ≤ w.heap.size) (hi : Ins l) (hl : l.length ≤ 100000000) :
    Calls Tryz.prog 26 #[.slice A l.length c] w (Made 5 .u8 w.heap.size w (put l)) := by
  have HS := Lib.hid hs
  have HI := Lib.hid hi
  clear hs hi
  go_enter Tryz.func26, Tryz.ntmps26
  go_wp2
  go_loopw [3, 8] (fun b i wr => AllAt w.heap.size w l b i wr) (fun _ i _ => l.length - (intOf i).toNat)
  case atStart => exact ⟨0, by omega, rfl, by simpa [put] using OwnS.nil 5 .u8 w w.heap.size, Below.refl _ _⟩
  case round =>
    obtain ⟨k, hk, rfl, ho, hb⟩ := hrel
    have hpl := put_len (HI.out.take k)
    have hlt' : (l.take k).length ≤ 100000000 := by simp; omega
    have hpl2 : (put (l.take k)).length ≤ 1000000000 := by omega
    have hsz := hb.size
    have HO := Lib.hid ho
    have HB := Lib.hid hb
    clear ho hb hpl hlt'
    by_cases hlt : k < l.length
    · obtain ⟨b, off, rfl, hbB, hcell⟩ := HS.out.at hlt
      have hn := HI.out.get k
      generalize hp : l.getD k 0 = n at hcell hn
      obtain ⟨hn0, hn1⟩ := hn
      have HP := Lib.hid hp
      clear hp
      have hcell' : wr.cell? ⟨b, off + k, none⟩ = some (.int .i64 n) := (HB.out.cell (p := ⟨b, off + k, none⟩) (by show b < _; omega)).trans hcell
      clear hcell
      go_wp2_with (go_at_call 71; refine (putOne_any _ n _ w.heap.size _ HO.out hsz (by omega) hn0 hn1).mono ?_; rintro e w' ⟨v', rfl, ho', hb'⟩)
      go_roundw
      case rel => exact ⟨k + 1, by omega, by go_num, by rw [take_at hlt HP.out, put_snoc]; exact ho', HB.out.trans hb'⟩
      case measure => simp [intOf]; omega
    · go_wp2
      go_ret
      have e : l.take k = l := List.take_of_length_le (by omega)
      exact ⟨_, rfl, by have := HO.out; rwa [e] at this, HB.out⟩
end Go.Proofs.YtfmmfaeognoleaaGreat.P
