/-
  What an argument that is an array of two numbers, of two colours or of four is opened to.
-/
import Derived.Test.YtpnjhmmodkhmfaaOpen
namespace Go.Proofs.Ytpnjhmmodkhmfaa
open Go.ChangeShapes Go.WideShapes Go.ChangeAt Go.RowKit Go.Joins

theorem okWide_array {w : World} {r : Reach} {b0 n : Nat} {t e : TypeId} {v : Value} (ht : Try.prog.underlying t = some (.array n e)) (h : Value.okWide Try.prog w r b0 t v) : ∃ cs, v = .agg cs := by
  simp only [Value.okWide, ht] at h
  obtain ⟨cs, h1, _⟩ := h
  exact ⟨cs, h1⟩
theorem cells38 : Try.prog.cellsOf 38 = 1 := by kernel_rfl
theorem cells39 : Try.prog.cellsOf 39 = 2 := by kernel_rfl
theorem cells24 : Try.prog.cellsOf 24 = 8 := by kernel_rfl
theorem cells28 : Try.prog.cellsOf 28 = 16 := by kernel_rfl

theorem open_pair {H : Type} {enc : TypeId × Value → H} {w : World} {base b0 : Nat} {spare : Nat → Bool} {held : Bool} {r : Reach} {v : Value} {d : DataW H} {p : List MemPlace}
    (hv : Value.okWide Try.prog w r b0 39 v) (h : DataW.Trod enc Try.prog w base spare held 39 v d p) :
    ∃ x y : Int, v = .agg #[.int .u16 x, .int .u16 y] ∧ (0 ≤ x ∧ x ≤ 65535) ∧ (0 ≤ y ∧ y ≤ 65535) := by
  obtain ⟨cs, rfl⟩ := okWide_array Try.underlying39 hv
  obtain ⟨m, hm⟩ := h
  obtain ⟨xs, n, _, _, hlen, hxl, hf⟩ := DataW.trod_array Try.underlying39 hm
  obtain ⟨l⟩ := cs
  simp only [Value.cells] at hlen hf
  obtain ⟨c0, c1, rfl⟩ : ∃ c0 c1, l = [c0, c1] := by
    match l, hlen.trans cells39 with
    | [c0, c1], _ => exact ⟨_, _, rfl⟩
  obtain ⟨y0, y1, rfl⟩ : ∃ y0 y1, xs = [y0, y1] := by
    match xs, hxl with
    | [y0, y1], _ => exact ⟨_, _, rfl⟩
  have h0 := hf 0 (by decide)
  have h1 := hf 1 (by decide)
  simp [cells38] at h0 h1
  obtain ⟨a0, e0, _, w0⟩ := DataW.trod_int Try.underlying38 h0
  obtain ⟨a1, e1, _, w1⟩ := DataW.trod_int Try.underlying38 h1
  simp at e0 e1
  subst e0 e1
  exact ⟨a0, a1, rfl, bounds_u16 w0, bounds_u16 w1⟩

theorem open_two {H : Type} {enc : TypeId × Value → H} {w : World} {base b0 : Nat} {spare : Nat → Bool} {held : Bool} {r : Reach} {v : Value} {d : DataW H} {p : List MemPlace}
    (hv : Value.okWide Try.prog w r b0 24 v) (h : DataW.Trod enc Try.prog w base spare held 24 v d p) :
    ∃ a b : Col, v = .agg #[.int .u8 a.r, .int .u8 a.g, .int .u8 a.b, .int .u8 a.a, .int .u8 b.r, .int .u8 b.g, .int .u8 b.b, .int .u8 b.a] ∧ a.ok ∧ b.ok := by
  obtain ⟨cs, rfl⟩ := okWide_array Try.underlying24 hv
  obtain ⟨m, hm⟩ := h
  obtain ⟨xs, n, _, _, hlen, hxl, hf⟩ := DataW.trod_array Try.underlying24 hm
  obtain ⟨l⟩ := cs
  simp only [Value.cells] at hlen hf
  obtain ⟨c0, c1, c2, c3, c4, c5, c6, c7, rfl⟩ : ∃ c0 c1 c2 c3 c4 c5 c6 c7, l = [c0, c1, c2, c3, c4, c5, c6, c7] := by
    match l, hlen.trans cells24 with
    | [c0, c1, c2, c3, c4, c5, c6, c7], _ => exact ⟨_, _, _, _, _, _, _, _, rfl⟩
  obtain ⟨y0, y1, rfl⟩ : ∃ y0 y1, xs = [y0, y1] := by
    match xs, hxl with
    | [y0, y1], _ => exact ⟨_, _, rfl⟩
  have h0 := hf 0 (by decide)
  have h1 := hf 1 (by decide)
  simp [cells23] at h0 h1
  obtain ⟨a, ha, e0⟩ := col_of_cells h0
  obtain ⟨b, hb, e1⟩ := col_of_cells h1
  simp at e0 e1
  obtain ⟨rfl, rfl, rfl, rfl⟩ := e0
  obtain ⟨rfl, rfl, rfl, rfl⟩ := e1
  exact ⟨a, b, rfl, ha, hb⟩

theorem open_four {H : Type} {enc : TypeId × Value → H} {w : World} {base b0 : Nat} {spare : Nat → Bool} {held : Bool} {r : Reach} {v : Value} {d : DataW H} {p : List MemPlace}
    (hv : Value.okWide Try.prog w r b0 28 v) (h : DataW.Trod enc Try.prog w base spare held 28 v d p) :
    ∃ a b c e : Col, v = .agg #[.int .u8 a.r, .int .u8 a.g, .int .u8 a.b, .int .u8 a.a, .int .u8 b.r, .int .u8 b.g, .int .u8 b.b, .int .u8 b.a,
      .int .u8 c.r, .int .u8 c.g, .int .u8 c.b, .int .u8 c.a, .int .u8 e.r, .int .u8 e.g, .int .u8 e.b, .int .u8 e.a] ∧ a.ok ∧ b.ok ∧ c.ok ∧ e.ok := by
  obtain ⟨cs, rfl⟩ := okWide_array Try.underlying28 hv
  obtain ⟨m, hm⟩ := h
  obtain ⟨xs, n, _, _, hlen, hxl, hf⟩ := DataW.trod_array Try.underlying28 hm
  obtain ⟨l⟩ := cs
  simp only [Value.cells] at hlen hf
  obtain ⟨c0, c1, c2, c3, c4, c5, c6, c7, c8, c9, c10, c11, c12, c13, c14, c15, rfl⟩ : ∃ c0 c1 c2 c3 c4 c5 c6 c7 c8 c9 c10 c11 c12 c13 c14 c15, l = [c0, c1, c2, c3, c4, c5, c6, c7, c8, c9, c10, c11, c12, c13, c14, c15] := by
    match l, hlen.trans cells28 with
    | [c0, c1, c2, c3, c4, c5, c6, c7, c8, c9, c10, c11, c12, c13, c14, c15], _ => exact ⟨_, _, _, _, _, _, _, _, _, _, _, _, _, _, _, _, rfl⟩
  obtain ⟨y0, y1, y2, y3, rfl⟩ : ∃ y0 y1 y2 y3, xs = [y0, y1, y2, y3] := by
    match xs, hxl with
    | [y0, y1, y2, y3], _ => exact ⟨_, _, _, _, rfl⟩
  have h0 := hf 0 (by decide)
  have h1 := hf 1 (by decide)
  have h2 := hf 2 (by decide)
  have h3 := hf 3 (by decide)
  simp [cells23] at h0 h1 h2 h3
  obtain ⟨a, ha, e0⟩ := col_of_cells h0
  obtain ⟨b, hb, e1⟩ := col_of_cells h1
  obtain ⟨c, hc, e2⟩ := col_of_cells h2
  obtain ⟨e, he, e3⟩ := col_of_cells h3
  simp at e0 e1 e2 e3
  obtain ⟨rfl, rfl, rfl, rfl⟩ := e0
  obtain ⟨rfl, rfl, rfl, rfl⟩ := e1
  obtain ⟨rfl, rfl, rfl, rfl⟩ := e2
  obtain ⟨rfl, rfl, rfl, rfl⟩ := e3
  exact ⟨a, b, c, e, rfl, ha, hb, hc, he⟩
end Go.Proofs.Ytpnjhmmodkhmfaa
