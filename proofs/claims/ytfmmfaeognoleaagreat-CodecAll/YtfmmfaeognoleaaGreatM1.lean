/-
  The contracts of fixed.Sat, and what products are within; worlds that grow.
-/
import Derived.Test.YtfmmfaeognoleaaGreatRows
import Derived.WalkKit
import Derived.WalkSpells
import Derived.Below
import Derived.Deep.RegionHeld3
import Derived.Deep.DrawnRows
import Derived.Deep.QuietTactic
import Derived.BigQuiet
import Derived.Lib.Hide
import Derived.StillTailTactics
import Derived.Lib.SmallJoins
import Derived.Maps.AppendAt
import Derived.Laws.CopyRow
import Derived.Laws.StructEq
import Derived.Deep.MidRow
import Derived.BigFrame
import Derived.BigRegion
import Derived.Deep.CutRange
import Derived.Deep.DeepCutAuto
namespace Go.Proofs.YtfmmfaeognoleaaGreat
open Go.RowKit
attribute [local go_sem ↓] Go.wp_at_zero Go.wp_at_succ

def dv (n : Int) : Int := (n + 127) / 255
theorem mul_bd {x a : Int} (h0 : 0 ≤ x) (h1 : x ≤ 255) (k0 : 0 ≤ a) (k1 : a ≤ 255) : 0 ≤ x * a ∧ x * a ≤ 65025 :=
  ⟨Int.mul_nonneg h0 k0, Int.le_trans (Int.mul_le_mul h1 k1 k0 (by decide)) (by decide)⟩
theorem dv_bd {n : Int} (h0 : 0 ≤ n) (h1 : n ≤ 65025) : 0 ≤ dv n ∧ dv n ≤ 255 := by unfold dv; omega
theorem bstep {B : Nat} {a b c : World} (h : Below B a b) (hB : B ≤ b.heap.size) (k : Below b.heap.size b c) : Below B a c := h.trans (k.mono hB)
/-- The worlds that are as w was below its own size. -/
def Grow (w : World) : Type := { w' : World // Below w.heap.size w w' }
def Grow.w {w : World} (x : Grow w) : World := x.1
theorem Grow.below {w : World} (x : Grow w) : Below w.heap.size w x.w := x.2
theorem Grow.ne (w : World) : Nonempty (Grow w) := ⟨⟨w, Below.refl _ _⟩⟩
theorem Grow.cell {w : World} (x : Grow w) {b o : Nat} {v : Value} (h : w.cell? ⟨b, o, none⟩ = some v) : x.w.cell? ⟨b, o, none⟩ = some v := by
  rw [x.below.cell (World.block_lt_of_cell? _ _ h), h]
theorem wp_region_grow {P : Program} {id : Nat} {Q : Exit → Act → World → Prop} {a : Act} {w : World} {l : List Oper} (hm : P.follows .mixedOrders = true) (hB : Region.lexB .any l.toArray = true)
    (h : wpQuiet P l.toArray (fun w' => ∃ x : Grow w, w' = x.w) (fun a' => ∀ w', (∃ x : Grow w, w' = x.w) → Q .normal a' w') l a) : (Code.region id l.toArray true).wp P Q a w :=
  wp_region_quiet (C := fun w' => ∃ x : Grow w, w' = x.w) hm hB ⟨⟨_, (Below.refl _ _).drew⟩, rfl⟩ (by simpa using h)
theorem Grow.calls {P : Program} {f : FuncId} {args : Array Value} {w : World} {x : Grow w} {v : Value}
    (h : Calls P f args x.w fun e w' => e = .returned v ∧ Below x.w.heap.size x.w w') : Calls P f args x.w fun e w'' => e = .returned v ∧ ∃ y : Grow w, w'' = y.w :=
  h.mono fun _ _ ⟨he, hb⟩ => ⟨he, ⟨_, x.below.trans (hb.mono x.below.size)⟩, rfl⟩
end Go.Proofs.YtfmmfaeognoleaaGreat
/-
  Colours, and blocks that hold one; what is made by closures.
-/
namespace Go.Proofs.YtfmmfaeognoleaaGreat
open Go.RowKit
attribute [local go_sem ↓] Go.wp_at_zero Go.wp_at_succ

structure Col where
  r : Int
  g : Int
  b : Int
  a : Int
  deriving DecidableEq
def Col.ok (c : Col) : Prop := (0 ≤ c.r ∧ c.r ≤ 255) ∧ (0 ≤ c.g ∧ c.g ≤ 255) ∧ (0 ≤ c.b ∧ c.b ≤ 255) ∧ (0 ≤ c.a ∧ c.a ≤ 255)
/-- A block that holds a colour. -/
def colB (c : Col) : Obj := .cells #[.int .u8 c.r, .int .u8 c.g, .int .u8 c.b, .int .u8 c.a] 23 (0, 0)
theorem colB_cell {w : World} {g : Nat} {c : Col} (h : w.heap[g]? = some (colB c)) :
    w.cell? ⟨g, 0, none⟩ = some (.int .u8 c.r) ∧ w.cell? ⟨g, 1, none⟩ = some (.int .u8 c.g) ∧ w.cell? ⟨g, 2, none⟩ = some (.int .u8 c.b) ∧ w.cell? ⟨g, 3, none⟩ = some (.int .u8 c.a) := by
  unfold colB at h
  exact ⟨Joins.cell_of_block h 0, Joins.cell_of_block h 1, Joins.cell_of_block h 2, Joins.cell_of_block h 3⟩
theorem colB_free {w : World} {g : Nat} {c : Col} (h : w.heap[g]? = some (colB c)) :
    w.frozen? ⟨g, 0, none⟩ = false ∧ w.frozen? ⟨g, 1, none⟩ = false ∧ w.frozen? ⟨g, 2, none⟩ = false ∧ w.frozen? ⟨g, 3, none⟩ = false := by
  unfold colB at h
  refine ⟨?_, ?_, ?_, ?_⟩ <;> simp [World.frozen?, h]
theorem colB_set {w : World} {g : Nat} {c : Col} (d : Col) (h : w.heap[g]? = some (colB c)) :
    ((((w.setCell ⟨g, 0, none⟩ (.int .u8 d.r)).setCell ⟨g, 1, none⟩ (.int .u8 d.g)).setCell ⟨g, 2, none⟩ (.int .u8 d.b)).setCell ⟨g, 3, none⟩ (.int .u8 d.a)).heap[g]? = some (colB d) := by
  unfold colB at h
  rw [heap_setCell_same _ _ _ _ _ _ (heap_setCell_same _ _ _ _ _ _ (heap_setCell_same _ _ _ _ _ _ (heap_setCell_same _ _ _ _ _ _ h)))]
  simp [colB]
theorem below2 {w w1 : World} {A B : Obj} (hb : Below ((w.alloc A).alloc B).heap.size ((w.alloc A).alloc B) w1) : Below w.heap.size w w1 :=
  (((Below.refl _ _).alloc (Nat.le_refl _) _).alloc (by simp) _).trans (hb.mono (by simp; omega))
end Go.Proofs.YtfmmfaeognoleaaGreat
/-
  The document's Pre, Right and Mix of colours: they are those of package colour.
-/
namespace Go.Proofs.YtfmmfaeognoleaaGreat
open Go.RowKit
attribute [local go_sem ↓] Go.wp_at_zero Go.wp_at_succ

def rightB (c : Col) : Bool := decide (c.r ≤ c.a) && decide (c.g ≤ c.a) && decide (c.b ≤ c.a)
def Col.right (c : Col) : Prop := c.r ≤ c.a ∧ c.g ≤ c.a ∧ c.b ≤ c.a
theorem rightB_of {c : Col} (h : c.right) : rightB c = true := by
  obtain ⟨h1, h2, h3⟩ := h
  simp [rightB, h1, h2, h3]
def pre (c : Col) : Col := ⟨dv (c.r * c.a), dv (c.g * c.a), dv (c.b * c.a), c.a⟩
theorem pre_ok {c : Col} (h : c.ok) : (pre c).ok := by
  obtain ⟨⟨r0, r1⟩, ⟨g0, g1⟩, ⟨b0, b1⟩, ⟨a0, a1⟩⟩ := h
  have m0 := mul_bd r0 r1 a0 a1
  have m1 := mul_bd g0 g1 a0 a1
  have m2 := mul_bd b0 b1 a0 a1
  exact ⟨dv_bd m0.1 m0.2, dv_bd m1.1 m1.2, dv_bd m2.1 m2.2, a0, a1⟩
theorem dv_le' {x a : Int} (x1 : x ≤ 255) (a0 : 0 ≤ a) : dv (x * a) ≤ a := by
  have h : x * a ≤ 255 * a := Int.mul_le_mul_of_nonneg_right x1 a0
  unfold dv
  omega
theorem pre_right {c : Col} (h : c.ok) : (pre c).right := by
  obtain ⟨⟨r0, r1⟩, ⟨g0, g1⟩, ⟨b0, b1⟩, ⟨a0, a1⟩⟩ := h
  exact ⟨dv_le' r1 a0, dv_le' g1 a0, dv_le' b1 a0⟩
theorem rdv_any (n : Int) (w : World) (h0 : 0 ≤ n) (h1 : n ≤ 65025) :
    Calls Tryz.prog 109 #[.int .i64 n] w fun e w' => e = .returned (.int .i64 (dv n)) ∧ w = w' := by
  have h : dv n = (2 * n + 255) / 510 := by unfold dv; omega
  rw [h]
  clear h
  go_enter Tryz.func109, Tryz.ntmps109
  go_wp2
  go_ret
  exact ⟨rfl, rfl⟩
theorem rpart_any (x a : Int) (w : World) (h0 : 0 ≤ x) (h1 : x ≤ 255) (k0 : 0 ≤ a) (k1 : a ≤ 255) :
    Calls Tryz.prog 73 #[.int .u8 x, .int .u8 a] w fun e w' => e = .returned (.int .u8 (dv (x * a))) ∧ w = w' := by
  obtain ⟨m0, m1⟩ := mul_bd h0 h1 k0 k1
  obtain ⟨d0, d1⟩ := dv_bd m0 m1
  go_enter Tryz.func73, Tryz.ntmps73
  go_wp2_with (go_at_call 109; refine (rdv_any _ _ (by omega) (by omega)).mono ?_; rintro e w' ⟨rfl, rfl⟩)
  go_ret
  exact ⟨rfl, rfl⟩
theorem rright_any (c : Col) (w : World) :
    Calls Tryz.prog 36 #[.agg #[.int .u8 c.r, .int .u8 c.g, .int .u8 c.b, .int .u8 c.a]] w fun e w' => e = .returned (.bool (rightB c)) ∧ Below w.heap.size w w' := by
  unfold rightB
  go_enter Tryz.func36, Tryz.ntmps36
  go_wp2
  all_goals
    go_ret
    exact ⟨by simp [*] <;> omega, (Below.refl _ _).alloc (Nat.le_refl _) _⟩
theorem rpre_col (c : Col) (w : World) (h : c.ok) :
    Calls Tryz.prog 32 #[.agg #[.int .u8 c.r, .int .u8 c.g, .int .u8 c.b, .int .u8 c.a]] w fun e w' => e = .returned (.agg #[.int .u8 (pre c).r, .int .u8 (pre c).g, .int .u8 (pre c).b, .int .u8 (pre c).a]) ∧ Below w.heap.size w w' := by
  obtain ⟨⟨r0, r1⟩, ⟨g0, g1⟩, ⟨b0, b1⟩, ⟨a0, a1⟩⟩ := h
  show Calls Tryz.prog 32 #[.agg #[.int .u8 c.r, .int .u8 c.g, .int .u8 c.b, .int .u8 c.a]] w fun e w' => e = .returned (.agg #[.int .u8 (dv (c.r * c.a)), .int .u8 (dv (c.g * c.a)), .int .u8 (dv (c.b * c.a)), .int .u8 c.a]) ∧ Below w.heap.size w w'
  go_enter Tryz.func32, Tryz.ntmps32
  go_wp2
  go_region_held3 (fun w' => w'.cell? ⟨w.heap.size, 0, none⟩ = some (.int .u8 c.r) ∧ w'.cell? ⟨w.heap.size, 1, none⟩ = some (.int .u8 c.g) ∧ w'.cell? ⟨w.heap.size, 2, none⟩ = some (.int .u8 c.b) ∧ w'.cell? ⟨w.heap.size, 3, none⟩ = some (.int .u8 c.a)) (simp [go_sem, World.cell?_alloc_past])
    (first
      | (go_at_call 73; ((with_reducible refine (rpart_any _ _ _ (by assumption) (by assumption) (by assumption) (by assumption)).mono ?_); rintro e w' ⟨rfl, rfl⟩)))
  go_wp2
  refine bodyPost_ret (v := .agg #[.int .u8 (dv (c.r * c.a)), .int .u8 (dv (c.g * c.a)), .int .u8 (dv (c.b * c.a)), .int .u8 c.a]) (by simp [results, Tryz.results32, go_sem]) rfl ⟨rfl, ?_⟩
  exact (((Below.refl _ _).alloc (Nat.le_refl _) _).alloc (by simp) _).drew
end Go.Proofs.YtfmmfaeognoleaaGreat
/-
  Slices whose elements have several cells: what one reads, and rows of the call's own; for any type of elements.
-/
namespace Go.Proofs.YtfmmfaeognoleaaGreat
open Go.RowKit
attribute [local go_sem ↓] Go.wp_at_zero Go.wp_at_succ

/-- A type of elements: its number, how many cells, and what is in them. -/
structure Elem (α : Type) where
  t : TypeId
  size : Nat
  cells : α → List Value
  pos : 0 < size
  len : ∀ x, (cells x).length = size
  one : ∀ x, ∀ u ∈ cells x, u.oneCell' = true

section
variable {α : Type} (E : Elem α)
def Elem.flat (l : List α) : List Value := l.flatMap E.cells
theorem Elem.flat_append (k l : List α) : E.flat (k ++ l) = E.flat k ++ E.flat l := by simp [Elem.flat]
theorem Elem.flat_cons (x : α) (l : List α) : E.flat (x :: l) = E.cells x ++ E.flat l := rfl
theorem Elem.flat_length : ∀ l : List α, (E.flat l).length = l.length * E.size
  | [] => by simp [Elem.flat]
  | v :: l => by
    rw [E.flat_cons, List.length_append, Elem.flat_length l, E.len, List.length_cons, Nat.add_mul]
    omega
theorem Elem.flat_one (l : List α) : ∀ u ∈ E.flat l, u.oneCell' = true := by
  intro u hu
  obtain ⟨v, _, hu⟩ := List.mem_flatMap.1 hu
  exact E.one v u hu
theorem Elem.flat_get : ∀ {l : List α} {j : Nat} {u : α}, l[j]? = some u → ∀ r, r < E.size → (E.flat l)[j * E.size + r]? = (E.cells u)[r]?
  | [], j, u, h, _, _ => by simp at h
  | v :: l, 0, u, h, r, hr => by
    obtain rfl : v = u := by simpa using h
    rw [Nat.zero_mul, Nat.zero_add, E.flat_cons, List.getElem?_append_left (by rw [E.len]; exact hr)]
  | v :: l, j + 1, u, h, r, hr => by
    have ih := Elem.flat_get (l := l) (j := j) (u := u) (by simpa using h) r hr
    rw [E.flat_cons, List.getElem?_append_right (by rw [E.len, Nat.add_mul]; omega), ← ih]
    congr 1
    rw [E.len, Nat.add_mul]
    omega

/-- The cells from place o of block b on are those of an element. -/
def AtE (w : World) (b o : Nat) (x : α) : Prop := ∀ j u, (E.cells x)[j]? = some u → w.cell? ⟨b, o + j, none⟩ = some u
/-- A slice at A reads these elements, below block B. -/
def Es (w : World) (B : Nat) (A : Option Addr) (xs : List α) : Prop :=
  xs ≠ [] → ∃ b off, A = some ⟨b, off, none⟩ ∧ b < B ∧ ∀ j u, xs[j]? = some u → AtE E w b (off + j * E.size) u
/-- A row of the call's own that holds these elements. -/
def OwnE (w : World) (base : Nat) (v : Value) (xs : List α) : Prop := w.ownsRow base E.t E.size v xs.length (E.flat xs)
end
section
variable {α : Type} {E : Elem α} {w w' : World} {B B' base base' : Nat} {A : Option Addr} {v : Value} {xs : List α}
theorem AtE.below {b o : Nat} {x : α} (h : AtE E w b o x) (hb : Below B w w') (hB : b < B) : AtE E w' b o x := fun j u hj => (hb.cell (p := ⟨b, o + j, none⟩) hB).trans (h j u hj)
theorem AtE.lt {b o : Nat} {x : α} (h : AtE E w b o x) : b < w.heap.size := by
  have hp := E.pos
  rw [← E.len x] at hp
  exact World.block_lt_of_cell? _ _ (h 0 _ (List.getElem?_eq_getElem hp))
theorem AtE.grow {b o : Nat} {x : α} (h : AtE E w b o x) (hb : Below w.heap.size w w') : AtE E w' b o x := h.below hb h.lt
theorem Es.none_ : Es E w B A [] := fun h => absurd rfl h
theorem Es.below (h : Es E w B A xs) (hb : Below B w w') : Es E w' B A xs := fun hne => by
  obtain ⟨b, off, e, hbB, hc⟩ := h hne
  exact ⟨b, off, e, hbB, fun j u hj => (hc j u hj).below hb hbB⟩
theorem Es.more (h : Es E w B A xs) (hB : B ≤ B') : Es E w B' A xs := fun hne => by
  obtain ⟨b, off, e, hbB, hc⟩ := h hne
  exact ⟨b, off, e, by omega, hc⟩
theorem Es.sharp (h : Es E w B A xs) : Es E w w.heap.size A xs := fun hne => by
  obtain ⟨b, off, e, hbB, hc⟩ := h hne
  obtain ⟨u, hu⟩ : ∃ u, xs[0]? = some u := by
    cases xs with
    | nil => exact absurd rfl hne
    | cons x xs => exact ⟨x, rfl⟩
  exact ⟨b, off, e, (hc 0 u hu).lt, hc⟩
theorem Es.grow (h : Es E w B A xs) (hb : Below w.heap.size w w') : Es E w' w.heap.size A xs := h.sharp.below hb
theorem Es.at (h : Es E w B A xs) {k : Nat} {u : α} (hk : xs[k]? = some u) : ∃ b off, A = some ⟨b, off, none⟩ ∧ b < B ∧ AtE E w b (off + k * E.size) u := by
  obtain ⟨b, off, e, hbB, hc⟩ := h (by rintro rfl; simp at hk)
  exact ⟨b, off, e, hbB, hc _ _ hk⟩
theorem OwnE.row (h : OwnE E w base v xs) : w.ownsRow base E.t E.size v xs.length (E.flat xs) := h
theorem OwnE.nil (w : World) (base : Nat) : OwnE E w base (.slice none 0 0) [] := World.ownsRow_nil _ _ _ _
theorem OwnE.es (h : OwnE E w base v xs) : ∃ A c, v = .slice A xs.length c ∧ xs.length ≤ c ∧ c ≤ 9223372036854775807 ∧ Es E w w.heap.size A xs := by
  obtain ⟨hl, ⟨rfl, h0⟩ | ⟨g, cap, cur, rfl, _, hh, hc, hm, _, ht⟩⟩ := h
  · have : xs = [] := List.eq_nil_of_length_eq_zero h0
    subst this
    exact ⟨none, 0, rfl, Nat.le_refl _, by decide, fun h => absurd rfl h⟩
  · refine ⟨some ⟨g, 0, none⟩, cap, rfl, hc, by unfold maxLen at hm; exact hm, fun _ => ⟨g, 0, rfl, (Array.getElem?_eq_some_iff.1 hh).1, fun j u hj r x hr => ?_⟩⟩
    have hjl : j < xs.length := by
      rcases Nat.lt_or_ge j xs.length with h | h
      · exact h
      · rw [List.getElem?_eq_none h] at hj; cases hj
    have hrl : r < E.size := by
      rcases Nat.lt_or_ge r (E.cells u).length with h | h
      · rw [E.len] at h; exact h
      · rw [List.getElem?_eq_none h] at hr; cases hr
    have hlt : j * E.size + r < xs.length * E.size := by
      have : (j + 1) * E.size ≤ xs.length * E.size := Nat.mul_le_mul_right _ hjl
      rw [Nat.add_mul] at this
      omega
    rw [cell_of_row w g (0 + j * E.size + r) cur E.t (0, 0) hh, Nat.zero_add, ← hr, ← E.flat_get hj r hrl, ← ht, List.getElem?_take_of_lt hlt, Array.getElem?_toList]
theorem ownE_ge (h : OwnE E w base v xs) : ∀ j, v.ownBlock = some j → base ≤ j := by
  intro j ej
  rcases h.2 with ⟨rfl, _⟩ | ⟨g, cap, cur, rfl, hb, _, _⟩
  · simp [Value.ownBlock] at ej
  · obtain rfl : g = j := by simpa [Value.ownBlock] using ej
    exact hb
theorem OwnE.keep (h : OwnE E w base v xs) (hb : Below w.heap.size w w') : OwnE E w' base v xs := by
  obtain ⟨hl, h2⟩ := h
  refine ⟨hl, ?_⟩
  rcases h2 with h2 | ⟨g, cap, cur, rfl, hg, hh, hr⟩
  · exact .inl h2
  · exact .inr ⟨g, cap, cur, rfl, hg, (hb.block g (Array.getElem?_eq_some_iff.1 hh).1).trans hh, hr⟩
theorem OwnE.less (h : OwnE E w base v xs) (hb : base' ≤ base) : OwnE E w base' v xs := by
  obtain ⟨hl, h2⟩ := h
  refine ⟨hl, ?_⟩
  rcases h2 with h2 | ⟨g, cap, cur, rfl, hg, hr⟩
  · exact .inl h2
  · exact .inr ⟨g, cap, cur, rfl, by omega, hr⟩
theorem OwnE.alloc (h : OwnE E w base v xs) (o : Obj) : OwnE E (w.alloc o) base v xs := h.keep ((Below.refl _ _).alloc (Nat.le_refl _) o)
theorem OwnE.form (h : OwnE E w base v xs) : ∃ A c, v = .slice A xs.length c := by
  obtain ⟨A, c, e, -⟩ := h.es
  exact ⟨A, c, e⟩
theorem ownE_empty (w : World) (h : base ≤ w.heap.size) : OwnE E (w.alloc (.cells #[] E.t)) base (.slice (some ⟨w.heap.size, 0, none⟩) 0 0) [] :=
  ⟨by simp [Elem.flat], .inr ⟨w.heap.size, 0, #[], rfl, h, heap_alloc_new _ _, Nat.le_refl _, by unfold maxLen; omega, by simp, by simp [Elem.flat]⟩⟩
theorem append_ofE {w1 : World} {v' : Value} {x : α} (ho : OwnE E w base v xs) (hbase : base ≤ w.heap.size) {T : Obj}
    (hown : w1.ownsRow base E.t E.size v' (xs.length + 1) (E.flat xs ++ E.cells x)) (hg : (w.alloc T).grownBy w1 v.ownBlock) : OwnE E w1 base v' (xs ++ [x]) ∧ Below base w w1 := by
  refine ⟨?_, ((Below.refl base w).alloc hbase T).grown hg (by simp; omega) fun j ej => ownE_ge ho j ej⟩
  unfold OwnE
  rw [List.length_append, E.flat_append, show E.flat [x] = E.cells x by simp [Elem.flat]]
  exact hown
/-- The cells of an element in a block of its own. -/
theorem new_el (w : World) (x : α) (cs : Array Value) (h : cs.toList = E.cells x) : ∀ j u, (E.cells x)[j]? = some u → (w.alloc (.cells cs E.t)).cell? ((⟨w.heap.size, 0, none⟩ : Addr).add j) = some u := by
  intro j u hj
  have e : (w.alloc (.cells cs E.t)).heap[w.heap.size]? = some (.cells cs E.t) := heap_alloc_new _ _
  have hc := cell_of_row (w.alloc (.cells cs E.t)) w.heap.size j cs E.t (0, 0) e
  have ha : (⟨w.heap.size, 0, none⟩ : Addr).add j = ⟨w.heap.size, j, none⟩ := by unfold Addr.add; split <;> simp_all
  rw [ha, hc, ← hj, ← h, Array.getElem?_toList]
end
/-- A call answers a new row of elements, and what lay lies as it lay. -/
def MadeE {α : Type} (E : Elem α) (base : Nat) (w : World) (xs : List α) (e : Ending) (w' : World) : Prop := ∃ v, e = .returned v ∧ OwnE E w' base v xs ∧ Below base w w'
end Go.Proofs.YtfmmfaeognoleaaGreat
/-
  The contracts of fixed.Floor and texture.split, of the reference's wrap, and of the statements' small.
-/
namespace Go.Proofs.YtfmmfaeognoleaaGreat
open Go.RowKit
attribute [local go_sem ↓] Go.wp_at_zero Go.wp_at_succ

/-- Numbers that an int holds. -/
def I64 (n : Int) : Prop := -9223372036854775808 ≤ n ∧ n ≤ 9223372036854775807
theorem sides {s : Int} (h0 : 1 ≤ s) (h1 : s ≤ 16) : s = 1 ∨ s = 2 ∨ s = 3 ∨ s = 4 ∨ s = 5 ∨ s = 6 ∨ s = 7 ∨ s = 8 ∨ s = 9 ∨ s = 10 ∨ s = 11 ∨ s = 12 ∨ s = 13 ∨ s = 14 ∨ s = 15 ∨ s = 16 := by omega
/-- glazierref11.wrap: what is left of a number, from 0 on. -/
theorem wrap_any (n s : Int) (hn : I64 n) (h0 : 1 ≤ s) (h1 : s ≤ 16) (w : World) :
    Calls Tryz.prog 74 #[.int .i64 n, .int .i64 s] w fun e w' => e = .returned (.int .i64 (n % s)) ∧ w = w' := by
  obtain ⟨hn0, hn1⟩ := hn
  obtain ⟨r, hr⟩ : ∃ r, n.tmod s = r := ⟨_, rfl⟩
  obtain ⟨q, hq⟩ : ∃ q, n % s = q := ⟨_, rfl⟩
  have r0 := Int.lt_tmod_of_pos n (show (0 : Int) < s by omega)
  have r1 := Int.tmod_lt_of_pos n (show (0 : Int) < s by omega)
  have q0 := Int.emod_nonneg n (show s ≠ 0 by omega)
  have q1 := Int.emod_lt_of_pos n (show (0 : Int) < s by omega)
  have h2 := Int.mul_tdiv_add_tmod n s
  have h3 := Int.emod_add_mul_ediv n s
  rw [hr] at h2 r0 r1
  rw [hq] at h3 q0 q1
  have hc : (r < 0 → r + s = q) ∧ (0 ≤ r → r = q) := by
    generalize n.tdiv s = a at *
    generalize n / s = b at *
    rcases sides h0 h1 with rfl | rfl | rfl | rfl | rfl | rfl | rfl | rfl | rfl | rfl | rfl | rfl | rfl | rfl | rfl | rfl <;> omega
  have s0 : ¬ s = 0 := by omega
  have s1 : ¬ s = -1 := by omega
  rw [hq]
  clear hq h2 h3
  by_cases hneg : r < 0
  · obtain rfl := hc.1 hneg
    clear hc
    go_enter Tryz.func74, Tryz.ntmps74
    go_wp2
    all_goals (go_ret; exact ⟨rfl, rfl⟩)
  · obtain rfl := hc.2 (by omega)
    clear hc
    go_enter Tryz.func74, Tryz.ntmps74
    go_wp2
    all_goals (go_ret; exact ⟨rfl, rfl⟩)

theorem tmod_bd (n m : Int) (hm : 0 < m) : -m < n.tmod m ∧ n.tmod m < m := ⟨Int.lt_tmod_of_pos n hm, Int.tmod_lt_of_pos n hm⟩
end Go.Proofs.YtfmmfaeognoleaaGreat
/-
  Pictures: which may be, and their texels (pure); what comparing two colours comes to; the contracts of texture.Right and of the reference's.
-/
namespace Go.Proofs.YtfmmfaeognoleaaGreat
open Go.RowKit
attribute [local go_sem ↓] Go.wp_at_zero Go.wp_at_succ

def zC : Col := ⟨0, 0, 0, 0⟩
theorem zC_ok : zC.ok := by unfold zC Col.ok; decide
/-- A picture. -/
structure Tx where
  w : Int
  h : Int
  px : List Col
def Tx.right (t : Tx) : Bool := decide (1 ≤ t.w ∧ t.w ≤ 16 ∧ 1 ≤ t.h ∧ t.h ≤ 16 ∧ (t.px.length : Int) = t.w * t.h)
def Tx.ok (t : Tx) : Prop := ∀ c ∈ t.px, c.ok
theorem getD_ok {l : List Col} (h : ∀ c ∈ l, c.ok) (k : Nat) : (l.getD k zC).ok := by
  rw [List.getD_eq_getElem?_getD]
  cases e : l[k]? with
  | none => exact zC_ok
  | some c => exact h c (List.mem_of_getElem? e)
theorem Tx.fine {t : Tx} (h : t.right = true) : 1 ≤ t.w ∧ t.w ≤ 16 ∧ 1 ≤ t.h ∧ t.h ≤ 16 ∧ (t.px.length : Int) = t.w * t.h := by
  unfold Tx.right at h
  exact of_decide_eq_true h
theorem Tx.right_of {t : Tx} (h : 1 ≤ t.w ∧ t.w ≤ 16 ∧ 1 ≤ t.h ∧ t.h ≤ 16 ∧ (t.px.length : Int) = t.w * t.h) : t.right = true := by
  unfold Tx.right
  exact decide_eq_true h
theorem Tx.not_right {t : Tx} (h : ¬ (1 ≤ t.w ∧ t.w ≤ 16 ∧ 1 ≤ t.h ∧ t.h ≤ 16 ∧ (t.px.length : Int) = t.w * t.h)) : t.right = false := by
  unfold Tx.right
  exact decide_eq_false h
theorem area_bd {a b m : Int} (a0 : 1 ≤ a) (a1 : a ≤ 16) (b0 : 1 ≤ b) (b1 : b ≤ 16) (hm : a * b = m) : 1 ≤ m ∧ m ≤ 256 := by
  rcases sides a0 a1 with rfl | rfl | rfl | rfl | rfl | rfl | rfl | rfl | rfl | rfl | rfl | rfl | rfl | rfl | rfl | rfl <;> omega
/-- The place of a texel in a picture's row of texels. -/
theorem place_bd {a b x y m i : Int} (a0 : 1 ≤ a) (a1 : a ≤ 16) (b0 : 1 ≤ b) (b1 : b ≤ 16) (hm : a * b = m) (x0 : 0 ≤ x) (x1 : x < a) (y0 : 0 ≤ y) (y1 : y < b) (hi : y * a + x = i) : 0 ≤ i ∧ i < m := by
  rcases sides a0 a1 with rfl | rfl | rfl | rfl | rfl | rfl | rfl | rfl | rfl | rfl | rfl | rfl | rfl | rfl | rfl | rfl <;> omega

/-- Two colours are the same. -/
def sameC (u v : Col) : Bool := decide (u = v)
theorem sameC_self (u : Col) : sameC u u = true := by simp [sameC]
theorem eqlC (w : World) (x0 x1 x2 x3 y0 y1 y2 y3 : Int) : (binOp .eql 23 (.agg #[.int .u8 x0, .int .u8 x1, .int .u8 x2, .int .u8 x3]) (.agg #[.int .u8 y0, .int .u8 y1, .int .u8 y2, .int .u8 y3])).run Tryz.prog w = .ok (.bool (sameC ⟨x0, x1, x2, x3⟩ ⟨y0, y1, y2, y3⟩)) w := by
  have u5 := Tryz.underlying5
  unfold sameC
  have hS : Tryz.prog.underlying 23 = some (.struct (Tryz.prog.fieldsOf 23)) := by kernel_rfl
  have hp : Tryz.prog.stoodInHeld 23 = false := by kernel_rfl
  rw [run_eql_struct, show (10000 : Nat) = 9999 + 1 from rfl, run_equalIn_agg w 9999 23 _ _ hS hp]
  simp only [Program.fieldsOf, Tryz.underlying23]
  go_simp
  by_cases h0 : x0 = y0
  · by_cases h1 : x1 = y1
    · by_cases h2 : x2 = y2
      · by_cases h3 : x3 = y3 <;> simp [h0, h1, h2, h3]
      · simp [h0, h1, h2]
    · simp [h0, h1]
  · simp [h0]
theorem guardC : Tryz.prog.eqGuardType Tryz.prog.depth 23 = false := by kernel_rfl

/-- A slice's elements are colours. -/
def EC : Elem Col := ⟨23, 4, fun c => [.int .u8 c.r, .int .u8 c.g, .int .u8 c.b, .int .u8 c.a], by decide, fun _ => rfl, fun c u hu => by
  simp only [List.mem_cons, List.not_mem_nil, or_false] at hu
  rcases hu with rfl | rfl | rfl | rfl <;> rfl⟩
theorem atC {w : World} {b o : Nat} {c : Col} (h : AtE EC w b o c) : w.cell? ⟨b, o, none⟩ = some (.int .u8 c.r) ∧ w.cell? ⟨b, o + 1, none⟩ = some (.int .u8 c.g) ∧ w.cell? ⟨b, o + 2, none⟩ = some (.int .u8 c.b) ∧ w.cell? ⟨b, o + 3, none⟩ = some (.int .u8 c.a) :=
  ⟨h 0 _ rfl, h 1 _ rfl, h 2 _ rfl, h 3 _ rfl⟩

theorem new_at1 (w : World) (a : Obj) : (w.alloc a).heap[w.heap.size]? = some a := heap_alloc_new _ _
theorem new_at2 (w : World) (a b : Obj) : ((w.alloc a).alloc b).heap[w.heap.size + 1]? = some b := by
  have h := heap_alloc_new (w.alloc a) b
  rwa [show (w.alloc a).heap.size = w.heap.size + 1 by simp] at h
theorem new_at20 (w : World) (a b : Obj) : ((w.alloc a).alloc b).heap[w.heap.size]? = some a := by
  rw [Below.heap_alloc _ _ _ (by simp)]
  exact heap_alloc_new _ _

set_option maxHeartbeats 1000000 in
theorem areSides_any (a b : Int) (g : Nat) (w : World) (h0 : w.cell? ⟨g, 0, none⟩ = some (.int .i64 a)) (h1 : w.cell? ⟨g, 1, none⟩ = some (.int .i64 b)) :
    Calls Tryz.prog 84 #[.slice (some ⟨g, 0, none⟩) 2 2] w fun e w' => e = .returned (.bool (decide (1 ≤ a ∧ a ≤ 16 ∧ 1 ≤ b ∧ b ≤ 16))) ∧ w = w' := by
  obtain ⟨r, hr⟩ : ∃ r, decide (1 ≤ a ∧ a ≤ 16 ∧ 1 ≤ b ∧ b ≤ 16) = r := ⟨_, rfl⟩
  rw [hr]
  have HR := Lib.hid hr
  clear hr
  by_cases a0 : a < 1
  · obtain rfl : r = false := by rw [← HR.out]; simp; omega
    go_enter Tryz.func84, Tryz.ntmps84
    go_wp2
    refine wp_loop_rounds 3 ?_
    rw [rounds_succ]
    go_wp2
    go_ret
    exact ⟨rfl, rfl⟩
  by_cases a1 : 16 < a
  · obtain rfl : r = false := by rw [← HR.out]; simp; omega
    go_enter Tryz.func84, Tryz.ntmps84
    go_wp2
    refine wp_loop_rounds 3 ?_
    rw [rounds_succ]
    go_wp2
    go_ret
    exact ⟨rfl, rfl⟩
  by_cases b0 : b < 1
  · obtain rfl : r = false := by rw [← HR.out]; simp; omega
    go_enter Tryz.func84, Tryz.ntmps84
    go_wp2
    refine wp_loop_rounds 3 ?_
    rw [rounds_succ]
    go_wp2
    rw [rounds_succ]
    go_wp2
    go_ret
    exact ⟨rfl, rfl⟩
  by_cases b1 : 16 < b
  · obtain rfl : r = false := by rw [← HR.out]; simp; omega
    go_enter Tryz.func84, Tryz.ntmps84
    go_wp2
    refine wp_loop_rounds 3 ?_
    rw [rounds_succ]
    go_wp2
    rw [rounds_succ]
    go_wp2
    go_ret
    exact ⟨rfl, rfl⟩
  obtain rfl : r = true := by rw [← HR.out]; simp; omega
  go_enter Tryz.func84, Tryz.ntmps84
  go_wp2
  refine wp_loop_rounds 3 ?_
  rw [rounds_succ]
  go_wp2
  rw [rounds_succ]
  go_wp2
  rw [rounds_succ]
  go_wp2
  go_ret
  exact ⟨rfl, rfl⟩

set_option maxHeartbeats 1000000 in
theorem right_any (t : Tx) (A : Option Addr) (c : Nat) (w : World) :
    Calls Tryz.prog 48 #[.agg #[.int .i64 t.w, .int .i64 t.h, .slice A t.px.length c]] w fun e w' => e = .returned (.bool t.right) ∧ Below w.heap.size w w' := by
  have HK := Lib.hid fun o o' => (((Below.refl w.heap.size w).alloc (Nat.le_refl _) o).alloc (by simp) o')
  have HS := Lib.hid (areSides_any t.w t.h)
  by_cases hf : 1 ≤ t.w ∧ t.w ≤ 16 ∧ 1 ≤ t.h ∧ t.h ≤ 16
  · obtain ⟨w0, w1, h0, h1⟩ := hf
    obtain ⟨m, hm⟩ : ∃ m, t.w * t.h = m := ⟨_, rfl⟩
    obtain ⟨m0, m1⟩ := area_bd w0 w1 h0 h1 hm
    have hd : decide (1 ≤ t.w ∧ t.w ≤ 16 ∧ 1 ≤ t.h ∧ t.h ≤ 16) = true := by simp; omega
    rw [hd] at HS
    by_cases he : (t.px.length : Int) = m
    · rw [Tx.right_of ⟨w0, w1, h0, h1, by rw [hm]; exact he⟩]
      have d1 : decide ((t.px.length : Int) = m) = true := by simpa using he
      go_enter Tryz.func48, Tryz.ntmps48
      go_wp2_with (go_at_call 84; (with_reducible refine (HS.out _ _ (by simp [go_sem]) (by simp [go_sem])).mono ?_); rintro e w' ⟨rfl, rfl⟩)
      go_ret
      exact ⟨rfl, HK.out _ _⟩
    · rw [Tx.not_right (by rw [hm]; omega)]
      have d1 : decide ((t.px.length : Int) = m) = false := by simpa using he
      have d2 : ((t.px.length : Int) == m) = false := by simpa using he
      go_enter Tryz.func48, Tryz.ntmps48
      go_wp2_with (go_at_call 84; (with_reducible refine (HS.out _ _ (by simp [go_sem]) (by simp [go_sem])).mono ?_); rintro e w' ⟨rfl, rfl⟩)
      go_ret
      exact ⟨rfl, HK.out _ _⟩
  · have hd : decide (1 ≤ t.w ∧ t.w ≤ 16 ∧ 1 ≤ t.h ∧ t.h ≤ 16) = false := by simpa using hf
    rw [hd] at HS
    rw [Tx.not_right (by omega)]
    clear hf hd
    go_enter Tryz.func48, Tryz.ntmps48
    go_wp2_with (go_at_call 84; (with_reducible refine (HS.out _ _ (by simp [go_sem]) (by simp [go_sem])).mono ?_); rintro e w' ⟨rfl, rfl⟩)
    go_ret
    exact ⟨rfl, HK.out _ _⟩

set_option maxHeartbeats 1000000 in
theorem rright_tex (t : Tx) (A : Option Addr) (c : Nat) (w : World) :
    Calls Tryz.prog 39 #[.agg #[.int .i64 t.w, .int .i64 t.h, .slice A t.px.length c]] w fun e w' => e = .returned (.bool t.right) ∧ Below w.heap.size w w' := by
  have HK := Lib.hid fun o => ((Below.refl w.heap.size w).alloc (Nat.le_refl _) o)
  obtain ⟨r, hr⟩ : ∃ r, t.right = r := ⟨_, rfl⟩
  rw [hr]
  have HR := Lib.hid hr
  clear hr
  by_cases a0 : t.w < 1
  · obtain rfl : r = false := by rw [← HR.out]; exact Tx.not_right (by omega)
    go_enter Tryz.func39, Tryz.ntmps39
    go_wp2
    go_ret
    exact ⟨rfl, HK.out _⟩
  by_cases a1 : 16 < t.w
  · obtain rfl : r = false := by rw [← HR.out]; exact Tx.not_right (by omega)
    go_enter Tryz.func39, Tryz.ntmps39
    go_wp2
    go_ret
    exact ⟨rfl, HK.out _⟩
  by_cases b0 : t.h < 1
  · obtain rfl : r = false := by rw [← HR.out]; exact Tx.not_right (by omega)
    go_enter Tryz.func39, Tryz.ntmps39
    go_wp2
    go_ret
    exact ⟨rfl, HK.out _⟩
  by_cases b1 : 16 < t.h
  · obtain rfl : r = false := by rw [← HR.out]; exact Tx.not_right (by omega)
    go_enter Tryz.func39, Tryz.ntmps39
    go_wp2
    go_ret
    exact ⟨rfl, HK.out _⟩
  obtain ⟨m, hm⟩ : ∃ m, t.w * t.h = m := ⟨_, rfl⟩
  obtain ⟨m0, m1⟩ := area_bd (by omega) (by omega) (by omega) (by omega) hm
  by_cases he : (t.px.length : Int) = m
  · obtain rfl : r = true := by rw [← HR.out]; exact Tx.right_of ⟨by omega, by omega, by omega, by omega, by rw [hm]; exact he⟩
    go_enter Tryz.func39, Tryz.ntmps39
    go_wp2
    go_ret
    exact ⟨rfl, HK.out _⟩
  · obtain rfl : r = false := by rw [← HR.out]; exact Tx.not_right (by rw [hm]; omega)
    have d1 : decide ((t.px.length : Int) = m) = false := by simpa using he
    have d2 : ((t.px.length : Int) == m) = false := by simpa using he
    go_enter Tryz.func39, Tryz.ntmps39
    go_wp2
    go_ret
    exact ⟨rfl, HK.out _⟩
end Go.Proofs.YtfmmfaeognoleaaGreat
/-
  The statements' few, and the contract of the reference's Fit.
-/
namespace Go.Proofs.YtfmmfaeognoleaaGreat
open Go.RowKit
attribute [local go_sem ↓] Go.wp_at_zero Go.wp_at_succ

theorem Es.take {w : World} {B : Nat} {A : Option Addr} {xs : List Col} (h : Es EC w B A xs) (k : Nat) : Es EC w B A (xs.take k) := fun hne => by
  obtain ⟨b, off, e, hb, hc⟩ := h (by rintro rfl; simp at hne)
  refine ⟨b, off, e, hb, fun j u hj => hc j u ?_⟩
  rw [List.getElem?_take] at hj
  split at hj
  · exact hj
  · cases hj
/-- A picture of at most 300 texels. -/
def fewT (t : Tx) : Tx := ⟨t.w, t.h, t.px.take 300⟩
theorem fewT_ok {t : Tx} (h : t.ok) : (fewT t).ok := fun c hc => h c (List.mem_of_mem_take hc)

/-- A block that holds a picture. -/
def txB (t : Tx) (A : Option Addr) (c : Nat) : Obj := .cells #[.int .i64 t.w, .int .i64 t.h, .slice A t.px.length c] 47 (0, 0)
theorem txB_cell {w : World} {g : Nat} {t : Tx} {A : Option Addr} {c : Nat} (h : w.heap[g]? = some (txB t A c)) : w.cell? ⟨g, 0, none⟩ = some (.int .i64 t.w) ∧ w.cell? ⟨g, 1, none⟩ = some (.int .i64 t.h) ∧ w.cell? ⟨g, 2, none⟩ = some (.slice A t.px.length c) := by
  unfold txB at h
  exact ⟨Joins.cell_of_block h 0, Joins.cell_of_block h 1, Joins.cell_of_block h 2⟩
theorem txB_free {w : World} {g : Nat} {t : Tx} {A : Option Addr} {c : Nat} (h : w.heap[g]? = some (txB t A c)) : w.frozen? ⟨g, 0, none⟩ = false ∧ w.frozen? ⟨g, 1, none⟩ = false ∧ w.frozen? ⟨g, 2, none⟩ = false := by
  unfold txB at h
  refine ⟨?_, ?_, ?_⟩ <;> simp [World.frozen?, h]
theorem txB_lt {w : World} {g : Nat} {t : Tx} {A : Option Addr} {c : Nat} (h : w.heap[g]? = some (txB t A c)) : g < w.heap.size := (Array.getElem?_eq_some_iff.1 h).1
theorem txB_grow {w w' : World} {g : Nat} {t : Tx} {A : Option Addr} {c : Nat} (h : w.heap[g]? = some (txB t A c)) (k : Below w.heap.size w w') : w'.heap[g]? = some (txB t A c) := (k.block _ (txB_lt h)).trans h
theorem same_below {w w' : World} (h : w = w') : Below w.heap.size w w' := h ▸ Below.refl _ _
theorem rwrap_any (n s : Int) (hn : I64 n) (h0 : 1 ≤ s) (h1 : s ≤ 16) (w : World) :
    Calls Tryz.prog 74 #[.int .i64 n, .int .i64 s] w fun e w' => e = .returned (.int .i64 (n % s)) ∧ Below w.heap.size w w' := (wrap_any n s hn h0 h1 w).mono fun _ _ h => ⟨h.1, same_below h.2⟩
end Go.Proofs.YtfmmfaeognoleaaGreat
/-
  The contract of the reference's Fit: a picture that may be, of any one.
-/
namespace Go.Proofs.YtfmmfaeognoleaaGreat
open Go.RowKit
attribute [local go_sem ↓] Go.wp_at_zero Go.wp_at_succ

/-- A block of two sides and a slice. -/
def fB (W H : Int) (v : Value) : Obj := .cells #[.int .i64 W, .int .i64 H, v] 47 (0, 0)
theorem fB_cell {w : World} {g : Nat} {W H : Int} {v : Value} (h : w.heap[g]? = some (fB W H v)) : w.cell? ⟨g, 0, none⟩ = some (.int .i64 W) ∧ w.cell? ⟨g, 1, none⟩ = some (.int .i64 H) ∧ w.cell? ⟨g, 2, none⟩ = some v := by
  unfold fB at h
  exact ⟨Joins.cell_of_block h 0, Joins.cell_of_block h 1, Joins.cell_of_block h 2⟩
theorem fB_free {w : World} {g : Nat} {W H : Int} {v : Value} (h : w.heap[g]? = some (fB W H v)) : w.frozen? ⟨g, 0, none⟩ = false ∧ w.frozen? ⟨g, 1, none⟩ = false ∧ w.frozen? ⟨g, 2, none⟩ = false := by
  unfold fB at h
  refine ⟨?_, ?_, ?_⟩ <;> simp [World.frozen?, h]
theorem fB_lt {w : World} {g : Nat} {W H : Int} {v : Value} (h : w.heap[g]? = some (fB W H v)) : g < w.heap.size := (Array.getElem?_eq_some_iff.1 h).1
theorem fB_keep {w w' : World} {B g : Nat} {W H : Int} {v : Value} (h : w.heap[g]? = some (fB W H v)) (k : Below B w w') (hg : g < B) : w'.heap[g]? = some (fB W H v) := (k.block _ hg).trans h
theorem fB_set2 {w : World} {g : Nat} {W H : Int} {v : Value} (u : Value) (h : w.heap[g]? = some (fB W H v)) : (w.setCell ⟨g, 2, none⟩ u).heap[g]? = some (fB W H u) := by
  unfold fB at h
  rw [heap_setCell_same _ _ _ _ _ _ h]
  simp [fB]
theorem fB_set3 {w : World} {g : Nat} {W H : Int} {v : Value} (X Y : Int) (u : Value) (h : w.heap[g]? = some (fB W H v)) : (((w.setCell ⟨g, 0, none⟩ (.int .i64 X)).setCell ⟨g, 1, none⟩ (.int .i64 Y)).setCell ⟨g, 2, none⟩ u).heap[g]? = some (fB X Y u) := by
  unfold fB at h
  rw [heap_setCell_same _ _ _ _ _ _ (heap_setCell_same _ _ _ _ _ _ (heap_setCell_same _ _ _ _ _ _ h))]
  simp [fB]
theorem OwnE.setCell {α : Type} {E : Elem α} {w : World} {base g o : Nat} {v u : Value} {xs : List α} (h : OwnE E w base v xs) (hg : g < base) : OwnE E (w.setCell ⟨g, o, none⟩ u) base v xs := by
  obtain ⟨hl, h2⟩ := h
  refine ⟨hl, ?_⟩
  rcases h2 with h2 | ⟨j, cap, cur, rfl, hj, hh, hr⟩
  · exact .inl h2
  · exact .inr ⟨j, cap, cur, rfl, hj, by rw [heap_setCell_other _ _ _ _ (by simp; omega)]; exact hh, hr⟩
theorem OwnE.up (w : World) {α : Type} {E : Elem α} {w' : World} {base : Nat} {v : Value} {xs : List α} (h : OwnE E w base v xs) (hb : Below w.heap.size w w') : OwnE E w' base v xs := h.keep hb
theorem Tryz.info23 : (Tryz.prog.info? 23).map (fun i => (i.zero, i.size, i.bytes)) = some (some (.agg (Array.replicate 4 (.int .u8 0))), 4, 4) := by kernel_rfl
theorem info_parts {t : TypeId} {x : Option Value} {s b : Nat} (h : (Tryz.prog.info? t).map (fun i => (i.zero, i.size, i.bytes)) = some (x, s, b)) : ∃ i, Tryz.prog.info? t = some i ∧ i.zero = x ∧ i.size = s ∧ i.bytes = b := by
  cases e : Tryz.prog.info? t with
  | none => rw [e] at h; cases h
  | some i => rw [e] at h; cases h; exact ⟨i, rfl, rfl, rfl, rfl⟩

/-- The colour that Fit puts at a place. -/
def fitC (px : List Col) (i : Nat) : Col := px.getD i ⟨((i : Int) * 16) % 256, (i : Int) % 256, 7, 255⟩
def fitT (t : Tx) : Tx := ⟨1 + t.w % 16, 1 + t.h % 16, (List.range ((1 + t.w % 16) * (1 + t.h % 16)).toNat).map (fitC t.px)⟩
theorem fitC_ok {px : List Col} (h : ∀ c ∈ px, c.ok) (i : Nat) : (fitC px i).ok := by
  unfold fitC
  rw [List.getD_eq_getElem?_getD]
  cases e : px[i]? with
  | none => unfold Col.ok; simp; omega
  | some c => exact h c (List.mem_of_getElem? e)
theorem fitT_ok {t : Tx} (h : t.ok) : (fitT t).ok := by
  intro c hc
  unfold fitT at hc
  obtain ⟨i, _, rfl⟩ := List.mem_map.1 hc
  exact fitC_ok h i
theorem fitT_sides (t : Tx) : 1 ≤ (fitT t).w ∧ (fitT t).w ≤ 16 ∧ 1 ≤ (fitT t).h ∧ (fitT t).h ≤ 16 := by
  unfold fitT
  dsimp only
  omega
theorem fitT_len (t : Tx) : ((fitT t).px.length : Int) = (fitT t).w * (fitT t).h := by
  obtain ⟨a, b, c, d⟩ := fitT_sides t
  have h := area_bd a b c d rfl
  unfold fitT at h ⊢
  dsimp only at h ⊢
  rw [List.length_map, List.length_range]
  omega
theorem fitT_right (t : Tx) : (fitT t).right = true := by
  obtain ⟨a, b, c, d⟩ := fitT_sides t
  exact Tx.right_of ⟨a, b, c, d, fitT_len t⟩
theorem new_keep {w : World} {g : Nat} {x : Obj} (o : Obj) (h : w.heap[g]? = some x) : (w.alloc o).heap[g]? = some x := by
  rw [Below.heap_alloc _ _ _ (Array.getElem?_eq_some_iff.1 h).1]
  exact h
theorem newC_at {w : World} {u : Col} {g : Nat} (hg : g = w.heap.size) : ∀ j x, (EC.cells u)[j]? = some x → (w.alloc (.cells #[.int .u8 u.r, .int .u8 u.g, .int .u8 u.b, .int .u8 u.a] 23)).cell? ((⟨g, 0, none⟩ : Addr).add j) = some x := by
  subst hg
  exact new_el (E := EC) w u _ rfl
theorem range_snoc (f : Nat → Col) (k : Nat) : (List.range (k + 1)).map f = (List.range k).map f ++ [f k] := by rw [List.range_succ, List.map_append]; rfl

set_option maxRecDepth 100000 in
set_option maxHeartbeats 4000000 in
theorem fit_any (t : Tx) (A : Option Addr) (c : Nat) (w : World) (hw : I64 t.w) (hh : I64 t.h) (he : Es EC w w.heap.size A t.px) :
    Calls Tryz.prog 34 #[.agg #[.int .i64 t.w, .int .i64 t.h, .slice A t.px.length c]] w fun e w' => ∃ A' c', e = .returned (.agg #[.int .i64 (fitT t).w, .int .i64 (fitT t).h, .slice A' (fitT t).px.length c']) ∧ (fitT t).px.length ≤ c' ∧ Es EC w' w'.heap.size A' (fitT t).px ∧ OwnE EC w' w.heap.size (.slice A' (fitT t).px.length c') (fitT t).px ∧ Below w.heap.size w w' := by
  obtain ⟨i0, hi, hz0, hz1, hz2⟩ := info_parts Tryz.info23
  have HI := Lib.hid hi
  have HZ := Lib.hid (And.intro hz0 (And.intro hz1 hz2))
  have HW := Lib.hid (rwrap_any t.w 16 hw (by decide) (by decide))
  have HH := Lib.hid (rwrap_any t.h 16 hh (by decide) (by decide))
  obtain ⟨a0, a1, b0, b1⟩ := fitT_sides t
  obtain ⟨n, hn⟩ : ∃ n, (fitT t).w * (fitT t).h = n := ⟨_, rfl⟩
  have hlen := fitT_len t
  obtain ⟨n0, n1⟩ := area_bd a0 a1 b0 b1 hn
  have HPX := Lib.hid (show (fitT t).px = (List.range n.toNat).map (fitC t.px) by rw [← hn]; rfl)
  have eW : 1 + t.w % 16 = (fitT t).w := rfl
  have eH : 1 + t.h % 16 = (fitT t).h := rfl
  rw [hn] at hlen
  have HE := Lib.hid he
  have HL := Lib.hid hlen
  generalize (fitT t).w = W at *
  generalize (fitT t).h = H at *
  generalize (fitT t).px = PX at *
  obtain ⟨p, hp⟩ : ∃ p, t.w % 16 = p := ⟨_, rfl⟩
  obtain ⟨q, hq⟩ : ∃ q, t.h % 16 = q := ⟨_, rfl⟩
  rw [hp] at HW eW
  rw [hq] at HH eH
  have wn : IntKind.i64.wrap (W * H) = n := by rw [hn, IntKind.wrap_i64]; omega
  have wp : IntKind.i64.wrap (1 + p) = W := by rw [IntKind.wrap_i64]; omega
  have wq : IntKind.i64.wrap (1 + q) = H := by rw [IntKind.wrap_i64]; omega
  clear hi hz0 hz1 hz2 hw hh hn hlen he hp hq eW eH
  go_enter Tryz.func34, Tryz.ntmps34
  go_wp2_with fail
  have h0 : Below w.heap.size w ((w.alloc (.cells #[.int .i64 t.w, .int .i64 t.h, .slice A t.px.length c] 47)).alloc (.cells #[.int .i64 0, .int .i64 0, .slice none 0 0] 47)) := ((Below.refl _ _).alloc (Nat.le_refl _) _).alloc (by simp) _
  have H0 := Lib.hid h0
  have TX := Lib.hid (show ((w.alloc (.cells #[.int .i64 t.w, .int .i64 t.h, .slice A t.px.length c] 47)).alloc (.cells #[.int .i64 0, .int .i64 0, .slice none 0 0] 47)).heap[w.heap.size]? = some (txB t A c) from new_at20 _ _ _)
  have ZX := Lib.hid (show ((w.alloc (.cells #[.int .i64 t.w, .int .i64 t.h, .slice A t.px.length c] 47)).alloc (.cells #[.int .i64 0, .int .i64 0, .slice none 0 0] 47)).heap[w.heap.size + 1]? = some (fB 0 0 (.slice none 0 0)) from new_at2 _ _ _)
  clear h0
  generalize (w.alloc (.cells #[.int .i64 t.w, .int .i64 t.h, .slice A t.px.length c] 47)).alloc (.cells #[.int .i64 0, .int .i64 0, .slice none 0 0] 47) = X at *
  go_cut [3] from 6 to 15 (fun s Xc => ∃ h, s = .pointer (some ⟨h, 0, none⟩) ∧ X.heap.size ≤ h ∧ Below X.heap.size X Xc ∧ Xc.heap[h]? = some (fB W H (.slice none 0 0)))
  case first =>
    have d0 := txB_cell TX.out
    have y0 : ∀ x : Grow X, x.w.cell? ⟨w.heap.size, 0, none⟩ = some (.int .i64 t.w) := fun x => x.cell d0.1
    have y1 : ∀ x : Grow X, x.w.cell? ⟨w.heap.size, 1, none⟩ = some (.int .i64 t.h) := fun x => x.cell d0.2.1
    refine wp_region_held_drew (S := fun w' => ∃ x : Grow X, w' = x.w) (by kernel_rfl) ⟨⟨_, (Below.refl _ _).drew⟩, rfl⟩ (fun hS => ?_)
    have BY := Lib.hid (show Below X.heap.size X X.drew from (Below.refl _ _).drew)
    generalize X.drew = Y at *
    clear d0
    refine wpAnyH_take (i := 0) (v := .pointer (some ⟨w.heap.size, 0, none⟩)) rfl (by kernel_rfl) (by kernel_rfl) (by kernel_rfl) (fun _ _ _ h => h) (Or.inl ⟨by rfl, fun w hw => by obtain ⟨x, rfl⟩ := hw; go_simp⟩) hS ?_
    try simp only [Act.put, List.setIfInBounds_toArray, List.set_cons_zero, List.set_cons_succ, List.getElem_toArray, List.getElem_cons_zero]
    refine wpAnyH_take (i := 1) (v := .int .i64 t.w) rfl (by kernel_rfl) (by kernel_rfl) (by kernel_rfl) (fun _ _ _ h => h) (Or.inl ⟨by rfl, fun w hw => by obtain ⟨x, rfl⟩ := hw; go_simp⟩) hS ?_
    try simp only [Act.put, List.setIfInBounds_toArray, List.set_cons_zero, List.set_cons_succ, List.getElem_toArray, List.getElem_cons_zero, List.getElem_cons_succ]
    refine wpAnyH_take (i := 4) (v := .pointer (some ⟨w.heap.size, 1, none⟩)) rfl (by kernel_rfl) (by kernel_rfl) (by kernel_rfl) (fun _ _ _ h => h) (Or.inl ⟨by rfl, fun w hw => by obtain ⟨x, rfl⟩ := hw; go_simp⟩) hS ?_
    try simp only [Act.put, List.setIfInBounds_toArray, List.set_cons_zero, List.set_cons_succ, List.getElem_toArray, List.getElem_cons_zero, List.getElem_cons_succ]
    refine wpAnyH_take (i := 5) (v := .int .i64 t.h) rfl (by kernel_rfl) (by kernel_rfl) (by kernel_rfl) (fun _ _ _ h => h) (Or.inl ⟨by rfl, fun w hw => by obtain ⟨x, rfl⟩ := hw; go_simp⟩) hS ?_
    try simp only [Act.put, List.setIfInBounds_toArray, List.set_cons_zero, List.set_cons_succ, List.getElem_toArray, List.getElem_cons_zero, List.getElem_cons_succ]
    refine wpAnyH_ready (rs := [2, 9]) (by kernel_rfl) (by simp) ?_
    refine AllReadyH.cons rfl (fun K hK => ?_) ?_
    · skip
      go_simp
      with_reducible refine (HW.out _).mono ?_
      rintro e t1 ⟨rfl, hb⟩
      have Bt1 := Lib.hid (bstep BY.out BY.out.size hb)
      clear hb
      refine hK.out _ _ ⟨⟨_, Bt1.out⟩, rfl⟩ (fun hS => ?_)
      clear hK K
      try simp only [Act.put, List.setIfInBounds_toArray, List.set_cons_zero, List.set_cons_succ, List.getElem_toArray, List.getElem_cons_zero, List.getElem_cons_succ]
      refine wpAnyH_take (i := 3) (v := .int .i64 W) rfl (by kernel_rfl) (by kernel_rfl) (by kernel_rfl) (fun _ _ _ h => h) (Or.inl ⟨by rfl, fun w hw => by obtain ⟨x, rfl⟩ := hw; go_simp⟩) hS ?_
      try simp only [Act.put, List.setIfInBounds_toArray, List.set_cons_zero, List.set_cons_succ, List.getElem_toArray, List.getElem_cons_zero, List.getElem_cons_succ]
      refine wpAnyH_ready (rs := [6, 9]) (by kernel_rfl) (by simp) ?_
      refine AllReadyH.cons rfl (fun K hK => ?_) ?_
      · skip
        go_simp
        with_reducible refine (HH.out _).mono ?_
        rintro e t2 ⟨rfl, hb⟩
        have Bt2 := Lib.hid (bstep Bt1.out Bt1.out.size hb)
        clear hb
        refine hK.out _ _ ⟨⟨_, Bt2.out⟩, rfl⟩ (fun hS => ?_)
        clear hK K
        try simp only [Act.put, List.setIfInBounds_toArray, List.set_cons_zero, List.set_cons_succ, List.getElem_toArray, List.getElem_cons_zero, List.getElem_cons_succ]
        refine wpAnyH_take (i := 7) (v := .int .i64 H) rfl (by kernel_rfl) (by kernel_rfl) (by kernel_rfl) (fun _ _ _ h => h) (Or.inl ⟨by rfl, fun w hw => by obtain ⟨x, rfl⟩ := hw; go_simp⟩) hS ?_
        try simp only [Act.put, List.setIfInBounds_toArray, List.set_cons_zero, List.set_cons_succ, List.getElem_toArray, List.getElem_cons_zero, List.getElem_cons_succ]
        refine wpAnyH_take (i := 8) (v := .agg #[.int .i64 W, .int .i64 H, .slice none 0 0]) rfl (by kernel_rfl) (by kernel_rfl) (by kernel_rfl) (fun _ _ _ h => h) (Or.inl ⟨by rfl, fun w hw => by obtain ⟨x, rfl⟩ := hw; go_simp⟩) hS ?_
        try simp only [Act.put, List.setIfInBounds_toArray, List.set_cons_zero, List.set_cons_succ, List.getElem_toArray, List.getElem_cons_zero, List.getElem_cons_succ]
        refine wpAnyH_ready (rs := [9]) (by kernel_rfl) (by simp) ?_
        refine AllReadyH.cons rfl (fun K hK => ?_) AllReadyH.nil
        go_simp
        refine hK.out _ _ ⟨⟨_, Bt2.out.alloc Bt2.out.size _⟩, rfl⟩ (fun hS => ?_)
        clear hK K hS
        try simp only [Act.put, List.setIfInBounds_toArray, List.set_cons_zero, List.set_cons_succ, List.getElem_toArray, List.getElem_cons_zero, List.getElem_cons_succ]
        obtain ⟨t3, ht⟩ : ∃ t, t = t2.alloc (fB 0 0 (.slice none 0 0)) := ⟨_, rfl⟩
        change wpAnyH _ _ _ _ _ _ _ _ (t2.alloc (fB 0 0 (.slice none 0 0)))
        rw [← ht]
        have Bt3 := Lib.hid (show Below X.heap.size X t3 by rw [ht]; exact Bt2.out.alloc Bt2.out.size _)
        have Gt3 := Lib.hid (show t3.heap[t2.heap.size]? = some (fB 0 0 (.slice none 0 0)) by rw [ht]; exact new_at1 _ _)
        have hge : X.heap.size ≤ t2.heap.size := Bt2.out.size
        have hS : ∃ x : Grow X, t3 = x.w := ⟨⟨t3, Bt3.out⟩, rfl⟩
        clear ht
        have ff := fB_cell Gt3.out
        have fg := fB_free Gt3.out
        obtain ⟨i0', i1, i2⟩ := ff
        obtain ⟨j0, j1, j2⟩ := fg
        have BL := Lib.hid (show Below X.heap.size X ((((t3.setCell ⟨t2.heap.size, 0, none⟩ (.int .i64 W)).setCell ⟨t2.heap.size, 1, none⟩ (.int .i64 H)).setCell ⟨t2.heap.size, 2, none⟩ (.slice none 0 0))) from (((Bt3.out.setCell hge _).setCell hge _).setCell hge _))
        have ZL := Lib.hid (fB_set3 W H (.slice none 0 0) Gt3.out)
        refine wpAnyH_ready (rs := [10]) (by kernel_rfl) (by simp) ?_
        refine AllReadyH.cons rfl (fun K hK => ?_) AllReadyH.nil
        go_simp
        refine hK.out _ _ ⟨⟨_, BL.out⟩, rfl⟩ (fun hS => ?_)
        clear hK K hS
        try simp only [Act.put, List.setIfInBounds_toArray, List.set_cons_zero, List.set_cons_succ, List.getElem_toArray, List.getElem_cons_zero, List.getElem_cons_succ]
        refine wpAnyH_done (by kernel_rfl) ?_ _
        go_wp2_with fail
        go_meet
        exact ⟨_, rfl, hge, BL.out, ZL.out⟩
      refine AllReadyH.cons rfl (fun K hK => ?_) ?_
      · skip
        go_simp
        refine hK.out _ _ ⟨⟨_, Bt1.out.alloc Bt1.out.size _⟩, rfl⟩ (fun hS => ?_)
        clear hK K hS
        try simp only [Act.put, List.setIfInBounds_toArray, List.set_cons_zero, List.set_cons_succ, List.getElem_toArray, List.getElem_cons_zero, List.getElem_cons_succ]
        obtain ⟨t4, ht⟩ : ∃ t, t = t1.alloc (fB 0 0 (.slice none 0 0)) := ⟨_, rfl⟩
        change wpAnyH _ _ _ _ _ _ _ _ (t1.alloc (fB 0 0 (.slice none 0 0)))
        rw [← ht]
        have Bt4 := Lib.hid (show Below X.heap.size X t4 by rw [ht]; exact Bt1.out.alloc Bt1.out.size _)
        have Gt4 := Lib.hid (show t4.heap[t1.heap.size]? = some (fB 0 0 (.slice none 0 0)) by rw [ht]; exact new_at1 _ _)
        have hge : X.heap.size ≤ t1.heap.size := Bt1.out.size
        have hS : ∃ x : Grow X, t4 = x.w := ⟨⟨t4, Bt4.out⟩, rfl⟩
        clear ht
        refine wpAnyH_ready (rs := [6]) (by kernel_rfl) (by simp) ?_
        refine AllReadyH.cons rfl (fun K hK => ?_) AllReadyH.nil
        go_simp
        with_reducible refine (HH.out _).mono ?_
        rintro e t5 ⟨rfl, hb⟩
        have Bt5 := Lib.hid (bstep Bt4.out Bt4.out.size hb)
        have Gt5 := Lib.hid ((hb.block _ (Array.getElem?_eq_some_iff.1 Gt4.out).1).trans Gt4.out)
        clear hb
        refine hK.out _ _ ⟨⟨_, Bt5.out⟩, rfl⟩ (fun hS => ?_)
        clear hK K
        try simp only [Act.put, List.setIfInBounds_toArray, List.set_cons_zero, List.set_cons_succ, List.getElem_toArray, List.getElem_cons_zero, List.getElem_cons_succ]
        refine wpAnyH_take (i := 7) (v := .int .i64 H) rfl (by kernel_rfl) (by kernel_rfl) (by kernel_rfl) (fun _ _ _ h => h) (Or.inl ⟨by rfl, fun w hw => by obtain ⟨x, rfl⟩ := hw; go_simp⟩) hS ?_
        try simp only [Act.put, List.setIfInBounds_toArray, List.set_cons_zero, List.set_cons_succ, List.getElem_toArray, List.getElem_cons_zero, List.getElem_cons_succ]
        refine wpAnyH_take (i := 8) (v := .agg #[.int .i64 W, .int .i64 H, .slice none 0 0]) rfl (by kernel_rfl) (by kernel_rfl) (by kernel_rfl) (fun _ _ _ h => h) (Or.inl ⟨by rfl, fun w hw => by obtain ⟨x, rfl⟩ := hw; go_simp⟩) hS ?_
        try simp only [Act.put, List.setIfInBounds_toArray, List.set_cons_zero, List.set_cons_succ, List.getElem_toArray, List.getElem_cons_zero, List.getElem_cons_succ]
        have ff := fB_cell Gt5.out
        have fg := fB_free Gt5.out
        obtain ⟨i0', i1, i2⟩ := ff
        obtain ⟨j0, j1, j2⟩ := fg
        have BL := Lib.hid (show Below X.heap.size X ((((t5.setCell ⟨t1.heap.size, 0, none⟩ (.int .i64 W)).setCell ⟨t1.heap.size, 1, none⟩ (.int .i64 H)).setCell ⟨t1.heap.size, 2, none⟩ (.slice none 0 0))) from (((Bt5.out.setCell hge _).setCell hge _).setCell hge _))
        have ZL := Lib.hid (fB_set3 W H (.slice none 0 0) Gt5.out)
        refine wpAnyH_ready (rs := [10]) (by kernel_rfl) (by simp) ?_
        refine AllReadyH.cons rfl (fun K hK => ?_) AllReadyH.nil
        go_simp
        refine hK.out _ _ ⟨⟨_, BL.out⟩, rfl⟩ (fun hS => ?_)
        clear hK K hS
        try simp only [Act.put, List.setIfInBounds_toArray, List.set_cons_zero, List.set_cons_succ, List.getElem_toArray, List.getElem_cons_zero, List.getElem_cons_succ]
        refine wpAnyH_done (by kernel_rfl) ?_ _
        go_wp2_with fail
        go_meet
        exact ⟨_, rfl, hge, BL.out, ZL.out⟩
      exact AllReadyH.nil
    refine AllReadyH.cons rfl (fun K hK => ?_) ?_
    · skip
      go_simp
      refine hK.out _ _ ⟨⟨_, BY.out.alloc BY.out.size _⟩, rfl⟩ (fun hS => ?_)
      clear hK K hS
      try simp only [Act.put, List.setIfInBounds_toArray, List.set_cons_zero, List.set_cons_succ, List.getElem_toArray, List.getElem_cons_zero, List.getElem_cons_succ]
      obtain ⟨t6, ht⟩ : ∃ t, t = Y.alloc (fB 0 0 (.slice none 0 0)) := ⟨_, rfl⟩
      change wpAnyH _ _ _ _ _ _ _ _ (Y.alloc (fB 0 0 (.slice none 0 0)))
      rw [← ht]
      have Bt6 := Lib.hid (show Below X.heap.size X t6 by rw [ht]; exact BY.out.alloc BY.out.size _)
      have Gt6 := Lib.hid (show t6.heap[Y.heap.size]? = some (fB 0 0 (.slice none 0 0)) by rw [ht]; exact new_at1 _ _)
      have hge : X.heap.size ≤ Y.heap.size := BY.out.size
      have hS : ∃ x : Grow X, t6 = x.w := ⟨⟨t6, Bt6.out⟩, rfl⟩
      clear ht
      refine wpAnyH_ready (rs := [2]) (by kernel_rfl) (by simp) ?_
      refine AllReadyH.cons rfl (fun K hK => ?_) AllReadyH.nil
      go_simp
      with_reducible refine (HW.out _).mono ?_
      rintro e t7 ⟨rfl, hb⟩
      have Bt7 := Lib.hid (bstep Bt6.out Bt6.out.size hb)
      have Gt7 := Lib.hid ((hb.block _ (Array.getElem?_eq_some_iff.1 Gt6.out).1).trans Gt6.out)
      clear hb
      refine hK.out _ _ ⟨⟨_, Bt7.out⟩, rfl⟩ (fun hS => ?_)
      clear hK K
      try simp only [Act.put, List.setIfInBounds_toArray, List.set_cons_zero, List.set_cons_succ, List.getElem_toArray, List.getElem_cons_zero, List.getElem_cons_succ]
      refine wpAnyH_take (i := 3) (v := .int .i64 W) rfl (by kernel_rfl) (by kernel_rfl) (by kernel_rfl) (fun _ _ _ h => h) (Or.inl ⟨by rfl, fun w hw => by obtain ⟨x, rfl⟩ := hw; go_simp⟩) hS ?_
      try simp only [Act.put, List.setIfInBounds_toArray, List.set_cons_zero, List.set_cons_succ, List.getElem_toArray, List.getElem_cons_zero, List.getElem_cons_succ]
      refine wpAnyH_ready (rs := [6]) (by kernel_rfl) (by simp) ?_
      refine AllReadyH.cons rfl (fun K hK => ?_) AllReadyH.nil
      go_simp
      with_reducible refine (HH.out _).mono ?_
      rintro e t8 ⟨rfl, hb⟩
      have Bt8 := Lib.hid (bstep Bt7.out Bt7.out.size hb)
      have Gt8 := Lib.hid ((hb.block _ (Array.getElem?_eq_some_iff.1 Gt7.out).1).trans Gt7.out)
      clear hb
      refine hK.out _ _ ⟨⟨_, Bt8.out⟩, rfl⟩ (fun hS => ?_)
      clear hK K
      try simp only [Act.put, List.setIfInBounds_toArray, List.set_cons_zero, List.set_cons_succ, List.getElem_toArray, List.getElem_cons_zero, List.getElem_cons_succ]
      refine wpAnyH_take (i := 7) (v := .int .i64 H) rfl (by kernel_rfl) (by kernel_rfl) (by kernel_rfl) (fun _ _ _ h => h) (Or.inl ⟨by rfl, fun w hw => by obtain ⟨x, rfl⟩ := hw; go_simp⟩) hS ?_
      try simp only [Act.put, List.setIfInBounds_toArray, List.set_cons_zero, List.set_cons_succ, List.getElem_toArray, List.getElem_cons_zero, List.getElem_cons_succ]
      refine wpAnyH_take (i := 8) (v := .agg #[.int .i64 W, .int .i64 H, .slice none 0 0]) rfl (by kernel_rfl) (by kernel_rfl) (by kernel_rfl) (fun _ _ _ h => h) (Or.inl ⟨by rfl, fun w hw => by obtain ⟨x, rfl⟩ := hw; go_simp⟩) hS ?_
      try simp only [Act.put, List.setIfInBounds_toArray, List.set_cons_zero, List.set_cons_succ, List.getElem_toArray, List.getElem_cons_zero, List.getElem_cons_succ]
      have ff := fB_cell Gt8.out
      have fg := fB_free Gt8.out
      obtain ⟨i0', i1, i2⟩ := ff
      obtain ⟨j0, j1, j2⟩ := fg
      have BL := Lib.hid (show Below X.heap.size X ((((t8.setCell ⟨Y.heap.size, 0, none⟩ (.int .i64 W)).setCell ⟨Y.heap.size, 1, none⟩ (.int .i64 H)).setCell ⟨Y.heap.size, 2, none⟩ (.slice none 0 0))) from (((Bt8.out.setCell hge _).setCell hge _).setCell hge _))
      have ZL := Lib.hid (fB_set3 W H (.slice none 0 0) Gt8.out)
      refine wpAnyH_ready (rs := [10]) (by kernel_rfl) (by simp) ?_
      refine AllReadyH.cons rfl (fun K hK => ?_) AllReadyH.nil
      go_simp
      refine hK.out _ _ ⟨⟨_, BL.out⟩, rfl⟩ (fun hS => ?_)
      clear hK K hS
      try simp only [Act.put, List.setIfInBounds_toArray, List.set_cons_zero, List.set_cons_succ, List.getElem_toArray, List.getElem_cons_zero, List.getElem_cons_succ]
      refine wpAnyH_done (by kernel_rfl) ?_ _
      go_wp2_with fail
      go_meet
      exact ⟨_, rfl, hge, BL.out, ZL.out⟩
    exact AllReadyH.nil
  case rest =>
  rename World => V
  obtain ⟨g, rfl, hge, BV, ZV⟩ := hcut
  have BV := Lib.hid BV
  have GV := Lib.hid ZV
  have glt := fB_lt ZV
  have TV := Lib.hid (txB_grow TX.out BV.out)
  have ZR := Lib.hid (fB_keep ZX.out BV.out (fB_lt ZX.out))
  have HV := Lib.hid (bstep H0.out H0.out.size BV.out)
  have l0 : w.heap.size + 1 < X.heap.size := fB_lt ZX.out
  clear BV ZV TX H0 HW HH ZX wp wq
  go_wp2_with fail
  go_loopw [4] (fun i wr => ∃ (k : Nat) (v : Value), (k : Int) ≤ n ∧ i = .int .i64 k ∧ V.heap.size ≤ wr.heap.size ∧ Below w.heap.size w wr ∧ wr.heap[w.heap.size]? = some (txB t A c) ∧ wr.heap[w.heap.size + 1]? = some (fB 0 0 (.slice none 0 0)) ∧ wr.heap[g]? = some (fB W H v) ∧ OwnE EC wr V.heap.size v ((List.range k).map (fitC t.px)))
    (fun i _ => n.toNat - (intOf i).toNat)
  case atStart => exact ⟨0, _, by omega, rfl, Nat.le_refl _, HV.out, TV.out, ZR.out, GV.out, OwnE.nil _ _⟩
  case round =>
    obtain ⟨k, v, hk, rfl, hsz, hB, hT, hR, hG, hO⟩ := hrel
    have HB := Lib.hid hB
    have HT := Lib.hid hT
    have HR := Lib.hid hR
    have HG := Lib.hid hG
    obtain ⟨A1, c1, rfl⟩ := hO.form
    have HO := Lib.hid hO
    obtain ⟨e0, e1, e2⟩ := fB_cell hG
    obtain ⟨f0, f1, f2⟩ := fB_free hG
    have hglt := fB_lt hG
    have l1 : w.heap.size < wr.heap.size := txB_lt hT
    have l2 : w.heap.size + 1 < wr.heap.size := fB_lt hR
    clear hB hT hR hG hO
    by_cases hlt : (k : Int) < n
    · obtain ⟨u, hu⟩ : ∃ u, fitC t.px k = u := ⟨_, rfl⟩
      have HS := Lib.hid (show (List.range (k + 1)).map (fitC t.px) = (List.range k).map (fitC t.px) ++ [u] by rw [range_snoc, hu])
      have hcl : ((List.range k).map (fitC t.px)).length = k := by simp
      generalize (List.range k).map (fitC t.px) = cs at *
      have HC := Lib.hid hcl
      have hc256 : cs.length ≤ 256 := by omega
      clear hcl
      obtain ⟨d0, d1, d2⟩ := txB_cell HT.out
      have g8 : IntKind.u8.wrap ((k : Int) * 16) = ((k : Int) * 16) % 256 := by rw [IntKind.wrap_u8]
      have g9 : IntKind.u8.wrap (k : Int) = (k : Int) % 256 := by rw [IntKind.wrap_u8]
      have O2 := Lib.hid (HO.out.alloc (.cells #[.int .u8 u.r, .int .u8 u.g, .int .u8 u.b, .int .u8 u.a] 23))
      by_cases hlp : (k : Int) < (t.px.length : Int)
      · have hpk : t.px[k]? = some u := by
          have h := List.getElem?_eq_getElem (l := t.px) (i := k) (by omega)
          rw [← hu]
          unfold fitC
          rw [List.getD_eq_getElem?_getD, h]
          rfl
        obtain ⟨b, off, rfl, hbB, hat⟩ := HE.out.at hpk
        obtain ⟨c0, c1', c2, c3⟩ := atC (show AtE EC wr b (off + k * 4) u from hat.below HB.out hbB)
        have hbw := Nat.lt_of_lt_of_le hbB HB.out.size
        clear hat hpk hu
        go_wp2_with (at_builtin; refine wpList_append_own _ rfl _ _ 45 rfl V.heap.size 23 i0 _ 4 4 Tryz.underlying45 HI.out HZ.out.1 HZ.out.2.1 HZ.out.2.2 (by kernel_rfl) (by decide) _ _ (EC.flat cs) rfl (O2.out.alloc _).row _ 1 1 (EC.cells u) rfl rfl (newC_at (by simp)) (EC.one _) (by unfold maxLen; omega) (by omega) (by simp; omega) ?_; intro v' w6 hown' hgrow _; obtain ⟨ho6, hb6⟩ := append_ofE (E := EC) (x := u) O2.out (by simp; omega) hown' hgrow; obtain ⟨A2, c2', rfl⟩ := ho6.form; have O6 := Lib.hid ho6; have B6 := Lib.hid hb6; have F6 := fB_free ((hb6.block g (by omega)).trans (new_keep _ HG.out)); obtain ⟨q0, q1, q2⟩ := F6; have E6 := fB_cell ((hb6.block g (by omega)).trans (new_keep _ HG.out)); obtain ⟨r0, r1, r2⟩ := E6; clear hown' hgrow ho6 hb6)
        go_roundw
        case rel =>
          have hWV : w.heap.size ≤ V.heap.size := HV.out.size
          have hg0 : w.heap.size + 1 < g := by omega
          refine ⟨k + 1, .slice A2 (cs.length + 1) c2', by omega, by go_num, by have := B6.out.size; simp at this ⊢; omega, ((HB.out.alloc HB.out.size _).trans (B6.out.mono hWV)).setCell (by simp; omega) _, ?_, ?_, ?_, ?_⟩
          · rw [heap_setCell_other _ _ _ _ (by simp; omega)]; exact (B6.out.block _ (by omega)).trans (new_keep _ HT.out)
          · rw [heap_setCell_other _ _ _ _ (by simp; omega)]; exact (B6.out.block _ (by omega)).trans (new_keep _ HR.out)
          · exact fB_set2 _ ((B6.out.block _ (by omega)).trans (new_keep _ HG.out))
          · rw [HS.out]; have h := O6.out; rw [List.length_append] at h; exact h.setCell glt
        case measure => simp [intOf]; omega
      · have hpk : u = ⟨((k : Int) * 16) % 256, (k : Int) % 256, 7, 255⟩ := by
          rw [← hu]
          unfold fitC
          rw [List.getD_eq_getElem?_getD, List.getElem?_eq_none (by omega)]
          rfl
        obtain ⟨ur, hur⟩ : ∃ ur, ((k : Int) * 16) % 256 = ur := ⟨_, rfl⟩
        obtain ⟨ug, hug⟩ : ∃ ug, (k : Int) % 256 = ug := ⟨_, rfl⟩
        rw [hur] at hpk g8
        rw [hug] at hpk g9
        have e3 : u.r = ur ∧ u.g = ug ∧ u.b = 7 ∧ u.a = 255 := by rw [hpk]; exact ⟨rfl, rfl, rfl, rfl⟩
        obtain ⟨er, eg, eb, ea⟩ := e3
        have O2 := Lib.hid (HO.out.alloc (.cells #[.int .u8 ur, .int .u8 ug, .int .u8 7, .int .u8 255] 23))
        have NC := Lib.hid (fun (w : World) (g : Nat) (hg : g = w.heap.size) => newC_at (u := u) hg)
        rw [er, eg, eb, ea] at NC
        clear hu hur hug hpk er eg eb ea
        go_wp2_with (at_builtin; refine wpList_append_own _ rfl _ _ 45 rfl V.heap.size 23 i0 _ 4 4 Tryz.underlying45 HI.out HZ.out.1 HZ.out.2.1 HZ.out.2.2 (by kernel_rfl) (by decide) _ _ (EC.flat cs) rfl (O2.out.alloc _).row _ 1 1 (EC.cells u) rfl rfl (NC.out _ _ (by simp)) (EC.one _) (by unfold maxLen; omega) (by omega) (by simp; omega) ?_; intro v' w6 hown' hgrow _; obtain ⟨ho6, hb6⟩ := append_ofE (E := EC) (x := u) O2.out (by simp; omega) hown' hgrow; obtain ⟨A2, c2', rfl⟩ := ho6.form; have O6 := Lib.hid ho6; have B6 := Lib.hid hb6; have F6 := fB_free ((hb6.block g (by omega)).trans (new_keep _ HG.out)); obtain ⟨q0, q1, q2⟩ := F6; have E6 := fB_cell ((hb6.block g (by omega)).trans (new_keep _ HG.out)); obtain ⟨r0, r1, r2⟩ := E6; clear hown' hgrow ho6 hb6)
        go_roundw
        case rel =>
          have hWV : w.heap.size ≤ V.heap.size := HV.out.size
          have hg0 : w.heap.size + 1 < g := by omega
          refine ⟨k + 1, .slice A2 (cs.length + 1) c2', by omega, by go_num, by have := B6.out.size; simp at this ⊢; omega, ((HB.out.alloc HB.out.size _).trans (B6.out.mono hWV)).setCell (by simp; omega) _, ?_, ?_, ?_, ?_⟩
          · rw [heap_setCell_other _ _ _ _ (by simp; omega)]; exact (B6.out.block _ (by omega)).trans (new_keep _ HT.out)
          · rw [heap_setCell_other _ _ _ _ (by simp; omega)]; exact (B6.out.block _ (by omega)).trans (new_keep _ HR.out)
          · exact fB_set2 _ ((B6.out.block _ (by omega)).trans (new_keep _ HG.out))
          · rw [HS.out]; have h := O6.out; rw [List.length_append] at h; exact h.setCell glt
        case measure => simp [intOf]; omega
    · obtain rfl : n = (k : Int) := by omega
      obtain ⟨k0, k1, k2⟩ := fB_cell HR.out
      obtain ⟨j0, j1, j2⟩ := fB_free HR.out
      have hcl : ((List.range k).map (fitC t.px)).length = k := by simp
      have hpx := HPX.out
      rw [Int.toNat_natCast] at hpx
      rw [← hpx] at HO e2
      have hzw : w.heap.size ≤ V.heap.size := HV.out.size
      have hzl : w.heap.size + 1 < V.heap.size := by omega
      clear hpx hcl
      go_wp2
      refine bodyPost_ret (v := .agg #[.int .i64 W, .int .i64 H, .slice A1 PX.length c1]) (by simp [results, Tryz.results34, go_sem, *]) rfl ⟨A1, c1, rfl, ?_, ?_, ?_, ?_⟩
      · obtain ⟨A', c', e, hl, -, -⟩ := HO.out.es
        cases e
        exact hl
      · obtain ⟨A', c', e, -, -, hs⟩ := (((HO.out.setCell (o := 0) (u := .int .i64 W) hzl).setCell (o := 1) (u := .int .i64 H) hzl).setCell (o := 2) (u := .slice A1 PX.length c1) hzl).es
        cases e
        exact hs
      · exact (((HO.out.setCell (o := 0) (u := .int .i64 W) hzl).setCell (o := 1) (u := .int .i64 H) hzl).setCell (o := 2) (u := .slice A1 PX.length c1) hzl).less hzw
      · exact ((HB.out.setCell (by simp) _).setCell (by simp) _).setCell (by simp) _
end Go.Proofs.YtfmmfaeognoleaaGreat
/-
  Instructions; what an Op uses, and the contracts of the program's usesOf, most and numbers.
-/
namespace Go.Proofs.YtfmmfaeognoleaaGreat.C
open Go.RowKit
attribute [local go_sem ↓] Go.wp_at_zero Go.wp_at_succ

abbrev I64 (n : Int) : Prop := -9223372036854775808 ≤ n ∧ n ≤ 9223372036854775807
structure In where
  o : Int
  d : Int
  a : Int
  b : Int
  n : Int
structure In.ok (x : In) : Prop where
  o : 0 ≤ x.o ∧ x.o ≤ 255
  d : 0 ≤ x.d ∧ x.d ≤ 255
  a : 0 ≤ x.a ∧ x.a ≤ 255
  b : 0 ≤ x.b ∧ x.b ≤ 255
  n : I64 x.n
def EI : Elem In where
  t := 76
  size := 5
  cells x := [.int .u8 x.o, .int .u8 x.d, .int .u8 x.a, .int .u8 x.b, .int .i64 x.n]
  pos := by decide
  len _ := rfl
  one x u hu := by
    simp only [List.mem_cons, List.not_mem_nil, or_false] at hu
    rcases hu with rfl | rfl | rfl | rfl | rfl <;> rfl

/-- What an Op uses, a bit each. -/
def us (o : Int) : Int := if o = 0 then 1 else if o = 1 ∨ o = 9 ∨ o = 10 then 3 else if (2 ≤ o ∧ o ≤ 8) ∨ o = 11 then 7 else if o = 12 then 2 else if o = 13 ∨ o = 14 then 15 else 0
theorem ops {o : Int} (h0 : 0 ≤ o) : o = 0 ∨ o = 1 ∨ o = 2 ∨ o = 3 ∨ o = 4 ∨ o = 5 ∨ o = 6 ∨ o = 7 ∨ o = 8 ∨ o = 9 ∨ o = 10 ∨ o = 11 ∨ o = 12 ∨ o = 13 ∨ o = 14 ∨ 14 < o := by omega
set_option maxHeartbeats 1000000 in
theorem uses_any (o : Int) (h0 : 0 ≤ o) (w : World) :
    Calls Tryz.prog 131 #[.int .u8 o] w fun e w' => e = .returned (.int .u8 (us o)) ∧ w = w' := by
  rcases ops h0 with rfl | rfl | rfl | rfl | rfl | rfl | rfl | rfl | rfl | rfl | rfl | rfl | rfl | rfl | rfl | h
  all_goals try (go_enter Tryz.func131, Tryz.ntmps131; go_wp2; go_ret; exact ⟨rfl, rfl⟩)
  have e : us o = 0 := by unfold us; rw [if_neg (by omega), if_neg (by omega), if_neg (by omega), if_neg (by omega), if_neg (by omega)]
  rw [e]
  have k0 : ¬ o = 0 := by omega
  have k1 : ¬ o = 1 := by omega
  have k2 : ¬ o = 2 := by omega
  have k3 : ¬ o = 3 := by omega
  have k4 : ¬ o = 4 := by omega
  have k5 : ¬ o = 5 := by omega
  have k6 : ¬ o = 6 := by omega
  have k7 : ¬ o = 7 := by omega
  have k8 : ¬ o = 8 := by omega
  have k9 : ¬ o = 9 := by omega
  have k10 : ¬ o = 10 := by omega
  have k11 : ¬ o = 11 := by omega
  have k12 : ¬ o = 12 := by omega
  have k13 : ¬ o = 13 := by omega
  have k14 : ¬ o = 14 := by omega
  clear h h0 e
  go_enter Tryz.func131, Tryz.ntmps131
  go_wp2
  go_ret
  exact ⟨rfl, rfl⟩

/-- The greatest of a register. -/
def ms (u r : Int) : Int := if r = 1 then (if u = 15 then 4 else if u = 2 then 0 else 7) else if r = 2 then (if u = 1 then 0 else 7) else (if u = 7 ∨ u = 15 then 7 else 0)
set_option maxHeartbeats 1000000 in
theorem most_any (u r : Int) (hu : u = 1 ∨ u = 2 ∨ u = 3 ∨ u = 7 ∨ u = 15) (hr : r = 1 ∨ r = 2 ∨ r = 4) (w : World) :
    Calls Tryz.prog 133 #[.int .u8 u, .int .u8 r] w fun e w' => e = .returned (.int .u8 (ms u r)) ∧ w = w' := by
  rcases hu with rfl | rfl | rfl | rfl | rfl <;> rcases hr with rfl | rfl | rfl
  all_goals (go_enter Tryz.func133, Tryz.ntmps133; go_wp2; go_ret; exact ⟨rfl, rfl⟩)

/-- The least and the greatest N. -/
def lo (o : Int) : Int := if o = 0 then -2147483648 else 0
def hi (o k : Int) : Int := if o = 0 then 2147483647 else if o = 9 ∨ o = 10 then 31 else if o = 12 then k else 0
set_option maxHeartbeats 1000000 in
theorem numbers_any (o k : Int) (w : World) :
    Calls Tryz.prog 132 #[.int .u8 o, .int .i64 k] w fun e w' => e = .returned (.tuple #[.int .i64 (lo o), .int .i64 (hi o k)]) ∧ w = w' := by
  by_cases k0 : o = 0
  · subst k0
    go_enter Tryz.func132, Tryz.ntmps132
    go_wp2
    go_ret2
    exact ⟨rfl, rfl⟩
  by_cases k1 : o = 9
  · subst k1
    go_enter Tryz.func132, Tryz.ntmps132
    go_wp2
    go_ret2
    exact ⟨rfl, rfl⟩
  by_cases k2 : o = 10
  · subst k2
    go_enter Tryz.func132, Tryz.ntmps132
    go_wp2
    go_ret2
    exact ⟨rfl, rfl⟩
  by_cases k3 : o = 12
  · subst k3
    go_enter Tryz.func132, Tryz.ntmps132
    go_wp2
    go_ret2
    exact ⟨rfl, rfl⟩
  have e : lo o = 0 := by unfold lo; rw [if_neg k0]
  have e' : hi o k = 0 := by unfold hi; rw [if_neg k0, if_neg (by omega), if_neg k3]
  rw [e, e']
  clear e e'
  go_enter Tryz.func132, Tryz.ntmps132
  go_wp2
  go_ret2
  exact ⟨rfl, rfl⟩
end Go.Proofs.YtfmmfaeognoleaaGreat.C
/-
  The contract of the program's One.
-/
namespace Go.Proofs.YtfmmfaeognoleaaGreat.C
open Go.RowKit
attribute [local go_sem ↓] Go.wp_at_zero Go.wp_at_succ

theorem Grow.same {P : Program} {f : FuncId} {args : Array Value} {w : World} {x : Grow w} {v : Value}
    (h : Calls P f args x.w fun e w' => e = .returned v ∧ x.w = w') : Calls P f args x.w fun e w'' => e = .returned v ∧ ∃ y : Grow w, w'' = y.w :=
  h.mono fun _ _ ⟨he, hb⟩ => ⟨he, x, hb.symm⟩
theorem new_at1 (w : World) (o : Obj) : (w.alloc o).heap[w.heap.size]? = some o := heap_alloc_new _ _
theorem new_below (w : World) (o : Obj) : Below w.heap.size w (w.alloc o) := (Below.refl _ _).alloc (Nat.le_refl _) _
abbrev inB (x : In) : Obj := .cells #[.int .u8 x.o, .int .u8 x.d, .int .u8 x.a, .int .u8 x.b, .int .i64 x.n] 76
theorem inB_cell {w : World} {g : Nat} {x : In} (h : w.heap[g]? = some (inB x)) : w.cell? ⟨g, 0, none⟩ = some (.int .u8 x.o) ∧ w.cell? ⟨g, 1, none⟩ = some (.int .u8 x.d) ∧ w.cell? ⟨g, 2, none⟩ = some (.int .u8 x.a) ∧ w.cell? ⟨g, 3, none⟩ = some (.int .u8 x.b) ∧ w.cell? ⟨g, 4, none⟩ = some (.int .i64 x.n) := by
  refine ⟨?_, ?_, ?_, ?_, ?_⟩ <;> (rw [cell_of_row w g _ _ 76 (0, 0) h]; rfl)

def oneB (x : In) (at' n : Int) : Bool := decide (us x.o ≠ 0 ∧ 0 ≤ at' ∧ at' < n ∧ x.d ≤ ms (us x.o) 1 ∧ x.a ≤ ms (us x.o) 2 ∧ x.b ≤ ms (us x.o) 4 ∧ lo x.o ≤ x.n ∧ x.n ≤ hi x.o (n - at' - 1))
theorem us_in (o : Int) (h : us o ≠ 0) : us o = 1 ∨ us o = 2 ∨ us o = 3 ∨ us o = 7 ∨ us o = 15 := by
  unfold us at h ⊢
  split
  · simp
  · split
    · simp
    · split
      · simp
      · split
        · simp
        · split
          · simp
          · rename_i h1 h2 h3 h4 h5
            rw [if_neg h1, if_neg h2, if_neg h3, if_neg h4, if_neg h5] at h
            exact absurd rfl h

set_option maxRecDepth 100000 in
set_option maxHeartbeats 4000000 in
theorem one_any (x : In) (i n : Int) (hx : x.ok) (hi' : I64 i) (hn : I64 n) (w : World) :
    Calls Tryz.prog 112 #[.agg #[.int .u8 x.o, .int .u8 x.d, .int .u8 x.a, .int .u8 x.b, .int .i64 x.n], .int .i64 i, .int .i64 n] w fun e w' => e = .returned (.bool (oneB x i n)) ∧ Below w.heap.size w w' := by
  have HU := Lib.hid (uses_any x.o hx.o.1)
  have hN := numbers_any x.o (n - i - 1)
  have hM := most_any (us x.o)
  have hin := us_in x.o
  unfold oneB
  generalize us x.o = U at *
  obtain ⟨L, hL⟩ : ∃ L, lo x.o = L := ⟨_, rfl⟩
  obtain ⟨H, hH⟩ : ∃ H, hi x.o (n - i - 1) = H := ⟨_, rfl⟩
  rw [hL, hH] at hN ⊢
  clear hL hH hx
  have HB := Lib.hid (new_below w (inB x))
  have HG := Lib.hid (new_at1 w (inB x))
  by_cases hU : U = 0
  · rw [decide_eq_false (by omega)]
    subst hU
    go_enter Tryz.func112, Tryz.ntmps112
    go_wp2_with fail
    have d0 := inB_cell HG.out
    obtain ⟨c0, c1, c2, c3, c4⟩ := d0
    go_wp2_with (go_at_call 131; (with_reducible refine (HU.out _).mono ?_); rintro e w' ⟨rfl, rfl⟩)
    go_ret
    exact ⟨rfl, HB.out⟩
  replace hM := fun r => hM r (hin hU)
  clear hin
  by_cases h0 : i < 0
  · rw [decide_eq_false (by omega)]
    go_enter Tryz.func112, Tryz.ntmps112
    go_wp2_with fail
    have d0 := inB_cell HG.out
    obtain ⟨c0, c1, c2, c3, c4⟩ := d0
    go_wp2_with (go_at_call 131; (with_reducible refine (HU.out _).mono ?_); rintro e w' ⟨rfl, rfl⟩)
    go_ret
    exact ⟨rfl, HB.out⟩
  by_cases h1 : n ≤ i
  · rw [decide_eq_false (by omega)]
    go_enter Tryz.func112, Tryz.ntmps112
    go_wp2_with fail
    have d0 := inB_cell HG.out
    obtain ⟨c0, c1, c2, c3, c4⟩ := d0
    go_wp2_with (go_at_call 131; (with_reducible refine (HU.out _).mono ?_); rintro e w' ⟨rfl, rfl⟩)
    go_ret
    exact ⟨rfl, HB.out⟩
  have f0 : (U == 0) = false := by simpa using hU
  have f1 : decide (i < 0) = false := decide_eq_false h0
  have f2 : decide (n ≤ i) = false := decide_eq_false h1
  obtain ⟨k, hk⟩ : ∃ k, n - i = k := ⟨_, rfl⟩
  obtain ⟨j, hj⟩ : ∃ j, k - 1 = j := ⟨_, rfl⟩
  have g1 : IntKind.i64.wrap (n - i) = k := by rw [hk, IntKind.wrap_i64]; omega
  have g2 : IntKind.i64.wrap (k - 1) = j := by rw [hj, IntKind.wrap_i64]; omega
  have e0 : n - i - 1 = j := by omega
  rw [e0] at hN
  have M1 := hM 1 (by simp)
  have M2 := hM 2 (by simp)
  have M4 := hM 4 (by simp)
  clear hM hi' hn
  generalize ms U 1 = D at *
  generalize ms U 2 = A at *
  generalize ms U 4 = B at *
  obtain ⟨r, hr⟩ : ∃ r, decide (U ≠ 0 ∧ 0 ≤ i ∧ i < n ∧ x.d ≤ D ∧ x.a ≤ A ∧ x.b ≤ B ∧ L ≤ x.n ∧ x.n ≤ H) = r := ⟨_, rfl⟩
  rw [hr]
  have ways : (decide (x.d ≤ D) = false ∧ r = false) ∨ (decide (x.d ≤ D) = true ∧ decide (x.a ≤ A) = false ∧ r = false) ∨ (decide (x.d ≤ D) = true ∧ decide (x.a ≤ A) = true ∧ decide (x.b ≤ B) = false ∧ r = false) ∨ (decide (x.d ≤ D) = true ∧ decide (x.a ≤ A) = true ∧ decide (x.b ≤ B) = true ∧ decide (L ≤ x.n) = false ∧ r = false) ∨ (decide (x.d ≤ D) = true ∧ decide (x.a ≤ A) = true ∧ decide (x.b ≤ B) = true ∧ decide (L ≤ x.n) = true ∧ decide (x.n ≤ H) = false ∧ r = false) ∨ (decide (x.d ≤ D) = true ∧ decide (x.a ≤ A) = true ∧ decide (x.b ≤ B) = true ∧ decide (L ≤ x.n) = true ∧ decide (x.n ≤ H) = true ∧ r = true) := by
    subst hr
    simp only [decide_eq_true_eq, decide_eq_false_iff_not]
    omega
  replace hr := Lib.hid hr
  replace hN := Lib.hid hN
  replace hk := Lib.hid hk
  replace hj := Lib.hid hj
  replace M1 := Lib.hid M1
  replace M2 := Lib.hid M2
  replace M4 := Lib.hid M4
  clear e0 hk hj hr
  replace ways := Lib.hid ways
  go_enter Tryz.func112, Tryz.ntmps112
  go_wp2_with fail
  have d0 := inB_cell HG.out
  obtain ⟨c0, c1, c2, c3, c4⟩ := d0
  go_wp2_with (first | (go_at_call 131; (with_reducible refine (HU.out _).mono ?_); rintro e w' ⟨rfl, rfl⟩) | (go_at_call 132; (with_reducible refine (hN.out _).mono ?_); rintro e w' ⟨rfl, rfl⟩))
  have ne1 := Grow.ne (w.alloc (inB x))
  have y1 : ∀ z : Grow (w.alloc (inB x)), z.w.cell? ⟨w.heap.size, 1, none⟩ = some (.int .u8 x.d) := fun z => z.cell c1
  have y2 : ∀ z : Grow (w.alloc (inB x)), z.w.cell? ⟨w.heap.size, 2, none⟩ = some (.int .u8 x.a) := fun z => z.cell c2
  have y3 : ∀ z : Grow (w.alloc (inB x)), z.w.cell? ⟨w.heap.size, 3, none⟩ = some (.int .u8 x.b) := fun z => z.cell c3
  have y4 : ∀ z : Grow (w.alloc (inB x)), z.w.cell? ⟨w.heap.size, 4, none⟩ = some (.int .i64 x.n) := fun z => z.cell c4
  have B0 : Below w.heap.size w (w.alloc (inB x)) := HB.out
  have HB0 := Lib.hid B0
  clear c0 c1 c2 c3 c4 g1 g2 HU hN HG HB B0
  generalize w.alloc (inB x) = X at *
  obtain ⟨h, rfl⟩ | ⟨h, h', rfl⟩ | ⟨h, h', h2, rfl⟩ | ⟨h, h', h2, h3, rfl⟩ | ⟨h, h', h2, h3, h4, rfl⟩ | ⟨h, h', h2, h3, h4, rfl⟩ := ways.out
  all_goals
    clear ways
    refine wp_region_grow (by kernel_rfl) (by kernel_rfl) ?_
    repeat (first | go_big_quiet_skip | go_big_quiet_step (first | (go_at_call 133; with_reducible exact Grow.same (M1.out _)) | (go_at_call 133; with_reducible exact Grow.same (M2.out _)) | (go_at_call 133; with_reducible exact Grow.same (M4.out _))))
    refine wpQuiet_nil ?_
    rintro _ ⟨z, rfl⟩
    have B7 := Lib.hid (bstep HB0.out HB0.out.size z.below)
    clear y1 y2 y3 y4 ne1 M1 M2 M4
    generalize z.w = Y at *
    clear z
    go_wp2_with fail
    go_ret
    exact ⟨rfl, B7.out⟩
end Go.Proofs.YtfmmfaeognoleaaGreat.C
