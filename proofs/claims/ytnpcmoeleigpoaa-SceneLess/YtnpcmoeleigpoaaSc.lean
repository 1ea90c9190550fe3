/-
  Scenes: rows whose elements lead to other rows, what a scene's value is, what its slices read, and the block that holds one.
-/
import Derived.Test.YtnpcmoeleigpoaaFit
import Derived.Test.YtnpcmoeleigpoaaCFit3
import Derived.Test.YtnpcmoeleigpoaaURefB
namespace Go.Proofs.Ytnpcmoeleigpoaa
open Go.RowKit
attribute [local go_sem ↓] Go.wp_at_zero Go.wp_at_succ

/-- What lies somewhere: its slice begins at A and has room for c. -/
structure Lo (α : Type) where
  x : α
  A : Option Addr
  c : Nat
structure Tr where
  i : Int
  a : Int
  b : Int
  c : Int
structure Dr where
  id : Int
  prog : Int
  tex : Int
  op : Bool
  tris : List Tr
def EV : Elem U.V where
  t := 50
  size := 8
  cells v := [.int .i64 v.x, .int .i64 v.y, .int .i64 v.z, .int .i64 v.w, .int .i64 v.a, .int .i64 v.b, .int .i64 v.c, .int .i64 v.d]
  pos := by decide
  len _ := rfl
  one v u hu := by
    simp only [List.mem_cons, List.not_mem_nil, or_false] at hu
    rcases hu with rfl | rfl | rfl | rfl | rfl | rfl | rfl | rfl <;> rfl
def ET : Elem (Lo Tx) where
  t := 53
  size := 3
  cells l := [.int .i64 l.x.w, .int .i64 l.x.h, .slice l.A l.x.px.length l.c]
  pos := by decide
  len _ := rfl
  one v u hu := by
    simp only [List.mem_cons, List.not_mem_nil, or_false] at hu
    rcases hu with rfl | rfl | rfl <;> rfl
def EP : Elem (Lo (List C.In)) where
  t := 54
  size := 1
  cells l := [.slice l.A l.x.length l.c]
  pos := by decide
  len _ := rfl
  one v u hu := by
    simp only [List.mem_cons, List.not_mem_nil, or_false] at hu
    rcases hu with rfl <;> rfl
def ER : Elem Tr where
  t := 47
  size := 4
  cells t := [.int .i64 t.i, .int .i64 t.a, .int .i64 t.b, .int .i64 t.c]
  pos := by decide
  len _ := rfl
  one v u hu := by
    simp only [List.mem_cons, List.not_mem_nil, or_false] at hu
    rcases hu with rfl | rfl | rfl | rfl <;> rfl
def ED : Elem (Lo Dr) where
  t := 42
  size := 5
  cells l := [.int .i64 l.x.id, .int .i64 l.x.prog, .int .i64 l.x.tex, .bool l.x.op, .slice l.A l.x.tris.length l.c]
  pos := by decide
  len _ := rfl
  one v u hu := by
    simp only [List.mem_cons, List.not_mem_nil, or_false] at hu
    rcases hu with rfl | rfl | rfl | rfl | rfl <;> rfl
def EN : Elem Int where
  t := 3
  size := 1
  cells n := [.int .i64 n]
  pos := by decide
  len _ := rfl
  one v u hu := by
    simp only [List.mem_cons, List.not_mem_nil, or_false] at hu
    rcases hu with rfl <;> rfl
theorem atV {w : World} {b o : Nat} {v : U.V} (h : AtE EV w b o v) : w.cell? ⟨b, o, none⟩ = some (.int .i64 v.x) ∧ w.cell? ⟨b, o + 1, none⟩ = some (.int .i64 v.y) ∧ w.cell? ⟨b, o + 2, none⟩ = some (.int .i64 v.z) ∧ w.cell? ⟨b, o + 3, none⟩ = some (.int .i64 v.w) ∧ w.cell? ⟨b, o + 4, none⟩ = some (.int .i64 v.a) ∧ w.cell? ⟨b, o + 5, none⟩ = some (.int .i64 v.b) ∧ w.cell? ⟨b, o + 6, none⟩ = some (.int .i64 v.c) ∧ w.cell? ⟨b, o + 7, none⟩ = some (.int .i64 v.d) :=
  ⟨h 0 _ rfl, h 1 _ rfl, h 2 _ rfl, h 3 _ rfl, h 4 _ rfl, h 5 _ rfl, h 6 _ rfl, h 7 _ rfl⟩
theorem atT {w : World} {b o : Nat} {l : Lo Tx} (h : AtE ET w b o l) : w.cell? ⟨b, o, none⟩ = some (.int .i64 l.x.w) ∧ w.cell? ⟨b, o + 1, none⟩ = some (.int .i64 l.x.h) ∧ w.cell? ⟨b, o + 2, none⟩ = some (.slice l.A l.x.px.length l.c) :=
  ⟨h 0 _ rfl, h 1 _ rfl, h 2 _ rfl⟩
theorem atP {w : World} {b o : Nat} {l : Lo (List C.In)} (h : AtE EP w b o l) : w.cell? ⟨b, o, none⟩ = some (.slice l.A l.x.length l.c) := h 0 _ rfl
theorem atR {w : World} {b o : Nat} {t : Tr} (h : AtE ER w b o t) : w.cell? ⟨b, o, none⟩ = some (.int .i64 t.i) ∧ w.cell? ⟨b, o + 1, none⟩ = some (.int .i64 t.a) ∧ w.cell? ⟨b, o + 2, none⟩ = some (.int .i64 t.b) ∧ w.cell? ⟨b, o + 3, none⟩ = some (.int .i64 t.c) :=
  ⟨h 0 _ rfl, h 1 _ rfl, h 2 _ rfl, h 3 _ rfl⟩
theorem atD {w : World} {b o : Nat} {l : Lo Dr} (h : AtE ED w b o l) : w.cell? ⟨b, o, none⟩ = some (.int .i64 l.x.id) ∧ w.cell? ⟨b, o + 1, none⟩ = some (.int .i64 l.x.prog) ∧ w.cell? ⟨b, o + 2, none⟩ = some (.int .i64 l.x.tex) ∧ w.cell? ⟨b, o + 3, none⟩ = some (.bool l.x.op) ∧ w.cell? ⟨b, o + 4, none⟩ = some (.slice l.A l.x.tris.length l.c) :=
  ⟨h 0 _ rfl, h 1 _ rfl, h 2 _ rfl, h 3 _ rfl, h 4 _ rfl⟩
theorem atN {w : World} {b o : Nat} {n : Int} (h : AtE EN w b o n) : w.cell? ⟨b, o, none⟩ = some (.int .i64 n) := h 0 _ rfl

/-- A scene, with where its rows lie. -/
structure Sc where
  w : Int
  h : Int
  k : Col
  vs : List U.V
  vA : Option Addr
  vc : Nat
  ts : List (Lo Tx)
  tA : Option Addr
  tc : Nat
  ps : List (Lo (List C.In))
  pA : Option Addr
  pc : Nat
  ds : List (Lo Dr)
  dA : Option Addr
  dc : Nat
/-- Its slices read so, below block B. -/
structure Sc.at (s : Sc) (w : World) (B : Nat) : Prop where
  v : Es EV w B s.vA s.vs
  t : Es ET w B s.tA s.ts
  tx : ∀ l ∈ s.ts, Es EC w B l.A l.x.px
  p : Es EP w B s.pA s.ps
  px : ∀ l ∈ s.ps, Es C.EI w B l.A l.x
  d : Es ED w B s.dA s.ds
  dx : ∀ l ∈ s.ds, Es ER w B l.A l.x.tris
structure Tr.ok (t : Tr) : Prop where
  i : I64 t.i
  a : I64 t.a
  b : I64 t.b
  c : I64 t.c
structure Dr.ok (d : Dr) : Prop where
  id : I64 d.id
  prog : I64 d.prog
  tex : I64 d.tex
  tris : ∀ t ∈ d.tris, t.ok
structure Sc.ok (s : Sc) : Prop where
  w : I64 s.w
  h : I64 s.h
  k : s.k.ok
  vs : ∀ v ∈ s.vs, v.i64
  ts : ∀ l ∈ s.ts, I64 l.x.w ∧ I64 l.x.h ∧ l.x.ok ∧ l.x.px.length ≤ l.c
  ps : ∀ l ∈ s.ps, (∀ x ∈ l.x, x.ok) ∧ l.x.length ≤ l.c
  ds : ∀ l ∈ s.ds, l.x.ok ∧ l.x.tris.length ≤ l.c
  vc : s.vs.length ≤ s.vc
  tc : s.ts.length ≤ s.tc
  pc : s.ps.length ≤ s.pc
  dc : s.ds.length ≤ s.dc
/-- Not too much of anything. -/
structure Sc.few (s : Sc) : Prop where
  vs : s.vs.length ≤ 1000
  ts : s.ts.length ≤ 1000
  tx : ∀ l ∈ s.ts, l.x.px.length ≤ 1000
  ps : s.ps.length ≤ 1000
  px : ∀ l ∈ s.ps, l.x.length ≤ 1000
  ds : s.ds.length ≤ 1000
  dx : ∀ l ∈ s.ds, l.x.tris.length ≤ 1000
section
variable {s : Sc} {w w' : World} {B B' g : Nat}
theorem Sc.at.below (h : s.at w B) (hb : Below B w w') : s.at w' B :=
  ⟨h.v.below hb, h.t.below hb, fun l hl => (h.tx l hl).below hb, h.p.below hb, fun l hl => (h.px l hl).below hb, h.d.below hb, fun l hl => (h.dx l hl).below hb⟩
theorem Sc.at.more (h : s.at w B) (hB : B ≤ B') : s.at w B' :=
  ⟨h.v.more hB, h.t.more hB, fun l hl => (h.tx l hl).more hB, h.p.more hB, fun l hl => (h.px l hl).more hB, h.d.more hB, fun l hl => (h.dx l hl).more hB⟩
theorem Sc.at.sharp (h : s.at w B) : s.at w w.heap.size :=
  ⟨h.v.sharp, h.t.sharp, fun l hl => (h.tx l hl).sharp, h.p.sharp, fun l hl => (h.px l hl).sharp, h.d.sharp, fun l hl => (h.dx l hl).sharp⟩
/-- The block that holds a scene. -/
def scB (s : Sc) : Obj := .cells #[.int .i64 s.w, .int .i64 s.h, .int .u8 s.k.r, .int .u8 s.k.g, .int .u8 s.k.b, .int .u8 s.k.a, .slice s.vA s.vs.length s.vc, .slice s.tA s.ts.length s.tc, .slice s.pA s.ps.length s.pc, .slice s.dA s.ds.length s.dc] 29 (0, 0)
theorem scB_cell (h : w.heap[g]? = some (scB s)) : w.cell? ⟨g, 0, none⟩ = some (.int .i64 s.w) ∧ w.cell? ⟨g, 1, none⟩ = some (.int .i64 s.h) ∧ w.cell? ⟨g, 2, none⟩ = some (.int .u8 s.k.r) ∧ w.cell? ⟨g, 3, none⟩ = some (.int .u8 s.k.g) ∧ w.cell? ⟨g, 4, none⟩ = some (.int .u8 s.k.b) ∧ w.cell? ⟨g, 5, none⟩ = some (.int .u8 s.k.a) ∧ w.cell? ⟨g, 6, none⟩ = some (.slice s.vA s.vs.length s.vc) ∧ w.cell? ⟨g, 7, none⟩ = some (.slice s.tA s.ts.length s.tc) ∧ w.cell? ⟨g, 8, none⟩ = some (.slice s.pA s.ps.length s.pc) ∧ w.cell? ⟨g, 9, none⟩ = some (.slice s.dA s.ds.length s.dc) := by
  unfold scB at h
  exact ⟨Joins.cell_of_block h 0, Joins.cell_of_block h 1, Joins.cell_of_block h 2, Joins.cell_of_block h 3, Joins.cell_of_block h 4, Joins.cell_of_block h 5, Joins.cell_of_block h 6, Joins.cell_of_block h 7, Joins.cell_of_block h 8, Joins.cell_of_block h 9⟩
theorem scB_free (h : w.heap[g]? = some (scB s)) : ∀ o, w.frozen? ⟨g, o, none⟩ = false := by
  unfold scB at h
  intro o
  simp [World.frozen?, h]
theorem scB_lt (h : w.heap[g]? = some (scB s)) : g < w.heap.size := (Array.getElem?_eq_some_iff.1 h).1
theorem scB_keep (h : w.heap[g]? = some (scB s)) (k : Below B w w') (hg : g < B) : w'.heap[g]? = some (scB s) := (k.block _ hg).trans h
theorem scB_alloc (o : Obj) (h : w.heap[g]? = some (scB s)) : (w.alloc o).heap[g]? = some (scB s) := (Below.heap_alloc _ _ _ (scB_lt h)).trans h
end
/-- The block that holds a draw. -/
def drB (l : Lo Dr) : Obj := .cells #[.int .i64 l.x.id, .int .i64 l.x.prog, .int .i64 l.x.tex, .bool l.x.op, .slice l.A l.x.tris.length l.c] 42 (0, 0)
theorem drB_cell {w : World} {g : Nat} {l : Lo Dr} (h : w.heap[g]? = some (drB l)) : w.cell? ⟨g, 0, none⟩ = some (.int .i64 l.x.id) ∧ w.cell? ⟨g, 1, none⟩ = some (.int .i64 l.x.prog) ∧ w.cell? ⟨g, 2, none⟩ = some (.int .i64 l.x.tex) ∧ w.cell? ⟨g, 3, none⟩ = some (.bool l.x.op) ∧ w.cell? ⟨g, 4, none⟩ = some (.slice l.A l.x.tris.length l.c) := by
  unfold drB at h
  exact ⟨Joins.cell_of_block h 0, Joins.cell_of_block h 1, Joins.cell_of_block h 2, Joins.cell_of_block h 3, Joins.cell_of_block h 4⟩
theorem drB_free {w : World} {g : Nat} {l : Lo Dr} (h : w.heap[g]? = some (drB l)) : ∀ o, w.frozen? ⟨g, o, none⟩ = false := by
  unfold drB at h
  intro o
  simp [World.frozen?, h]
theorem drB_lt {w : World} {g : Nat} {l : Lo Dr} (h : w.heap[g]? = some (drB l)) : g < w.heap.size := (Array.getElem?_eq_some_iff.1 h).1
theorem new_below (w : World) (o : Obj) : Below w.heap.size w (w.alloc o) := (Below.refl _ _).alloc (Nat.le_refl _) _
theorem get_lt {α : Type} {l : List α} {k : Nat} (h : k < l.length) : ∃ u, l[k]? = some u := ⟨_, List.getElem?_eq_getElem h⟩
end Go.Proofs.Ytnpcmoeleigpoaa
