/-
  The contracts of glazierref04.Fit (a vertex that may be, of any one) and of the example at the head of all statements.
-/
import Derived.Test.YtfmmfaeognoleaaM2
import Derived.Test.YtfmmfaeognoleaaM1
import Derived.Maps.OwnSet
namespace Go.Proofs.Ytfmmfaeognoleaa.U
open Go.RowKit
attribute [local go_sem ↓] Go.wp_at_zero Go.wp_at_succ
attribute [local go_sem high] eql36
attribute [local go_sem] guard36

/-- Numbers that an int holds. -/
structure V.i64 (v : V) : Prop where
  x : -9223372036854775808 ≤ v.x ∧ v.x ≤ 9223372036854775807
  y : -9223372036854775808 ≤ v.y ∧ v.y ≤ 9223372036854775807
  z : -9223372036854775808 ≤ v.z ∧ v.z ≤ 9223372036854775807
  w : -9223372036854775808 ≤ v.w ∧ v.w ≤ 9223372036854775807
  a : -9223372036854775808 ≤ v.a ∧ v.a ≤ 9223372036854775807
  b : -9223372036854775808 ≤ v.b ∧ v.b ≤ 9223372036854775807
  c : -9223372036854775808 ≤ v.c ∧ v.c ≤ 9223372036854775807
  d : -9223372036854775808 ≤ v.d ∧ v.d ≤ 9223372036854775807

set_option maxRecDepth 100000 in
theorem tmod_bd (n m : Int) (hm : 0 < m) : -m < n.tmod m ∧ n.tmod m < m :=
  ⟨Int.lt_tmod_of_pos n hm, Int.tmod_lt_of_pos n hm⟩

def fitW (n : Int) : Int := 1 + (if n.tmod 32768 < 0 then -(n.tmod 32768) else n.tmod 32768)
def fitV (v : V) : V := ⟨v.x.tmod 32769, v.y.tmod 32769, v.z.tmod 32769, fitW v.w, v.a.tmod 4097, v.b.tmod 4097, v.c.tmod 4097, v.d.tmod 4097⟩
set_option maxRecDepth 100000 in
theorem fitV_ok (v : V) : (fitV v).ok := by
  have hx := tmod_bd v.x 32769 (by decide)
  have hy := tmod_bd v.y 32769 (by decide)
  have hz := tmod_bd v.z 32769 (by decide)
  have hw := tmod_bd v.w 32768 (by decide)
  have ha := tmod_bd v.a 4097 (by decide)
  have hb := tmod_bd v.b 4097 (by decide)
  have hc := tmod_bd v.c 4097 (by decide)
  have hd := tmod_bd v.d 4097 (by decide)
  refine ⟨?_, ?_, ?_, ?_, ?_, ?_, ?_, ?_⟩ <;> simp only [fitV, fitW] <;> (try split) <;> omega

set_option maxRecDepth 100000 in
set_option maxHeartbeats 2000000 in
theorem fit_any (v : V) (w : World) :
    Calls Try.prog 13 #[.agg #[.int .i64 v.x, .int .i64 v.y, .int .i64 v.z, .int .i64 v.w, .int .i64 v.a, .int .i64 v.b, .int .i64 v.c, .int .i64 v.d]] w fun e w' => e = .returned (.agg #[.int .i64 (fitV v).x, .int .i64 (fitV v).y, .int .i64 (fitV v).z, .int .i64 (fitV v).w, .int .i64 (fitV v).a, .int .i64 (fitV v).b, .int .i64 (fitV v).c, .int .i64 (fitV v).d]) ∧ Below w.heap.size w w' := by
  have hw := tmod_bd v.w 32768 (by decide)
  have hb : ∀ o o' o'', Below w.heap.size w (((w.alloc o).alloc o').alloc o'') := fun o o' o'' => (((Below.refl _ _).alloc (Nat.le_refl _) o).alloc (by simp) o').alloc (by simp; omega) o''
  have HB := Lib.hid hb
  clear hb
  by_cases hneg : v.w.tmod 32768 < 0
  · have hfw : fitW v.w = 1 + -(v.w.tmod 32768) := by unfold fitW; rw [if_pos hneg]
    go_enter Try.func13, Try.ntmps13
    go_wp2
    refine wp_loop_rounds 5 ?_
    rw [rounds_succ]
    go_wp2
    rw [rounds_succ]
    go_wp2
    rw [rounds_succ]
    go_wp2
    rw [rounds_succ]
    go_wp2
    rw [rounds_succ]
    go_wp2
    refine bodyPost_ret (v := .agg #[.int .i64 (fitV v).x, .int .i64 (fitV v).y, .int .i64 (fitV v).z, .int .i64 (fitV v).w, .int .i64 (fitV v).a, .int .i64 (fitV v).b, .int .i64 (fitV v).c, .int .i64 (fitV v).d]) (by simp [results, Try.results13, go_sem, fitV, hfw]) rfl ⟨rfl, ?_⟩
    exact HB.out _ _ _
  · have hfw : fitW v.w = 1 + v.w.tmod 32768 := by unfold fitW; rw [if_neg hneg]
    go_enter Try.func13, Try.ntmps13
    go_wp2
    refine wp_loop_rounds 5 ?_
    rw [rounds_succ]
    go_wp2
    rw [rounds_succ]
    go_wp2
    rw [rounds_succ]
    go_wp2
    rw [rounds_succ]
    go_wp2
    rw [rounds_succ]
    go_wp2
    refine bodyPost_ret (v := .agg #[.int .i64 (fitV v).x, .int .i64 (fitV v).y, .int .i64 (fitV v).z, .int .i64 (fitV v).w, .int .i64 (fitV v).a, .int .i64 (fitV v).b, .int .i64 (fitV v).c, .int .i64 (fitV v).d]) (by simp [results, Try.results13, go_sem, fitV, hfw]) rfl ⟨rfl, ?_⟩
    exact HB.out _ _ _
end Go.Proofs.Ytfmmfaeognoleaa.U
/-
  The contracts of glazierref04's Dist, Small and Right.
-/
namespace Go.Proofs.Ytfmmfaeognoleaa.U
open Go.RowKit
attribute [local go_sem ↓] Go.wp_at_zero Go.wp_at_succ

end Go.Proofs.Ytfmmfaeognoleaa.U
/-
  Scenes: rows whose elements lead to other rows, what a scene's value is, what its slices read, and the block that holds one.
-/
namespace Go.Proofs.Ytfmmfaeognoleaa
open Go.RowKit
attribute [local go_sem ↓] Go.wp_at_zero Go.wp_at_succ

/-- What lies somewhere: its slice begins at A and has room for c. -/
structure Lo (α : Type) where
  x : α
  A : Option Addr
  c : Nat
structure Tr where
  i : Int
  a : Int
  b : Int
  c : Int
structure Dr where
  id : Int
  prog : Int
  tex : Int
  op : Bool
  tris : List Tr
def EV : Elem U.V where
  t := 43
  size := 8
  cells v := [.int .i64 v.x, .int .i64 v.y, .int .i64 v.z, .int .i64 v.w, .int .i64 v.a, .int .i64 v.b, .int .i64 v.c, .int .i64 v.d]
  pos := by decide
  len _ := rfl
  one v u hu := by
    simp only [List.mem_cons, List.not_mem_nil, or_false] at hu
    rcases hu with rfl | rfl | rfl | rfl | rfl | rfl | rfl | rfl <;> rfl
def ET : Elem (Lo Tx) where
  t := 49
  size := 3
  cells l := [.int .i64 l.x.w, .int .i64 l.x.h, .slice l.A l.x.px.length l.c]
  pos := by decide
  len _ := rfl
  one v u hu := by
    simp only [List.mem_cons, List.not_mem_nil, or_false] at hu
    rcases hu with rfl | rfl | rfl <;> rfl
def EP : Elem (Lo (List C.In)) where
  t := 65
  size := 1
  cells l := [.slice l.A l.x.length l.c]
  pos := by decide
  len _ := rfl
  one v u hu := by
    simp only [List.mem_cons, List.not_mem_nil, or_false] at hu
    rcases hu with rfl <;> rfl
def ER : Elem Tr where
  t := 74
  size := 4
  cells t := [.int .i64 t.i, .int .i64 t.a, .int .i64 t.b, .int .i64 t.c]
  pos := by decide
  len _ := rfl
  one v u hu := by
    simp only [List.mem_cons, List.not_mem_nil, or_false] at hu
    rcases hu with rfl | rfl | rfl | rfl <;> rfl
def ED : Elem (Lo Dr) where
  t := 52
  size := 5
  cells l := [.int .i64 l.x.id, .int .i64 l.x.prog, .int .i64 l.x.tex, .bool l.x.op, .slice l.A l.x.tris.length l.c]
  pos := by decide
  len _ := rfl
  one v u hu := by
    simp only [List.mem_cons, List.not_mem_nil, or_false] at hu
    rcases hu with rfl | rfl | rfl | rfl | rfl <;> rfl
def EN : Elem Int where
  t := 3
  size := 1
  cells n := [.int .i64 n]
  pos := by decide
  len _ := rfl
  one v u hu := by
    simp only [List.mem_cons, List.not_mem_nil, or_false] at hu
    rcases hu with rfl <;> rfl
theorem atV {w : World} {b o : Nat} {v : U.V} (h : AtE EV w b o v) : w.cell? ⟨b, o, none⟩ = some (.int .i64 v.x) ∧ w.cell? ⟨b, o + 1, none⟩ = some (.int .i64 v.y) ∧ w.cell? ⟨b, o + 2, none⟩ = some (.int .i64 v.z) ∧ w.cell? ⟨b, o + 3, none⟩ = some (.int .i64 v.w) ∧ w.cell? ⟨b, o + 4, none⟩ = some (.int .i64 v.a) ∧ w.cell? ⟨b, o + 5, none⟩ = some (.int .i64 v.b) ∧ w.cell? ⟨b, o + 6, none⟩ = some (.int .i64 v.c) ∧ w.cell? ⟨b, o + 7, none⟩ = some (.int .i64 v.d) :=
  ⟨h 0 _ rfl, h 1 _ rfl, h 2 _ rfl, h 3 _ rfl, h 4 _ rfl, h 5 _ rfl, h 6 _ rfl, h 7 _ rfl⟩
theorem atT {w : World} {b o : Nat} {l : Lo Tx} (h : AtE ET w b o l) : w.cell? ⟨b, o, none⟩ = some (.int .i64 l.x.w) ∧ w.cell? ⟨b, o + 1, none⟩ = some (.int .i64 l.x.h) ∧ w.cell? ⟨b, o + 2, none⟩ = some (.slice l.A l.x.px.length l.c) :=
  ⟨h 0 _ rfl, h 1 _ rfl, h 2 _ rfl⟩
theorem atP {w : World} {b o : Nat} {l : Lo (List C.In)} (h : AtE EP w b o l) : w.cell? ⟨b, o, none⟩ = some (.slice l.A l.x.length l.c) := h 0 _ rfl
theorem atR {w : World} {b o : Nat} {t : Tr} (h : AtE ER w b o t) : w.cell? ⟨b, o, none⟩ = some (.int .i64 t.i) ∧ w.cell? ⟨b, o + 1, none⟩ = some (.int .i64 t.a) ∧ w.cell? ⟨b, o + 2, none⟩ = some (.int .i64 t.b) ∧ w.cell? ⟨b, o + 3, none⟩ = some (.int .i64 t.c) :=
  ⟨h 0 _ rfl, h 1 _ rfl, h 2 _ rfl, h 3 _ rfl⟩
theorem atD {w : World} {b o : Nat} {l : Lo Dr} (h : AtE ED w b o l) : w.cell? ⟨b, o, none⟩ = some (.int .i64 l.x.id) ∧ w.cell? ⟨b, o + 1, none⟩ = some (.int .i64 l.x.prog) ∧ w.cell? ⟨b, o + 2, none⟩ = some (.int .i64 l.x.tex) ∧ w.cell? ⟨b, o + 3, none⟩ = some (.bool l.x.op) ∧ w.cell? ⟨b, o + 4, none⟩ = some (.slice l.A l.x.tris.length l.c) :=
  ⟨h 0 _ rfl, h 1 _ rfl, h 2 _ rfl, h 3 _ rfl, h 4 _ rfl⟩
theorem atN {w : World} {b o : Nat} {n : Int} (h : AtE EN w b o n) : w.cell? ⟨b, o, none⟩ = some (.int .i64 n) := h 0 _ rfl

/-- A scene, with where its rows lie. -/
structure Sc where
  w : Int
  h : Int
  k : Col
  vs : List U.V
  vA : Option Addr
  vc : Nat
  ts : List (Lo Tx)
  tA : Option Addr
  tc : Nat
  ps : List (Lo (List C.In))
  pA : Option Addr
  pc : Nat
  ds : List (Lo Dr)
  dA : Option Addr
  dc : Nat
/-- Its slices read so, below block B. -/
structure Sc.at (s : Sc) (w : World) (B : Nat) : Prop where
  v : Es EV w B s.vA s.vs
  t : Es ET w B s.tA s.ts
  tx : ∀ l ∈ s.ts, Es EC w B l.A l.x.px
  p : Es EP w B s.pA s.ps
  px : ∀ l ∈ s.ps, Es C.EI w B l.A l.x
  d : Es ED w B s.dA s.ds
  dx : ∀ l ∈ s.ds, Es ER w B l.A l.x.tris
structure Tr.ok (t : Tr) : Prop where
  i : I64 t.i
  a : I64 t.a
  b : I64 t.b
  c : I64 t.c
structure Dr.ok (d : Dr) : Prop where
  id : I64 d.id
  prog : I64 d.prog
  tex : I64 d.tex
  tris : ∀ t ∈ d.tris, t.ok
structure Sc.ok (s : Sc) : Prop where
  w : I64 s.w
  h : I64 s.h
  k : s.k.ok
  vs : ∀ v ∈ s.vs, v.i64
  ts : ∀ l ∈ s.ts, I64 l.x.w ∧ I64 l.x.h ∧ l.x.ok ∧ l.x.px.length ≤ l.c
  ps : ∀ l ∈ s.ps, (∀ x ∈ l.x, x.ok) ∧ l.x.length ≤ l.c
  ds : ∀ l ∈ s.ds, l.x.ok ∧ l.x.tris.length ≤ l.c
  vc : s.vs.length ≤ s.vc
  tc : s.ts.length ≤ s.tc
  pc : s.ps.length ≤ s.pc
  dc : s.ds.length ≤ s.dc
/-- Not too much of anything. -/
structure Sc.few (s : Sc) : Prop where
  vs : s.vs.length ≤ 100000
  ts : s.ts.length ≤ 100000
  tx : ∀ l ∈ s.ts, l.x.px.length ≤ 100000
  ps : s.ps.length ≤ 100000
  px : ∀ l ∈ s.ps, l.x.length ≤ 100000
  ds : s.ds.length ≤ 100000
  dx : ∀ l ∈ s.ds, l.x.tris.length ≤ 100000
section
variable {s : Sc} {w w' : World} {B B' g : Nat}
theorem Sc.at.below (h : s.at w B) (hb : Below B w w') : s.at w' B :=
  ⟨h.v.below hb, h.t.below hb, fun l hl => (h.tx l hl).below hb, h.p.below hb, fun l hl => (h.px l hl).below hb, h.d.below hb, fun l hl => (h.dx l hl).below hb⟩
theorem Sc.at.more (h : s.at w B) (hB : B ≤ B') : s.at w B' :=
  ⟨h.v.more hB, h.t.more hB, fun l hl => (h.tx l hl).more hB, h.p.more hB, fun l hl => (h.px l hl).more hB, h.d.more hB, fun l hl => (h.dx l hl).more hB⟩
theorem Sc.at.sharp (h : s.at w B) : s.at w w.heap.size :=
  ⟨h.v.sharp, h.t.sharp, fun l hl => (h.tx l hl).sharp, h.p.sharp, fun l hl => (h.px l hl).sharp, h.d.sharp, fun l hl => (h.dx l hl).sharp⟩
/-- The block that holds a scene. -/
def scB (s : Sc) : Obj := .cells #[.int .i64 s.w, .int .i64 s.h, .int .u8 s.k.r, .int .u8 s.k.g, .int .u8 s.k.b, .int .u8 s.k.a, .slice s.vA s.vs.length s.vc, .slice s.tA s.ts.length s.tc, .slice s.pA s.ps.length s.pc, .slice s.dA s.ds.length s.dc] 33 (0, 0)
theorem scB_cell (h : w.heap[g]? = some (scB s)) : w.cell? ⟨g, 0, none⟩ = some (.int .i64 s.w) ∧ w.cell? ⟨g, 1, none⟩ = some (.int .i64 s.h) ∧ w.cell? ⟨g, 2, none⟩ = some (.int .u8 s.k.r) ∧ w.cell? ⟨g, 3, none⟩ = some (.int .u8 s.k.g) ∧ w.cell? ⟨g, 4, none⟩ = some (.int .u8 s.k.b) ∧ w.cell? ⟨g, 5, none⟩ = some (.int .u8 s.k.a) ∧ w.cell? ⟨g, 6, none⟩ = some (.slice s.vA s.vs.length s.vc) ∧ w.cell? ⟨g, 7, none⟩ = some (.slice s.tA s.ts.length s.tc) ∧ w.cell? ⟨g, 8, none⟩ = some (.slice s.pA s.ps.length s.pc) ∧ w.cell? ⟨g, 9, none⟩ = some (.slice s.dA s.ds.length s.dc) := by
  unfold scB at h
  exact ⟨Joins.cell_of_block h 0, Joins.cell_of_block h 1, Joins.cell_of_block h 2, Joins.cell_of_block h 3, Joins.cell_of_block h 4, Joins.cell_of_block h 5, Joins.cell_of_block h 6, Joins.cell_of_block h 7, Joins.cell_of_block h 8, Joins.cell_of_block h 9⟩
theorem scB_free (h : w.heap[g]? = some (scB s)) : ∀ o, w.frozen? ⟨g, o, none⟩ = false := by
  unfold scB at h
  intro o
  simp [World.frozen?, h]
theorem scB_lt (h : w.heap[g]? = some (scB s)) : g < w.heap.size := (Array.getElem?_eq_some_iff.1 h).1
theorem scB_keep (h : w.heap[g]? = some (scB s)) (k : Below B w w') (hg : g < B) : w'.heap[g]? = some (scB s) := (k.block _ hg).trans h
theorem scB_alloc (o : Obj) (h : w.heap[g]? = some (scB s)) : (w.alloc o).heap[g]? = some (scB s) := (Below.heap_alloc _ _ _ (scB_lt h)).trans h
end
/-- The block that holds a draw. -/
def drB (l : Lo Dr) : Obj := .cells #[.int .i64 l.x.id, .int .i64 l.x.prog, .int .i64 l.x.tex, .bool l.x.op, .slice l.A l.x.tris.length l.c] 52 (0, 0)
theorem drB_cell {w : World} {g : Nat} {l : Lo Dr} (h : w.heap[g]? = some (drB l)) : w.cell? ⟨g, 0, none⟩ = some (.int .i64 l.x.id) ∧ w.cell? ⟨g, 1, none⟩ = some (.int .i64 l.x.prog) ∧ w.cell? ⟨g, 2, none⟩ = some (.int .i64 l.x.tex) ∧ w.cell? ⟨g, 3, none⟩ = some (.bool l.x.op) ∧ w.cell? ⟨g, 4, none⟩ = some (.slice l.A l.x.tris.length l.c) := by
  unfold drB at h
  exact ⟨Joins.cell_of_block h 0, Joins.cell_of_block h 1, Joins.cell_of_block h 2, Joins.cell_of_block h 3, Joins.cell_of_block h 4⟩
theorem drB_free {w : World} {g : Nat} {l : Lo Dr} (h : w.heap[g]? = some (drB l)) : ∀ o, w.frozen? ⟨g, o, none⟩ = false := by
  unfold drB at h
  intro o
  simp [World.frozen?, h]
theorem drB_lt {w : World} {g : Nat} {l : Lo Dr} (h : w.heap[g]? = some (drB l)) : g < w.heap.size := (Array.getElem?_eq_some_iff.1 h).1
theorem new_below (w : World) (o : Obj) : Below w.heap.size w (w.alloc o) := (Below.refl _ _).alloc (Nat.le_refl _) _
theorem get_lt {α : Type} {l : List α} {k : Nat} (h : k < l.length) : ∃ u, l[k]? = some u := ⟨_, List.getElem?_eq_getElem h⟩
end Go.Proofs.Ytfmmfaeognoleaa
/-
  What is asked of scenes, number by number (pure), and the contracts of the small functions: within, isId, isPlace, fewTris, mayRun, drawId, triId, colour.Right.
-/
namespace Go.Proofs.Ytfmmfaeognoleaa
open Go.RowKit
attribute [local go_sem ↓] Go.wp_at_zero Go.wp_at_succ

def inB (n a b : Int) : Bool := decide (a ≤ n ∧ n ≤ b)
theorem within_any (n a b : Int) (w : World) :
    Calls Try.prog 31 #[.int .i64 n, .int .i64 a, .int .i64 b] w fun e w' => e = .returned (.bool (inB n a b)) ∧ w = w' := by
  unfold inB
  by_cases h1 : a ≤ n
  · by_cases h2 : n ≤ b
    · have e : decide (a ≤ n ∧ n ≤ b) = true := by simp [h1, h2]
      rw [e]
      go_enter Try.func31, Try.ntmps31
      go_wp2
      go_ret
      exact ⟨rfl, rfl⟩
    · have e : decide (a ≤ n ∧ n ≤ b) = false := by simp [h2]
      rw [e]
      go_enter Try.func31, Try.ntmps31
      go_wp2
      go_ret
      exact ⟨rfl, rfl⟩
  · have e : decide (a ≤ n ∧ n ≤ b) = false := by simp [h1]
    rw [e]
    go_enter Try.func31, Try.ntmps31
    go_wp2
    go_ret
    exact ⟨rfl, rfl⟩
theorem isId_any (n : Int) (w : World) :
    Calls Try.prog 100 #[.int .i64 n] w fun e w' => e = .returned (.bool (inB n 0 9999)) ∧ w = w' := by
  have HW := Lib.hid (within_any n 0 9999)
  generalize inB n 0 9999 = r at *
  go_enter Try.func100, Try.ntmps100
  go_wp2_with fail
  with_reducible refine (HW.out _).mono ?_
  rintro e w' ⟨rfl, rfl⟩
  go_wp2
  go_ret
  exact ⟨rfl, rfl⟩
theorem isPlace63 (n : Int) (A : Option Addr) (m c : Nat) (hm : m ≤ 100000) (w : World) :
    Calls Try.prog 99 #[.int .i64 n, .slice A m c] w fun e w' => e = .returned (.bool (inB n 0 (m - 1))) ∧ w = w' := by
  have HW := Lib.hid (within_any n 0 (m - 1))
  have hw : IntKind.i64.wrap ((m : Int) - 1) = m - 1 := by rw [IntKind.wrap_i64]; omega
  generalize inB n 0 (m - 1) = r at *
  clear hm
  go_enter Try.func99, Try.ntmps99
  go_wp2_with fail
  with_reducible refine (HW.out _).mono ?_
  rintro e w' ⟨rfl, rfl⟩
  go_wp2
  go_ret
  exact ⟨rfl, rfl⟩
theorem isPlace66 (n : Int) (A : Option Addr) (m c : Nat) (hm : m ≤ 100000) (w : World) :
    Calls Try.prog 102 #[.int .i64 n, .slice A m c] w fun e w' => e = .returned (.bool (inB n 0 (m - 1))) ∧ w = w' := by
  have HW := Lib.hid (within_any n 0 (m - 1))
  have hw : IntKind.i64.wrap ((m : Int) - 1) = m - 1 := by rw [IntKind.wrap_i64]; omega
  generalize inB n 0 (m - 1) = r at *
  clear hm
  go_enter Try.func102, Try.ntmps102
  go_wp2_with fail
  with_reducible refine (HW.out _).mono ?_
  rintro e w' ⟨rfl, rfl⟩
  go_wp2
  go_ret
  exact ⟨rfl, rfl⟩
theorem isPlace74 (n : Int) (A : Option Addr) (m c : Nat) (hm : m ≤ 100000) (w : World) :
    Calls Try.prog 110 #[.int .i64 n, .slice A m c] w fun e w' => e = .returned (.bool (inB n 0 (m - 1))) ∧ w = w' := by
  have HW := Lib.hid (within_any n 0 (m - 1))
  have hw : IntKind.i64.wrap ((m : Int) - 1) = m - 1 := by rw [IntKind.wrap_i64]; omega
  generalize inB n 0 (m - 1) = r at *
  clear hm
  go_enter Try.func110, Try.ntmps110
  go_wp2_with fail
  with_reducible refine (HW.out _).mono ?_
  rintro e w' ⟨rfl, rfl⟩
  go_wp2
  go_ret
  exact ⟨rfl, rfl⟩
theorem drawId_any (l : Lo Dr) (w : World) :
    Calls Try.prog 74 #[.agg #[.int .i64 l.x.id, .int .i64 l.x.prog, .int .i64 l.x.tex, .bool l.x.op, .slice l.A l.x.tris.length l.c]] w fun e w' => e = .returned (.int .i64 l.x.id) ∧ Below w.heap.size w w' := by
  have HK := Lib.hid (new_below w)
  go_enter Try.func74, Try.ntmps74
  go_wp2
  go_ret
  exact ⟨rfl, HK.out _⟩
theorem triId_any (t : Tr) (w : World) :
    Calls Try.prog 76 #[.agg #[.int .i64 t.i, .int .i64 t.a, .int .i64 t.b, .int .i64 t.c]] w fun e w' => e = .returned (.int .i64 t.i) ∧ Below w.heap.size w w' := by
  have HK := Lib.hid (new_below w)
  go_enter Try.func76, Try.ntmps76
  go_wp2
  go_ret
  exact ⟨rfl, HK.out _⟩
theorem fewTris_any (l : Lo Dr) (w : World) :
    Calls Try.prog 67 #[.agg #[.int .i64 l.x.id, .int .i64 l.x.prog, .int .i64 l.x.tex, .bool l.x.op, .slice l.A l.x.tris.length l.c]] w fun e w' => e = .returned (.bool (decide (l.x.tris.length ≤ 32))) ∧ Below w.heap.size w w' := by
  have HK := Lib.hid (new_below w)
  generalize l.x.tris.length = n
  by_cases h : n ≤ 32
  · have h1 : (n : Int) ≤ 32 := by omega
    have e : decide (n ≤ 32) = true := by simp [h]
    rw [e]
    clear e h
    go_enter Try.func67, Try.ntmps67
    go_wp2
    go_ret
    exact ⟨rfl, HK.out _⟩
  · have h1 : ¬ (n : Int) ≤ 32 := by omega
    have e : decide (n ≤ 32) = false := by simp; omega
    rw [e]
    clear e h
    go_enter Try.func67, Try.ntmps67
    go_wp2
    go_ret
    exact ⟨rfl, HK.out _⟩
theorem mayRun_any (l : List C.In) (A : Option Addr) (c : Nat) (hok : ∀ x ∈ l, x.ok) (w : World) (he : Es C.EI w w.heap.size A l) :
    Calls Try.prog 39 #[.slice A l.length c] w fun e w' => e = .returned (.bool (decide (C.chk l = 0))) ∧ Below w.heap.size w w' := by
  have HC := Lib.hid (C.check_any l A c hok w he)
  have hr : C.chk l = 0 ∨ C.chk l = 23 := by unfold C.chk; split; exact .inr rfl; split; exact .inl rfl; exact .inr rfl
  clear he hok
  rcases hr with h | h
  · rw [h] at HC ⊢
    clear h
    go_enter Try.func39, Try.ntmps39
    go_wp2_with fail
    with_reducible refine HC.out.mono ?_
    rintro e w' ⟨rfl, hb⟩
    have HB := Lib.hid hb
    clear hb
    go_wp2
    go_ret
    exact ⟨rfl, HB.out⟩
  · rw [h] at HC ⊢
    clear h
    go_enter Try.func39, Try.ntmps39
    go_wp2_with fail
    with_reducible refine HC.out.mono ?_
    rintro e w' ⟨rfl, hb⟩
    have HB := Lib.hid hb
    clear hb
    go_wp2
    go_ret
    exact ⟨rfl, HB.out⟩
theorem cright_any (c : Col) (w : World) :
    Calls Try.prog 32 #[.agg #[.int .u8 c.r, .int .u8 c.g, .int .u8 c.b, .int .u8 c.a]] w fun e w' => e = .returned (.bool (rightB c)) ∧ Below w.heap.size w w' := by
  have HK := Lib.hid (new_below w)
  unfold rightB
  by_cases h1 : c.r ≤ c.a
  · by_cases h2 : c.g ≤ c.a
    · by_cases h3 : c.b ≤ c.a
      · have e : (decide (c.r ≤ c.a) && decide (c.g ≤ c.a) && decide (c.b ≤ c.a)) = true := by simp [h1, h2, h3]
        rw [e]
        clear e
        go_enter Try.func32, Try.ntmps32
        go_wp2
        go_ret
        exact ⟨rfl, HK.out _⟩
      · have e : (decide (c.r ≤ c.a) && decide (c.g ≤ c.a) && decide (c.b ≤ c.a)) = false := by simp [h1, h2, h3]
        rw [e]
        clear e
        go_enter Try.func32, Try.ntmps32
        go_wp2
        go_ret
        exact ⟨rfl, HK.out _⟩
    · have e : (decide (c.r ≤ c.a) && decide (c.g ≤ c.a) && decide (c.b ≤ c.a)) = false := by simp [h1, h2]
      rw [e]
      clear e
      go_enter Try.func32, Try.ntmps32
      go_wp2
      go_ret
      exact ⟨rfl, HK.out _⟩
  · have e : (decide (c.r ≤ c.a) && decide (c.g ≤ c.a) && decide (c.b ≤ c.a)) = false := by simp [h1]
    rw [e]
    clear e
    go_enter Try.func32, Try.ntmps32
    go_wp2
    go_ret
    exact ⟨rfl, HK.out _⟩
end Go.Proofs.Ytfmmfaeognoleaa
/-
  The contracts of scene.all, at each type that it is called at.
-/
namespace Go.Proofs.Ytfmmfaeognoleaa
open Go.RowKit
attribute [local go_sem ↓] Go.wp_at_zero Go.wp_at_succ

theorem all_no {α : Type} {f : α → Bool} {l : List α} {k : Nat} {u : α} (h : l[k]? = some u) (hr : f u = false) : l.all f = false := by
  rw [List.all_eq_false]
  exact ⟨u, List.mem_of_getElem? h, by rw [hr]; decide⟩
theorem all_yes {α : Type} {f : α → Bool} {l : List α} (h : ∀ (i : Nat) x, l[i]? = some x → f x = true) : l.all f = true := by
  rw [List.all_eq_true]
  intro x hx
  obtain ⟨i, hi⟩ := List.mem_iff_getElem?.1 hx
  exact h i x hi

set_option maxRecDepth 100000 in
set_option maxHeartbeats 2000000 in
theorem all26_any (f : U.V → Bool) (k : FuncId) (caps : Array Value) (eg : ∀ (args : Array Value) (w : World), (callFunc k args).run Try.prog w = .ok (.enter k args) w) (l : List (U.V)) (A : Option Addr) (c : Nat) (hl : l.length ≤ 100000) (w : World) (he : Es EV w w.heap.size A l)
    (H : ∀ x ∈ l, ∀ W, Below w.heap.size w W → Calls Try.prog k (#[.agg #[.int .i64 x.x, .int .i64 x.y, .int .i64 x.z, .int .i64 x.w, .int .i64 x.a, .int .i64 x.b, .int .i64 x.c, .int .i64 x.d]] ++ caps) W fun e w' => e = .returned (.bool (f x)) ∧ Below W.heap.size W w') :
    Calls Try.prog 34 #[.slice A l.length c, .func (.func k) #[] caps] w fun e w' => e = .returned (.bool (l.all f)) ∧ Below w.heap.size w w' := by
  have HGd := Lib.hid (fun h => all_yes (f := f) (l := l) h)
  have HBd := Lib.hid (fun (k : Nat) (u : U.V) (h : l[k]? = some u) (hr : f u = false) => all_no h hr)
  have HL := Lib.hid (fun (k : Nat) (h : k < l.length) => get_lt h)
  generalize l.all f = R at *
  obtain ⟨n, hn⟩ : ∃ n, l.length = n := ⟨_, rfl⟩
  rw [hn] at HL hl ⊢
  have HE := Lib.hid he
  have HH := Lib.hid H
  replace hn := Lib.hid hn
  clear he H
  go_enter Try.func34, Try.ntmps34
  go_wp2_with fail
  go_loopw [9] (fun i wr => ∃ j : Nat, j ≤ n ∧ i = .int .i64 j ∧ (∀ (i : Nat) x, i < j → l[i]? = some x → f x = true) ∧ Below w.heap.size w wr) (fun i _ => n - (intOf i).toNat)
  case atStart => exact ⟨0, Nat.zero_le _, rfl, fun j x h => absurd h (Nat.not_lt_zero _), Below.refl _ _⟩
  case round =>
    obtain ⟨j, hk, rfl, hin, hb⟩ := hrel
    have HB := Lib.hid hb
    have HI := Lib.hid hin
    clear hin hb
    by_cases hlt : j < n
    · obtain ⟨u, hu⟩ := HL.out j hlt
      obtain ⟨b, off, rfl, hbB, hat⟩ := HE.out.at hu
      have hc := atV (show AtE EV wr b (off + j * 8) u from hat.below HB.out hbB)
      obtain ⟨c0, c1, c2, c3, c4, c5, c6, c7⟩ := hc
      have hbw := Nat.lt_of_lt_of_le hbB HB.out.size
      have hu' := List.mem_of_getElem? hu
      have HU := Lib.hid (fun W hW => HH.out u hu' W hW)
      replace hu := Lib.hid hu
      obtain ⟨r, hr⟩ : ∃ r, f u = r := ⟨_, rfl⟩
      rw [hr] at HU
      replace hr := Lib.hid hr
      clear hat hu'
      go_wp2_with fail
      have B2 := Lib.hid (bstep HB.out HB.out.size (new_below wr (.cells #[.int .i64 u.x, .int .i64 u.y, .int .i64 u.z, .int .i64 u.w, .int .i64 u.a, .int .i64 u.b, .int .i64 u.c, .int .i64 u.d] 43)))
      with_reducible refine (HU.out _ B2.out).mono ?_
      rintro e w2 ⟨rfl, hb2⟩
      have B3 := Lib.hid (bstep B2.out B2.out.size hb2)
      clear hb2 B2 HU c0 c1 c2 c3 c4 c5 c6 c7
      cases r
      · obtain rfl : R = false := HBd.out j u hu.out hr.out
        go_wp2_with fail
        go_ret
        exact ⟨rfl, B3.out⟩
      · go_wp2_with fail
        go_roundw
        case rel =>
          refine ⟨j + 1, by omega, by go_num, fun i x hj hx => ?_, B3.out⟩
          rcases Nat.lt_or_ge i j with h | h
          · exact HI.out i x h hx
          · obtain rfl : i = j := by omega
            have h5 := hu.out
            rw [hx] at h5
            cases h5
            exact hr.out
        case measure => simp [intOf]; omega
    · obtain rfl : j = n := by omega
      obtain rfl : R = true := HGd.out fun i x hx => HI.out i x (by have := (List.getElem?_eq_some_iff.1 hx).1; rw [hn.out] at this; exact this) hx
      go_wp2_with fail
      go_ret
      exact ⟨rfl, HB.out⟩

set_option maxRecDepth 100000 in
set_option maxHeartbeats 2000000 in
theorem all28_any (f : Lo Tx → Bool) (k : FuncId) (caps : Array Value) (eg : ∀ (args : Array Value) (w : World), (callFunc k args).run Try.prog w = .ok (.enter k args) w) (l : List (Lo Tx)) (A : Option Addr) (c : Nat) (hl : l.length ≤ 100000) (w : World) (he : Es ET w w.heap.size A l)
    (H : ∀ x ∈ l, ∀ W, Below w.heap.size w W → Calls Try.prog k (#[.agg #[.int .i64 x.x.w, .int .i64 x.x.h, .slice x.A x.x.px.length x.c]] ++ caps) W fun e w' => e = .returned (.bool (f x)) ∧ Below W.heap.size W w') :
    Calls Try.prog 36 #[.slice A l.length c, .func (.func k) #[] caps] w fun e w' => e = .returned (.bool (l.all f)) ∧ Below w.heap.size w w' := by
  have HGd := Lib.hid (fun h => all_yes (f := f) (l := l) h)
  have HBd := Lib.hid (fun (k : Nat) (u : Lo Tx) (h : l[k]? = some u) (hr : f u = false) => all_no h hr)
  have HL := Lib.hid (fun (k : Nat) (h : k < l.length) => get_lt h)
  generalize l.all f = R at *
  obtain ⟨n, hn⟩ : ∃ n, l.length = n := ⟨_, rfl⟩
  rw [hn] at HL hl ⊢
  have HE := Lib.hid he
  have HH := Lib.hid H
  replace hn := Lib.hid hn
  clear he H
  go_enter Try.func36, Try.ntmps36
  go_wp2_with fail
  go_loopw [9] (fun i wr => ∃ j : Nat, j ≤ n ∧ i = .int .i64 j ∧ (∀ (i : Nat) x, i < j → l[i]? = some x → f x = true) ∧ Below w.heap.size w wr) (fun i _ => n - (intOf i).toNat)
  case atStart => exact ⟨0, Nat.zero_le _, rfl, fun j x h => absurd h (Nat.not_lt_zero _), Below.refl _ _⟩
  case round =>
    obtain ⟨j, hk, rfl, hin, hb⟩ := hrel
    have HB := Lib.hid hb
    have HI := Lib.hid hin
    clear hin hb
    by_cases hlt : j < n
    · obtain ⟨u, hu⟩ := HL.out j hlt
      obtain ⟨b, off, rfl, hbB, hat⟩ := HE.out.at hu
      have hc := atT (show AtE ET wr b (off + j * 3) u from hat.below HB.out hbB)
      obtain ⟨c0, c1, c2⟩ := hc
      have hbw := Nat.lt_of_lt_of_le hbB HB.out.size
      have hu' := List.mem_of_getElem? hu
      have HU := Lib.hid (fun W hW => HH.out u hu' W hW)
      replace hu := Lib.hid hu
      obtain ⟨r, hr⟩ : ∃ r, f u = r := ⟨_, rfl⟩
      rw [hr] at HU
      replace hr := Lib.hid hr
      clear hat hu'
      go_wp2_with fail
      have B2 := Lib.hid (bstep HB.out HB.out.size (new_below wr (.cells #[.int .i64 u.x.w, .int .i64 u.x.h, .slice u.A u.x.px.length u.c] 49)))
      with_reducible refine (HU.out _ B2.out).mono ?_
      rintro e w2 ⟨rfl, hb2⟩
      have B3 := Lib.hid (bstep B2.out B2.out.size hb2)
      clear hb2 B2 HU c0 c1 c2
      cases r
      · obtain rfl : R = false := HBd.out j u hu.out hr.out
        go_wp2_with fail
        go_ret
        exact ⟨rfl, B3.out⟩
      · go_wp2_with fail
        go_roundw
        case rel =>
          refine ⟨j + 1, by omega, by go_num, fun i x hj hx => ?_, B3.out⟩
          rcases Nat.lt_or_ge i j with h | h
          · exact HI.out i x h hx
          · obtain rfl : i = j := by omega
            have h5 := hu.out
            rw [hx] at h5
            cases h5
            exact hr.out
        case measure => simp [intOf]; omega
    · obtain rfl : j = n := by omega
      obtain rfl : R = true := HGd.out fun i x hx => HI.out i x (by have := (List.getElem?_eq_some_iff.1 hx).1; rw [hn.out] at this; exact this) hx
      go_wp2_with fail
      go_ret
      exact ⟨rfl, HB.out⟩

set_option maxRecDepth 100000 in
set_option maxHeartbeats 2000000 in
theorem all30_any (f : Lo (List C.In) → Bool) (k : FuncId) (caps : Array Value) (eg : ∀ (args : Array Value) (w : World), (callFunc k args).run Try.prog w = .ok (.enter k args) w) (l : List (Lo (List C.In))) (A : Option Addr) (c : Nat) (hl : l.length ≤ 100000) (w : World) (he : Es EP w w.heap.size A l)
    (H : ∀ x ∈ l, ∀ W, Below w.heap.size w W → Calls Try.prog k (#[.slice x.A x.x.length x.c] ++ caps) W fun e w' => e = .returned (.bool (f x)) ∧ Below W.heap.size W w') :
    Calls Try.prog 38 #[.slice A l.length c, .func (.func k) #[] caps] w fun e w' => e = .returned (.bool (l.all f)) ∧ Below w.heap.size w w' := by
  have HGd := Lib.hid (fun h => all_yes (f := f) (l := l) h)
  have HBd := Lib.hid (fun (k : Nat) (u : Lo (List C.In)) (h : l[k]? = some u) (hr : f u = false) => all_no h hr)
  have HL := Lib.hid (fun (k : Nat) (h : k < l.length) => get_lt h)
  generalize l.all f = R at *
  obtain ⟨n, hn⟩ : ∃ n, l.length = n := ⟨_, rfl⟩
  rw [hn] at HL hl ⊢
  have HE := Lib.hid he
  have HH := Lib.hid H
  replace hn := Lib.hid hn
  clear he H
  go_enter Try.func38, Try.ntmps38
  go_wp2_with fail
  go_loopw [9] (fun i wr => ∃ j : Nat, j ≤ n ∧ i = .int .i64 j ∧ (∀ (i : Nat) x, i < j → l[i]? = some x → f x = true) ∧ Below w.heap.size w wr) (fun i _ => n - (intOf i).toNat)
  case atStart => exact ⟨0, Nat.zero_le _, rfl, fun j x h => absurd h (Nat.not_lt_zero _), Below.refl _ _⟩
  case round =>
    obtain ⟨j, hk, rfl, hin, hb⟩ := hrel
    have HB := Lib.hid hb
    have HI := Lib.hid hin
    clear hin hb
    by_cases hlt : j < n
    · obtain ⟨u, hu⟩ := HL.out j hlt
      obtain ⟨b, off, rfl, hbB, hat⟩ := HE.out.at hu
      have hc := atP (show AtE EP wr b (off + j * 1) u from hat.below HB.out hbB)
      have c0 : wr.cell? ⟨b, off + j, none⟩ = some (.slice u.A u.x.length u.c) := by simpa using hc
      have hbw := Nat.lt_of_lt_of_le hbB HB.out.size
      have hu' := List.mem_of_getElem? hu
      have HU := Lib.hid (fun W hW => HH.out u hu' W hW)
      replace hu := Lib.hid hu
      obtain ⟨r, hr⟩ : ∃ r, f u = r := ⟨_, rfl⟩
      rw [hr] at HU
      replace hr := Lib.hid hr
      clear hat hu' hc
      go_wp2_with fail
      have B2 := HB
      with_reducible refine (HU.out _ B2.out).mono ?_
      rintro e w2 ⟨rfl, hb2⟩
      have B3 := Lib.hid (bstep B2.out B2.out.size hb2)
      clear hb2 B2 HU c0
      cases r
      · obtain rfl : R = false := HBd.out j u hu.out hr.out
        go_wp2_with fail
        go_ret
        exact ⟨rfl, B3.out⟩
      · go_wp2_with fail
        go_roundw
        case rel =>
          refine ⟨j + 1, by omega, by go_num, fun i x hj hx => ?_, B3.out⟩
          rcases Nat.lt_or_ge i j with h | h
          · exact HI.out i x h hx
          · obtain rfl : i = j := by omega
            have h5 := hu.out
            rw [hx] at h5
            cases h5
            exact hr.out
        case measure => simp [intOf]; omega
    · obtain rfl : j = n := by omega
      obtain rfl : R = true := HGd.out fun i x hx => HI.out i x (by have := (List.getElem?_eq_some_iff.1 hx).1; rw [hn.out] at this; exact this) hx
      go_wp2_with fail
      go_ret
      exact ⟨rfl, HB.out⟩

set_option maxRecDepth 100000 in
set_option maxHeartbeats 2000000 in
theorem all43_any (f : Lo Dr → Bool) (k : FuncId) (caps : Array Value) (eg : ∀ (args : Array Value) (w : World), (callFunc k args).run Try.prog w = .ok (.enter k args) w) (l : List (Lo Dr)) (A : Option Addr) (c : Nat) (hl : l.length ≤ 100000) (w : World) (he : Es ED w w.heap.size A l)
    (H : ∀ x ∈ l, ∀ W, Below w.heap.size w W → Calls Try.prog k (#[.agg #[.int .i64 x.x.id, .int .i64 x.x.prog, .int .i64 x.x.tex, .bool x.x.op, .slice x.A x.x.tris.length x.c]] ++ caps) W fun e w' => e = .returned (.bool (f x)) ∧ Below W.heap.size W w') :
    Calls Try.prog 66 #[.slice A l.length c, .func (.func k) #[] caps] w fun e w' => e = .returned (.bool (l.all f)) ∧ Below w.heap.size w w' := by
  have HGd := Lib.hid (fun h => all_yes (f := f) (l := l) h)
  have HBd := Lib.hid (fun (k : Nat) (u : Lo Dr) (h : l[k]? = some u) (hr : f u = false) => all_no h hr)
  have HL := Lib.hid (fun (k : Nat) (h : k < l.length) => get_lt h)
  generalize l.all f = R at *
  obtain ⟨n, hn⟩ : ∃ n, l.length = n := ⟨_, rfl⟩
  rw [hn] at HL hl ⊢
  have HE := Lib.hid he
  have HH := Lib.hid H
  replace hn := Lib.hid hn
  clear he H
  go_enter Try.func66, Try.ntmps66
  go_wp2_with fail
  go_loopw [9] (fun i wr => ∃ j : Nat, j ≤ n ∧ i = .int .i64 j ∧ (∀ (i : Nat) x, i < j → l[i]? = some x → f x = true) ∧ Below w.heap.size w wr) (fun i _ => n - (intOf i).toNat)
  case atStart => exact ⟨0, Nat.zero_le _, rfl, fun j x h => absurd h (Nat.not_lt_zero _), Below.refl _ _⟩
  case round =>
    obtain ⟨j, hk, rfl, hin, hb⟩ := hrel
    have HB := Lib.hid hb
    have HI := Lib.hid hin
    clear hin hb
    by_cases hlt : j < n
    · obtain ⟨u, hu⟩ := HL.out j hlt
      obtain ⟨b, off, rfl, hbB, hat⟩ := HE.out.at hu
      have hc := atD (show AtE ED wr b (off + j * 5) u from hat.below HB.out hbB)
      obtain ⟨c0, c1, c2, c3, c4⟩ := hc
      have hbw := Nat.lt_of_lt_of_le hbB HB.out.size
      have hu' := List.mem_of_getElem? hu
      have HU := Lib.hid (fun W hW => HH.out u hu' W hW)
      replace hu := Lib.hid hu
      obtain ⟨r, hr⟩ : ∃ r, f u = r := ⟨_, rfl⟩
      rw [hr] at HU
      replace hr := Lib.hid hr
      clear hat hu'
      go_wp2_with fail
      have B2 := Lib.hid (bstep HB.out HB.out.size (new_below wr (.cells #[.int .i64 u.x.id, .int .i64 u.x.prog, .int .i64 u.x.tex, .bool u.x.op, .slice u.A u.x.tris.length u.c] 52)))
      with_reducible refine (HU.out _ B2.out).mono ?_
      rintro e w2 ⟨rfl, hb2⟩
      have B3 := Lib.hid (bstep B2.out B2.out.size hb2)
      clear hb2 B2 HU c0 c1 c2 c3 c4
      cases r
      · obtain rfl : R = false := HBd.out j u hu.out hr.out
        go_wp2_with fail
        go_ret
        exact ⟨rfl, B3.out⟩
      · go_wp2_with fail
        go_roundw
        case rel =>
          refine ⟨j + 1, by omega, by go_num, fun i x hj hx => ?_, B3.out⟩
          rcases Nat.lt_or_ge i j with h | h
          · exact HI.out i x h hx
          · obtain rfl : i = j := by omega
            have h5 := hu.out
            rw [hx] at h5
            cases h5
            exact hr.out
        case measure => simp [intOf]; omega
    · obtain rfl : j = n := by omega
      obtain rfl : R = true := HGd.out fun i x hx => HI.out i x (by have := (List.getElem?_eq_some_iff.1 hx).1; rw [hn.out] at this; exact this) hx
      go_wp2_with fail
      go_ret
      exact ⟨rfl, HB.out⟩

set_option maxRecDepth 100000 in
set_option maxHeartbeats 2000000 in
theorem all65_any (f : Int → Bool) (k : FuncId) (caps : Array Value) (eg : ∀ (args : Array Value) (w : World), (callFunc k args).run Try.prog w = .ok (.enter k args) w) (l : List (Int)) (A : Option Addr) (c : Nat) (hl : l.length ≤ 100000) (w : World) (he : Es EN w w.heap.size A l)
    (H : ∀ x ∈ l, ∀ W, Below w.heap.size w W → Calls Try.prog k (#[.int .i64 x] ++ caps) W fun e w' => e = .returned (.bool (f x)) ∧ Below W.heap.size W w') :
    Calls Try.prog 101 #[.slice A l.length c, .func (.func k) #[] caps] w fun e w' => e = .returned (.bool (l.all f)) ∧ Below w.heap.size w w' := by
  have HGd := Lib.hid (fun h => all_yes (f := f) (l := l) h)
  have HBd := Lib.hid (fun (k : Nat) (u : Int) (h : l[k]? = some u) (hr : f u = false) => all_no h hr)
  have HL := Lib.hid (fun (k : Nat) (h : k < l.length) => get_lt h)
  generalize l.all f = R at *
  obtain ⟨n, hn⟩ : ∃ n, l.length = n := ⟨_, rfl⟩
  rw [hn] at HL hl ⊢
  have HE := Lib.hid he
  have HH := Lib.hid H
  replace hn := Lib.hid hn
  clear he H
  go_enter Try.func101, Try.ntmps101
  go_wp2_with fail
  go_loopw [9] (fun i wr => ∃ j : Nat, j ≤ n ∧ i = .int .i64 j ∧ (∀ (i : Nat) x, i < j → l[i]? = some x → f x = true) ∧ Below w.heap.size w wr) (fun i _ => n - (intOf i).toNat)
  case atStart => exact ⟨0, Nat.zero_le _, rfl, fun j x h => absurd h (Nat.not_lt_zero _), Below.refl _ _⟩
  case round =>
    obtain ⟨j, hk, rfl, hin, hb⟩ := hrel
    have HB := Lib.hid hb
    have HI := Lib.hid hin
    clear hin hb
    by_cases hlt : j < n
    · obtain ⟨u, hu⟩ := HL.out j hlt
      obtain ⟨b, off, rfl, hbB, hat⟩ := HE.out.at hu
      have hc := atN (show AtE EN wr b (off + j * 1) u from hat.below HB.out hbB)
      have c0 : wr.cell? ⟨b, off + j, none⟩ = some (.int .i64 u) := by simpa using hc
      have hbw := Nat.lt_of_lt_of_le hbB HB.out.size
      have hu' := List.mem_of_getElem? hu
      have HU := Lib.hid (fun W hW => HH.out u hu' W hW)
      replace hu := Lib.hid hu
      obtain ⟨r, hr⟩ : ∃ r, f u = r := ⟨_, rfl⟩
      rw [hr] at HU
      replace hr := Lib.hid hr
      clear hat hu' hc
      go_wp2_with fail
      have B2 := HB
      with_reducible refine (HU.out _ B2.out).mono ?_
      rintro e w2 ⟨rfl, hb2⟩
      have B3 := Lib.hid (bstep B2.out B2.out.size hb2)
      clear hb2 B2 HU c0
      cases r
      · obtain rfl : R = false := HBd.out j u hu.out hr.out
        go_wp2_with fail
        go_ret
        exact ⟨rfl, B3.out⟩
      · go_wp2_with fail
        go_roundw
        case rel =>
          refine ⟨j + 1, by omega, by go_num, fun i x hj hx => ?_, B3.out⟩
          rcases Nat.lt_or_ge i j with h | h
          · exact HI.out i x h hx
          · obtain rfl : i = j := by omega
            have h5 := hu.out
            rw [hx] at h5
            cases h5
            exact hr.out
        case measure => simp [intOf]; omega
    · obtain rfl : j = n := by omega
      obtain rfl : R = true := HGd.out fun i x hx => HI.out i x (by have := (List.getElem?_eq_some_iff.1 hx).1; rw [hn.out] at this; exact this) hx
      go_wp2_with fail
      go_ret
      exact ⟨rfl, HB.out⟩

set_option maxRecDepth 100000 in
set_option maxHeartbeats 2000000 in
theorem all68_any (f : Tr → Bool) (k : FuncId) (caps : Array Value) (eg : ∀ (args : Array Value) (w : World), (callFunc k args).run Try.prog w = .ok (.enter k args) w) (l : List (Tr)) (A : Option Addr) (c : Nat) (hl : l.length ≤ 100000) (w : World) (he : Es ER w w.heap.size A l)
    (H : ∀ x ∈ l, ∀ W, Below w.heap.size w W → Calls Try.prog k (#[.agg #[.int .i64 x.i, .int .i64 x.a, .int .i64 x.b, .int .i64 x.c]] ++ caps) W fun e w' => e = .returned (.bool (f x)) ∧ Below W.heap.size W w') :
    Calls Try.prog 104 #[.slice A l.length c, .func (.func k) #[] caps] w fun e w' => e = .returned (.bool (l.all f)) ∧ Below w.heap.size w w' := by
  have HGd := Lib.hid (fun h => all_yes (f := f) (l := l) h)
  have HBd := Lib.hid (fun (k : Nat) (u : Tr) (h : l[k]? = some u) (hr : f u = false) => all_no h hr)
  have HL := Lib.hid (fun (k : Nat) (h : k < l.length) => get_lt h)
  generalize l.all f = R at *
  obtain ⟨n, hn⟩ : ∃ n, l.length = n := ⟨_, rfl⟩
  rw [hn] at HL hl ⊢
  have HE := Lib.hid he
  have HH := Lib.hid H
  replace hn := Lib.hid hn
  clear he H
  go_enter Try.func104, Try.ntmps104
  go_wp2_with fail
  go_loopw [9] (fun i wr => ∃ j : Nat, j ≤ n ∧ i = .int .i64 j ∧ (∀ (i : Nat) x, i < j → l[i]? = some x → f x = true) ∧ Below w.heap.size w wr) (fun i _ => n - (intOf i).toNat)
  case atStart => exact ⟨0, Nat.zero_le _, rfl, fun j x h => absurd h (Nat.not_lt_zero _), Below.refl _ _⟩
  case round =>
    obtain ⟨j, hk, rfl, hin, hb⟩ := hrel
    have HB := Lib.hid hb
    have HI := Lib.hid hin
    clear hin hb
    by_cases hlt : j < n
    · obtain ⟨u, hu⟩ := HL.out j hlt
      obtain ⟨b, off, rfl, hbB, hat⟩ := HE.out.at hu
      have hc := atR (show AtE ER wr b (off + j * 4) u from hat.below HB.out hbB)
      obtain ⟨c0, c1, c2, c3⟩ := hc
      have hbw := Nat.lt_of_lt_of_le hbB HB.out.size
      have hu' := List.mem_of_getElem? hu
      have HU := Lib.hid (fun W hW => HH.out u hu' W hW)
      replace hu := Lib.hid hu
      obtain ⟨r, hr⟩ : ∃ r, f u = r := ⟨_, rfl⟩
      rw [hr] at HU
      replace hr := Lib.hid hr
      clear hat hu'
      go_wp2_with fail
      have B2 := Lib.hid (bstep HB.out HB.out.size (new_below wr (.cells #[.int .i64 u.i, .int .i64 u.a, .int .i64 u.b, .int .i64 u.c] 74)))
      with_reducible refine (HU.out _ B2.out).mono ?_
      rintro e w2 ⟨rfl, hb2⟩
      have B3 := Lib.hid (bstep B2.out B2.out.size hb2)
      clear hb2 B2 HU c0 c1 c2 c3
      cases r
      · obtain rfl : R = false := HBd.out j u hu.out hr.out
        go_wp2_with fail
        go_ret
        exact ⟨rfl, B3.out⟩
      · go_wp2_with fail
        go_roundw
        case rel =>
          refine ⟨j + 1, by omega, by go_num, fun i x hj hx => ?_, B3.out⟩
          rcases Nat.lt_or_ge i j with h | h
          · exact HI.out i x h hx
          · obtain rfl : i = j := by omega
            have h5 := hu.out
            rw [hx] at h5
            cases h5
            exact hr.out
        case measure => simp [intOf]; omega
    · obtain rfl : j = n := by omega
      obtain rfl : R = true := HGd.out fun i x hx => HI.out i x (by have := (List.getElem?_eq_some_iff.1 hx).1; rw [hn.out] at this; exact this) hx
      go_wp2_with fail
      go_ret
      exact ⟨rfl, HB.out⟩
end Go.Proofs.Ytfmmfaeognoleaa
/-
  How many different numbers a list has (pure), and the contracts of scene.twice, at both types that it is called at: a set that never leaves the call.
-/
namespace Go.Proofs.Ytfmmfaeognoleaa
open Go.RowKit Go.Maps Go.WideMaps
attribute [local go_sem ↓] Go.wp_at_zero Go.wp_at_succ

def addI (l : List Int) (x : Int) : List Int := if l.contains x then l else l ++ [x]
/-- How many different ones. -/
def dis (l : List Int) : Nat := (l.foldl addI []).length
/-- Some number stands twice. -/
def twiceB (l : List Int) : Bool := decide (dis l < l.length)
theorem fold_no : ∀ (l L : List Int), (L ++ l).Nodup → l.foldl addI L = L ++ l
  | [], L, _ => by simp
  | x :: l, L, h => by
    have hx : L.contains x = false := by
      rw [List.contains_eq_mem]
      simp only [decide_eq_false_iff_not]
      intro hm
      rw [List.nodup_append] at h
      exact (h.2.2 x hm x (by simp)) rfl
    rw [List.foldl_cons, addI, hx, if_neg (by simp), fold_no l (L ++ [x]) (by simpa using h)]
    simp
theorem fold_nodup : ∀ (l L : List Int), L.Nodup → (l.foldl addI L).Nodup
  | [], L, h => h
  | x :: l, L, h => by
    rw [List.foldl_cons]
    refine fold_nodup l _ ?_
    unfold addI
    split
    · exact h
    · rename_i hx
      rw [List.nodup_append]
      refine ⟨h, by simp, fun a ha b hb e => ?_⟩
      simp only [List.mem_singleton] at hb
      subst hb e
      exact hx (by rw [List.contains_eq_mem]; simpa using ha)
theorem fold_mem : ∀ (l L : List Int) (a : Int), a ∈ l.foldl addI L ↔ a ∈ L ∨ a ∈ l
  | [], L, a => by simp
  | x :: l, L, a => by
    rw [List.foldl_cons, fold_mem l, List.mem_cons]
    unfold addI
    split
    · rename_i hx
      rw [List.contains_eq_mem] at hx
      constructor
      · rintro (h | h)
        · exact .inl h
        · exact .inr (.inr h)
      · rintro (h | rfl | h)
        · exact .inl h
        · exact .inl (by simpa using hx)
        · exact .inr h
    · rw [List.mem_append, List.mem_singleton, or_assoc]
theorem fold_le : ∀ (l L : List Int), (l.foldl addI L).length ≤ L.length + l.length
  | [], L => by simp
  | x :: l, L => by
    have h := fold_le l (addI L x)
    rw [List.foldl_cons]
    have : (addI L x).length ≤ L.length + 1 := by unfold addI; split <;> simp
    rw [List.length_cons]
    omega
theorem dis_nodup {l : List Int} (h : l.Nodup) : dis l = l.length := by
  unfold dis
  rw [fold_no l [] (by simpa using h)]
  rfl
theorem nodup_of_dis : ∀ (l : List Int), dis l = l.length → l.Nodup
  | l, h => by
    have h2 : ∀ (l L : List Int), L.Nodup → (l.foldl addI L).length = L.length + l.length → (L ++ l).Nodup := by
      intro l
      induction l with
      | nil => intro L hL _; simpa using hL
      | cons x l ih =>
        intro L hL hl
        rw [List.foldl_cons, List.length_cons] at hl
        have hb := fold_le l (addI L x)
        by_cases hx : L.contains x = true
        · have : addI L x = L := by unfold addI; rw [if_pos hx]
          rw [this] at hb hl
          omega
        · have e : addI L x = L ++ [x] := by unfold addI; rw [if_neg hx]
          rw [e] at hl
          have hn : (L ++ [x]).Nodup := by
            rw [List.nodup_append]
            refine ⟨hL, by simp, fun a ha y hy e2 => ?_⟩
            simp only [List.mem_singleton] at hy
            subst hy e2
            exact hx (by rw [List.contains_eq_mem]; simpa using ha)
          have := ih (L ++ [x]) hn (by rw [hl]; simp; omega)
          simpa using this
    have := h2 l [] (by simp) (by unfold dis at h; simpa using h)
    simpa using this
theorem twiceB_no {l : List Int} : twiceB l = false ↔ l.Nodup := by
  unfold twiceB
  constructor
  · intro h
    have := fold_le l []
    simp only [List.length_nil, Nat.zero_add] at this
    refine nodup_of_dis l ?_
    unfold dis at h ⊢
    simp only [decide_eq_false_iff_not] at h
    omega
  · intro h
    rw [dis_nodup h]
    simp
theorem any_int (x : Int) : ∀ l : List Int, (l.map (Lit.int .i64)).any (fun y : Lit => y.sameKey (.int .i64 x)) = l.contains x
  | [] => rfl
  | a :: r => by
    rw [List.map_cons, List.any_cons, List.contains_cons, any_int x r]
    congr 1
    show decide (IntKind.i64 = IntKind.i64 ∧ a = x) = (x == a)
    by_cases e : a = x
    · subst e
      simp
    · have e' : ¬ x = a := fun h => e h.symm
      simp [e, e']
theorem fold_lits : ∀ (l L : List Int), (l.map (Lit.int .i64)).foldl addKey (L.map (Lit.int .i64)) = (l.foldl addI L).map (Lit.int .i64)
  | [], L => rfl
  | x :: l, L => by
    rw [List.map_cons, List.foldl_cons, List.foldl_cons, ← fold_lits l]
    congr 1
    unfold addKey addI
    rw [any_int]
    split <;> simp
/-- The set of the first j numbers. -/
def Dn (l : List Int) (j : Nat) : DataW Unit := setOf (.agg []) ((l.take j).map (Lit.int .i64))
theorem Dn_zero (l : List Int) : Dn l 0 = .map [] := by simp [Dn, setOf]
theorem Dn_succ {l : List Int} {j : Nat} {x : Int} (h : l[j]? = some x) : Dn l (j + 1) = (Dn l j).put (.int .i64 x) (.agg []) := by
  unfold Dn
  rw [List.take_add_one, List.map_append, h]
  exact setOf_snoc _ _ _
theorem Dn_size (l : List Int) : Maps.size (Dn l l.length) = dis l := by
  unfold Dn dis
  rw [List.take_length, size_setOf _ _ (fun y hy => by obtain ⟨_, _, rfl⟩ := List.mem_map.1 hy; trivial)]
  have := fold_lits l []
  simp only [List.map_nil] at this
  rw [this, List.length_map]
theorem law3 : Keyed Try.prog 3 := int_keyed Try.underlying3
theorem key3 {n : Int} (h : I64 n) : keyOf Try.prog 3 (.int .i64 n) = some (.int .i64 n) := keyOf_int_mk Try.underlying3 (WalkArith.wf_i64 (by unfold I64 at h; omega))
theorem owns_below {w w' : World} {b n : Nat} {D : DataW Unit} (h : w.ownsMap Try.prog 3 unitElem b n D) (hb : Below w.heap.size w w') : w'.ownsMap Try.prog 3 unitElem b n D := by
  have hlt := h.lt
  obtain ⟨es, clock, hh, F, hs, hD⟩ := h
  exact ⟨es, clock, (hb.block b hlt).trans hh, F, hs, hD⟩

set_option maxRecDepth 100000 in
set_option maxHeartbeats 2000000 in
theorem twice50_any (l : List (Lo Dr)) (A : Option Addr) (c : Nat) (hl : l.length ≤ 100000) (hok : ∀ x ∈ l, I64 (x.x.id)) (w : World) (he : Es ED w w.heap.size A l) :
    Calls Try.prog 73 #[.slice A l.length c, .func (.func 74) #[] #[]] w fun e w' => e = .returned (.bool (twiceB (l.map (fun x => x.x.id)))) ∧ Below w.heap.size w w' := by
  have hmm := @run_makeMap Try.prog
  have hB : twiceB (l.map (fun x => x.x.id)) = decide (Maps.size (Dn (l.map (fun x => x.x.id)) l.length) < l.length) := by
    have := Dn_size (l.map (fun x => x.x.id))
    rw [List.length_map] at this
    rw [this]
    unfold twiceB
    rw [List.length_map]
  rw [hB]
  clear hB
  have HL := Lib.hid (fun (k : Nat) (h : k < l.length) => get_lt h)
  have HS := Lib.hid (fun (k : Nat) (u : Lo Dr) (h : l[k]? = some u) => Dn_succ (l := l.map (fun x => x.x.id)) (j := k) (x := u.x.id) (by rw [List.getElem?_map, h]; rfl))
  have hz := Dn_zero (l.map (fun x => x.x.id))
  have HO := Lib.hid (fun x (h : x ∈ l) => key3 (hok x h))
  obtain ⟨n, hn⟩ : ∃ n, l.length = n := ⟨_, rfl⟩
  rw [hn] at HL hl ⊢
  replace hn := Lib.hid hn
  have HE := Lib.hid he
  generalize Dn (l.map (fun x => x.x.id)) = D at *
  replace hz := Lib.hid hz
  clear he hok
  go_enter Try.func73, Try.ntmps73
  go_wp2_with fail
  go_loopw [11] (fun i wr => ∃ j : Nat, j ≤ n ∧ i = .int .i64 j ∧ wr.ownsMap Try.prog 3 unitElem w.heap.size j (D j) ∧ Below w.heap.size w wr) (fun i _ => n - (intOf i).toNat)
  case atStart => exact ⟨0, Nat.zero_le _, rfl, by rw [hz.out]; exact World.ownsMap_made _ _ _ _, (Below.refl _ _).alloc (Nat.le_refl _) _⟩
  case round =>
    obtain ⟨j, hk, rfl, hown, hb⟩ := hrel
    have HB := Lib.hid hb
    have HM := Lib.hid hown
    clear hb hown
    by_cases hlt : j < n
    · obtain ⟨u, hu⟩ := HL.out j hlt
      obtain ⟨b, off, rfl, hbB, hat⟩ := HE.out.at hu
      have hc := atD (show AtE ED wr b (off + j * 5) u from hat.below HB.out hbB)
      obtain ⟨c0, c1, c2, c3, c4⟩ := hc
      have hbw := Nat.lt_of_lt_of_le hbB HB.out.size
      have hkey := HO.out u (List.mem_of_getElem? hu)
      have hs := HS.out j u hu
      replace hs := Lib.hid hs
      clear hat hu
      go_wp2_with fail
      have B2 := Lib.hid (bstep HB.out HB.out.size (new_below wr (.cells #[.int .i64 u.x.id, .int .i64 u.x.prog, .int .i64 u.x.tex, .bool u.x.op, .slice u.A u.x.tris.length u.c] 52)))
      have M2 := Lib.hid (HM.out.alloc (.cells #[.int .i64 u.x.id, .int .i64 u.x.prog, .int .i64 u.x.tex, .bool u.x.op, .slice u.A u.x.tris.length u.c] 52))
      with_reducible refine (drawId_any u _).mono ?_
      rintro e w2 ⟨rfl, hb2⟩
      have B3 := Lib.hid (bstep B2.out B2.out.size hb2)
      have M3 := Lib.hid (owns_below M2.out hb2)
      clear hb2 B2 M2 HM c0 c1 c2 c3 c4
      have hlt2 : j < maxLen := by unfold maxLen; omega
      go_wp2_with (at_mapUpdate; refine wpList_mapUpdate_own _ rfl _ _ _ 161 rfl 3 162 law3 Try.underlying161 (unitElem (H := Unit)) w.heap.size j _ rfl M3.out hlt2 _ _ _ rfl rfl hkey _ [] unitElem_mk ?_; intro w3 hown3 hgrow3)
      have M4 := Lib.hid hown3
      have B4 := Lib.hid (B3.out.grown hgrow3 B3.out.size (fun k hk => by cases hk; exact Nat.le_refl _))
      clear hown3 hgrow3
      go_roundw
      case rel => exact ⟨j + 1, by omega, by go_num, hs.out.symm ▸ M4.out, B4.out⟩
      case measure => simp [intOf]; omega
    · obtain rfl : j = n := by omega
      have hsz := HM.out.size_le
      have hd : decide ((Maps.size (D j) : Int) < j) = decide (Maps.size (D j) < j) := by
        by_cases h : Maps.size (D j) < j
        · have : (Maps.size (D j) : Int) < j := by omega
          simp [h, this]
        · have : ¬ (Maps.size (D j) : Int) < j := by omega
          simp [h, this]
      have hm := HM.out
      have hrun := hm.len Try.underlying161 3
      go_wp2_with fail
      go_ret
      exact ⟨rfl, HB.out⟩

set_option maxRecDepth 100000 in
set_option maxHeartbeats 2000000 in
theorem twice52_any (l : List (Tr)) (A : Option Addr) (c : Nat) (hl : l.length ≤ 100000) (hok : ∀ x ∈ l, I64 (x.i)) (w : World) (he : Es ER w w.heap.size A l) :
    Calls Try.prog 75 #[.slice A l.length c, .func (.func 76) #[] #[]] w fun e w' => e = .returned (.bool (twiceB (l.map (fun x => x.i)))) ∧ Below w.heap.size w w' := by
  have hmm := @run_makeMap Try.prog
  have hB : twiceB (l.map (fun x => x.i)) = decide (Maps.size (Dn (l.map (fun x => x.i)) l.length) < l.length) := by
    have := Dn_size (l.map (fun x => x.i))
    rw [List.length_map] at this
    rw [this]
    unfold twiceB
    rw [List.length_map]
  rw [hB]
  clear hB
  have HL := Lib.hid (fun (k : Nat) (h : k < l.length) => get_lt h)
  have HS := Lib.hid (fun (k : Nat) (u : Tr) (h : l[k]? = some u) => Dn_succ (l := l.map (fun x => x.i)) (j := k) (x := u.i) (by rw [List.getElem?_map, h]; rfl))
  have hz := Dn_zero (l.map (fun x => x.i))
  have HO := Lib.hid (fun x (h : x ∈ l) => key3 (hok x h))
  obtain ⟨n, hn⟩ : ∃ n, l.length = n := ⟨_, rfl⟩
  rw [hn] at HL hl ⊢
  replace hn := Lib.hid hn
  have HE := Lib.hid he
  generalize Dn (l.map (fun x => x.i)) = D at *
  replace hz := Lib.hid hz
  clear he hok
  go_enter Try.func75, Try.ntmps75
  go_wp2_with fail
  go_loopw [11] (fun i wr => ∃ j : Nat, j ≤ n ∧ i = .int .i64 j ∧ wr.ownsMap Try.prog 3 unitElem w.heap.size j (D j) ∧ Below w.heap.size w wr) (fun i _ => n - (intOf i).toNat)
  case atStart => exact ⟨0, Nat.zero_le _, rfl, by rw [hz.out]; exact World.ownsMap_made _ _ _ _, (Below.refl _ _).alloc (Nat.le_refl _) _⟩
  case round =>
    obtain ⟨j, hk, rfl, hown, hb⟩ := hrel
    have HB := Lib.hid hb
    have HM := Lib.hid hown
    clear hb hown
    by_cases hlt : j < n
    · obtain ⟨u, hu⟩ := HL.out j hlt
      obtain ⟨b, off, rfl, hbB, hat⟩ := HE.out.at hu
      have hc := atR (show AtE ER wr b (off + j * 4) u from hat.below HB.out hbB)
      obtain ⟨c0, c1, c2, c3⟩ := hc
      have hbw := Nat.lt_of_lt_of_le hbB HB.out.size
      have hkey := HO.out u (List.mem_of_getElem? hu)
      have hs := HS.out j u hu
      replace hs := Lib.hid hs
      clear hat hu
      go_wp2_with fail
      have B2 := Lib.hid (bstep HB.out HB.out.size (new_below wr (.cells #[.int .i64 u.i, .int .i64 u.a, .int .i64 u.b, .int .i64 u.c] 74)))
      have M2 := Lib.hid (HM.out.alloc (.cells #[.int .i64 u.i, .int .i64 u.a, .int .i64 u.b, .int .i64 u.c] 74))
      with_reducible refine (triId_any u _).mono ?_
      rintro e w2 ⟨rfl, hb2⟩
      have B3 := Lib.hid (bstep B2.out B2.out.size hb2)
      have M3 := Lib.hid (owns_below M2.out hb2)
      clear hb2 B2 M2 HM c0 c1 c2 c3
      have hlt2 : j < maxLen := by unfold maxLen; omega
      go_wp2_with (at_mapUpdate; refine wpList_mapUpdate_own _ rfl _ _ _ 161 rfl 3 162 law3 Try.underlying161 (unitElem (H := Unit)) w.heap.size j _ rfl M3.out hlt2 _ _ _ rfl rfl hkey _ [] unitElem_mk ?_; intro w3 hown3 hgrow3)
      have M4 := Lib.hid hown3
      have B4 := Lib.hid (B3.out.grown hgrow3 B3.out.size (fun k hk => by cases hk; exact Nat.le_refl _))
      clear hown3 hgrow3
      go_roundw
      case rel => exact ⟨j + 1, by omega, by go_num, hs.out.symm ▸ M4.out, B4.out⟩
      case measure => simp [intOf]; omega
    · obtain rfl : j = n := by omega
      have hsz := HM.out.size_le
      have hd : decide ((Maps.size (D j) : Int) < j) = decide (Maps.size (D j) < j) := by
        by_cases h : Maps.size (D j) < j
        · have : (Maps.size (D j) : Int) < j := by omega
          simp [h, this]
        · have : ¬ (Maps.size (D j) : Int) < j := by omega
          simp [h, this]
      have hm := HM.out
      have hrun := hm.len Try.underlying161 3
      go_wp2_with fail
      go_ret
      exact ⟨rfl, HB.out⟩
end Go.Proofs.Ytfmmfaeognoleaa
/-
  Which scenes may be, or why not (pure): as both package scene and the reference tell it.
-/
namespace Go.Proofs.Ytfmmfaeognoleaa

structure PS where
  w : Int
  h : Int
  k : Col
  vs : List U.V
  ts : List Tx
  ps : List (List C.In)
  ds : List Dr
def Sc.p (s : Sc) : PS := ⟨s.w, s.h, s.k, s.vs, s.ts.map Lo.x, s.ps.map Lo.x, s.ds.map Lo.x⟩
def triB (m : Nat) (t : Tr) : Bool := inB t.i 0 9999 && [t.a, t.b, t.c].all (fun v => inB v 0 (m - 1))
def texB (s : PS) (d : Dr) : Bool := if d.tex = -1 then !((s.ps.getD d.prog.toNat []).any C.tex) else inB d.tex 0 (s.ts.length - 1)
def ptsB (s : PS) (d : Dr) : Bool := inB d.id 0 9999 && (inB d.prog 0 (s.ps.length - 1) && (texB s d && d.tris.all (triB s.vs.length)))
/-- What is wrong with a draw, of which those ahead of it are told. -/
def drawE (s : PS) (pre : List Dr) (d : Dr) : Int := if ptsB s d = false then 24 else if (pre.map Dr.id).contains d.id || twiceB (d.tris.map Tr.i) then 25 else 0
def errAt (s : PS) (k : Nat) : Int := match s.ds[k]? with
  | some d => drawE s (s.ds.take k) d
  | none => 0
/-- The first that is not 0, from k on, of n. -/
def firstE (f : Nat → Int) : Nat → Nat → Int
  | _, 0 => 0
  | k, n + 1 => if f k = 0 then firstE f (k + 1) n else f k
def manyB (s : PS) : Bool := decide (64 < s.vs.length) || (decide (4 < s.ts.length) || (decide (4 < s.ps.length) || (decide (8 < s.ds.length) || !(s.ds.all fun d => decide (d.tris.length ≤ 32)))))
def headE (s : PS) : Int :=
  if (inB s.w 1 64 && inB s.h 1 64) = false then 20
  else if rightB s.k = false then 1
  else if manyB s = true then 26
  else if s.vs.all U.rightB = false then 21
  else if s.ts.all Tx.right = false then 22
  else if s.ps.all (fun l => decide (C.chk l = 0)) = false then 23
  else 0
def check (s : PS) : Int := if headE s = 0 then firstE (errAt s) 0 s.ds.length else headE s
def count (s : PS) : Nat := (s.ds.map fun d => d.tris.length).sum

theorem firstE_good (f : Nat → Int) : ∀ (n k : Nat), (∀ j, k ≤ j → j < k + n → f j = 0) → firstE f k n = 0
  | 0, _, _ => rfl
  | n + 1, k, h => by
    unfold firstE
    rw [if_pos (h k (by omega) (by omega))]
    exact firstE_good f n (k + 1) fun j h1 h2 => h j (by omega) (by omega)
theorem firstE_bad (f : Nat → Int) : ∀ (n k j : Nat), k ≤ j → j < k + n → (∀ i, k ≤ i → i < j → f i = 0) → f j ≠ 0 → firstE f k n = f j
  | 0, k, j, h1, h2, _, _ => by omega
  | n + 1, k, j, h1, h2, h3, h4 => by
    unfold firstE
    by_cases e : k = j
    · subst e
      rw [if_neg h4]
    · rw [if_pos (h3 k (by omega) (by omega))]
      exact firstE_bad f n (k + 1) j (by omega) (by omega) (fun i a b => h3 i (by omega) b) h4
theorem errs_good {s : PS} {n : Nat} (h : ∀ j, j < n → errAt s j = 0) : firstE (errAt s) 0 n = 0 := firstE_good _ _ _ fun j _ hj => h j (by omega)
theorem errs_bad {s : PS} {n j : Nat} (hj : j < n) (h : ∀ i, i < j → errAt s i = 0) (he : errAt s j ≠ 0) : firstE (errAt s) 0 n = errAt s j := firstE_bad _ _ _ _ (by omega) (by omega) (fun i _ hi => h i hi) he
theorem errAt_eq {s : PS} {k : Nat} {d : Dr} (h : s.ds[k]? = some d) : errAt s k = drawE s (s.ds.take k) d := by
  unfold errAt
  rw [h]
theorem drawE_zero {s : PS} {pre : List Dr} {d : Dr} : drawE s pre d = 0 ↔ ptsB s d = true ∧ d.id ∉ pre.map Dr.id ∧ (d.tris.map Tr.i).Nodup := by
  unfold drawE
  rw [← twiceB_no]
  cases h1 : ptsB s d
  · simp
  · rw [if_neg (by simp), List.contains_eq_mem]
    cases h3 : twiceB (d.tris.map Tr.i)
    · by_cases h2 : d.id ∈ pre.map Dr.id
      · simp [h2]
      · simp [h2]
    · simp
theorem take_snoc {α : Type} {l : List α} {k : Nat} {u : α} (h : l[k]? = some u) : l.take (k + 1) = l.take k ++ [u] := by
  rw [List.take_add_one, h]
  rfl
theorem nodup_snoc {l : List Int} {x : Int} : (l ++ [x]).Nodup ↔ l.Nodup ∧ x ∉ l := by
  rw [List.nodup_append]
  constructor
  · rintro ⟨h1, _, h3⟩
    exact ⟨h1, fun hx => h3 x hx x (by simp) rfl⟩
  · rintro ⟨h1, h2⟩
    refine ⟨h1, by simp, fun a ha b hb e => ?_⟩
    simp only [List.mem_singleton] at hb
    subst hb e
    exact h2 ha
/-- Of draws that are right so far no two have one id. -/
theorem errs_nodup {s : PS} : ∀ {k : Nat}, k ≤ s.ds.length → (∀ j, j < k → errAt s j = 0) → ((s.ds.take k).map Dr.id).Nodup
  | 0, _, _ => by simp
  | k + 1, hk, h => by
    obtain ⟨d, hd⟩ := get_lt (l := s.ds) (k := k) (by omega)
    have h0 := h k (by omega)
    rw [errAt_eq hd, drawE_zero] at h0
    rw [take_snoc hd, List.map_append]
    exact nodup_snoc.2 ⟨errs_nodup (by omega) fun j hj => h j (by omega), h0.2.1⟩
theorem twice_last {l : List Int} {x : Int} (h : l.Nodup) : twiceB (l ++ [x]) = l.contains x := by
  rw [List.contains_eq_mem]
  by_cases hx : x ∈ l
  · have : ¬ twiceB (l ++ [x]) = false := fun e => (nodup_snoc.1 (twiceB_no.1 e)).2 hx
    simpa [hx] using this
  · have := twiceB_no.2 (nodup_snoc.2 ⟨h, hx⟩)
    simpa [hx] using this
theorem nodup_apart {l : List Int} (h : l.Nodup) {i j : Nat} {x : Int} (hij : i < j) (hi : l[i]? = some x) (hj : l[j]? = some x) : False := by
  obtain ⟨i1, i2⟩ := List.getElem?_eq_some_iff.1 hi
  obtain ⟨j1, j2⟩ := List.getElem?_eq_some_iff.1 hj
  exact List.pairwise_iff_getElem.1 h i j i1 j1 hij (i2.trans j2.symm)
theorem check_zero {s : PS} : check s = 0 ↔ headE s = 0 ∧ (∀ d ∈ s.ds, ptsB s d = true ∧ (d.tris.map Tr.i).Nodup) ∧ (s.ds.map Dr.id).Nodup := by
  unfold check
  by_cases h0 : headE s = 0
  · rw [if_pos h0]
    constructor
    · intro h
      have hall : ∀ j, j < s.ds.length → errAt s j = 0 := by
        intro j
        induction j using Nat.strongRecOn with
        | _ j ih =>
          intro hj
          by_cases e : errAt s j = 0
          · exact e
          · rw [errs_bad hj (fun i hi => ih i hi (by omega)) e] at h
            exact absurd h e
      refine ⟨h0, fun d hd => ?_, ?_⟩
      · obtain ⟨j, hj⟩ := List.mem_iff_getElem?.1 hd
        have := hall j (List.getElem?_eq_some_iff.1 hj).1
        rw [errAt_eq hj, drawE_zero] at this
        exact ⟨this.1, this.2.2⟩
      · have := errs_nodup (Nat.le_refl _) hall
        rwa [List.take_length] at this
    · rintro ⟨-, h1, h2⟩
      refine errs_good fun j hj => ?_
      obtain ⟨d, hd⟩ := get_lt hj
      rw [errAt_eq hd, drawE_zero]
      obtain ⟨a, b⟩ := h1 d (List.mem_of_getElem? hd)
      refine ⟨a, fun hm => ?_, b⟩
      obtain ⟨e, he, hid⟩ := List.mem_map.1 hm
      obtain ⟨i, hi⟩ := List.mem_iff_getElem?.1 he
      rw [List.getElem?_take] at hi
      split at hi
      · rename_i hij
        have hl := (List.getElem?_eq_some_iff.1 hi).1
        have h3 : (s.ds.map Dr.id)[i]? = some d.id := by rw [List.getElem?_map, hi, ← hid]; rfl
        have h4 : (s.ds.map Dr.id)[j]? = some d.id := by rw [List.getElem?_map, hd]; rfl
        exact nodup_apart h2 hij h3 h4
      · cases hi
  · rw [if_neg h0]
    exact ⟨fun h => absurd h h0, fun h => absurd h.1 h0⟩
end Go.Proofs.Ytfmmfaeognoleaa
/-
  The contracts of pointsRight, with its closures, and of texRight.
-/
namespace Go.Proofs.Ytfmmfaeognoleaa
open Go.RowKit
attribute [local go_sem ↓] Go.wp_at_zero Go.wp_at_succ

theorem mk_func (fn : Fn) (first cap : Array Value) (w : World) : (Instr.makeFunc fn first cap).run Try.prog w = .ok (.func fn first cap) w := rfl
theorem enters62 (args : Array Value) (w : World) : (callFunc 98 args).run Try.prog w = .ok (.enter 98 args) w := by
  go_simp
theorem enters61 (args : Array Value) (w : World) : (callFunc 97 args).run Try.prog w = .ok (.enter 97 args) w := by
  go_simp
theorem onVerts_any (s : Sc) (g : Nat) (v : Int) (hm : s.vs.length ≤ 100000) (w : World) (hg : w.heap[g]? = some (scB s)) :
    Calls Try.prog 98 #[.int .i64 v, .pointer (some ⟨g, 0, none⟩)] w fun e w' => e = .returned (.bool (inB v 0 (s.vs.length - 1))) ∧ Below w.heap.size w w' := by
  have HP := Lib.hid (isPlace63 v s.vA s.vs.length s.vc hm)
  obtain ⟨c0, c1, c2, c3, c4, c5, c6, c7, c8, c9⟩ := scB_cell hg
  generalize inB v 0 (s.vs.length - 1) = r at *
  clear hg c0 c1 c2 c3 c4 c5 c7 c8 c9
  go_enter Try.func98, Try.ntmps98
  go_wp2_with fail
  with_reducible refine (HP.out _).mono ?_
  rintro e w' ⟨rfl, rfl⟩
  go_wp2
  go_ret
  exact ⟨rfl, Below.refl _ _⟩
def trB (t : Tr) : Obj := .cells #[.int .i64 t.i, .int .i64 t.a, .int .i64 t.b, .int .i64 t.c] 74 (0, 0)
theorem trB_cell {w : World} {g : Nat} {t : Tr} (h : w.heap[g]? = some (trB t)) : w.cell? ⟨g, 0, none⟩ = some (.int .i64 t.i) ∧ w.cell? ⟨g, 1, none⟩ = some (.int .i64 t.a) ∧ w.cell? ⟨g, 2, none⟩ = some (.int .i64 t.b) ∧ w.cell? ⟨g, 3, none⟩ = some (.int .i64 t.c) := by
  unfold trB at h
  exact ⟨Joins.cell_of_block h 0, Joins.cell_of_block h 1, Joins.cell_of_block h 2, Joins.cell_of_block h 3⟩
theorem three_es {w : World} {g : Nat} {t : Tr} (h : w.heap[g]? = some (trB t)) : Es EN w w.heap.size (some ⟨g, 1, none⟩) [t.a, t.b, t.c] := fun _ => by
  obtain ⟨c0, c1, c2, c3⟩ := trB_cell h
  refine ⟨g, 1, rfl, (Array.getElem?_eq_some_iff.1 h).1, fun j u hj i v hv => ?_⟩
  have hi : i = 0 := by
    rcases Nat.eq_zero_or_pos i with h | h
    · exact h
    · rw [List.getElem?_eq_none (by simp [EN]; omega)] at hv; cases hv
  subst hi
  obtain rfl : Value.int .i64 u = v := by simpa [EN] using hv
  rcases (show j = 0 ∨ j = 1 ∨ j = 2 ∨ 3 ≤ j by omega) with rfl | rfl | rfl | h3
  · obtain rfl : t.a = u := by simpa using hj
    exact c1
  · obtain rfl : t.b = u := by simpa using hj
    exact c2
  · obtain rfl : t.c = u := by simpa using hj
    exact c3
  · rw [List.getElem?_eq_none (by simpa using h3)] at hj; cases hj
set_option maxRecDepth 100000 in
set_option maxHeartbeats 2000000 in
theorem triRight_any (s : Sc) (g : Nat) (t : Tr) (hm : s.vs.length ≤ 100000) (w : World) (hg : w.heap[g]? = some (scB s)) :
    Calls Try.prog 97 #[.agg #[.int .i64 t.i, .int .i64 t.a, .int .i64 t.b, .int .i64 t.c], .pointer (some ⟨g, 0, none⟩)] w fun e w' => e = .returned (.bool (triB s.vs.length t)) ∧ Below w.heap.size w w' := by
  have hmf := mk_func
  have HI := Lib.hid (isId_any t.i)
  have HV := Lib.hid (fun v W (hb : Below w.heap.size w W) => onVerts_any s g v hm W (scB_keep hg hb (scB_lt hg)))
  have HA := Lib.hid (show ∀ W, Below w.heap.size w W → W.heap[w.heap.size]? = some (trB t) → Calls Try.prog 101 #[.slice (some ⟨w.heap.size, 1, none⟩) 3 3, .func (.func 98) #[] #[.pointer (some ⟨g, 0, none⟩)]] W fun e w' => e = .returned (.bool ([t.a, t.b, t.c].all (fun v => inB v 0 (s.vs.length - 1)))) ∧ Below W.heap.size W w' from fun W (hb : Below w.heap.size w W) (hW : W.heap[w.heap.size]? = some (trB t)) => all65_any (fun v => inB v 0 (s.vs.length - 1)) 98 #[.pointer (some ⟨g, 0, none⟩)] enters62 [t.a, t.b, t.c] (some ⟨w.heap.size, 1, none⟩) 3 (by simp) W (three_es hW) (fun x _ W2 h2 => HV.out x W2 (hb.trans (h2.mono hb.size))))
  have HB := Lib.hid (new_below w (.cells #[.int .i64 t.i, .int .i64 t.a, .int .i64 t.b, .int .i64 t.c] 74))
  have HT := Lib.hid (show (w.alloc (.cells #[.int .i64 t.i, .int .i64 t.a, .int .i64 t.b, .int .i64 t.c] 74)).heap[w.heap.size]? = some (trB t) from heap_alloc_new _ _)
  have hgw := scB_lt hg
  unfold triB
  generalize ([t.a, t.b, t.c].all fun v => inB v 0 (s.vs.length - 1)) = r at *
  cases hi : inB t.i 0 9999
  · rw [hi] at HI
    clear hi hg HA HV
    go_enter Try.func97, Try.ntmps97
    go_wp2_with fail
    with_reducible refine (HI.out _).mono ?_
    rintro e w' ⟨rfl, rfl⟩
    go_wp2
    go_ret
    exact ⟨rfl, HB.out⟩
  · rw [hi] at HI
    clear hi hg HV
    go_enter Try.func97, Try.ntmps97
    go_wp2_with fail
    with_reducible refine (HI.out _).mono ?_
    rintro e w' ⟨rfl, rfl⟩
    go_wp2_with fail
    with_reducible refine (HA.out _ HB.out HT.out).mono ?_
    rintro e w2 ⟨rfl, hb⟩
    have B2 := Lib.hid (bstep HB.out HB.out.size hb)
    clear hb
    go_wp2
    go_ret
    exact ⟨by simp, B2.out⟩
set_option maxRecDepth 100000 in
set_option maxHeartbeats 2000000 in
theorem texRight_any (s : Sc) (l : Lo Dr) (w : World) (ha : s.at w w.heap.size) (hok : s.ok) (hf : s.few) (h0 : 0 ≤ l.x.prog) (h1 : l.x.prog ≤ s.ps.length - 1) :
    Calls Try.prog 103 #[.agg #[.int .i64 s.w, .int .i64 s.h, .int .u8 s.k.r, .int .u8 s.k.g, .int .u8 s.k.b, .int .u8 s.k.a, .slice s.vA s.vs.length s.vc, .slice s.tA s.ts.length s.tc, .slice s.pA s.ps.length s.pc, .slice s.dA s.ds.length s.dc], .agg #[.int .i64 l.x.id, .int .i64 l.x.prog, .int .i64 l.x.tex, .bool l.x.op, .slice l.A l.x.tris.length l.c]] w fun e w' => e = .returned (.bool (texB s.p l.x)) ∧ Below w.heap.size w w' := by
  have hk : l.x.prog.toNat < s.ps.length := by omega
  obtain ⟨u, hu⟩ := get_lt hk
  obtain ⟨b, off, hA, hbB, hat⟩ := ha.p.at hu
  have hc := atP hat
  have hmu := List.mem_of_getElem? hu
  have HP := Lib.hid (isPlace74 l.x.tex s.tA s.ts.length s.tc hf.ts)
  have HK := Lib.hid (fun o o' => bstep (new_below w o) (by simp) (new_below _ o'))
  have HS := Lib.hid (fun W (hb : Below w.heap.size w W) => C.samples_any u.x u.A u.c (hf.px u hmu) (hok.ps u hmu).1 W (((ha.px u hmu).below hb).sharp))
  have e1 : texB s.p l.x = if l.x.tex = -1 then !(u.x.any C.tex) else inB l.x.tex 0 (s.ts.length - 1) := by
    unfold texB Sc.p
    dsimp only
    rw [List.length_map, List.getD_eq_getElem?_getD, List.getElem?_map, hu]
    rfl
  rw [e1]
  obtain ⟨j, hj⟩ : ∃ j, l.x.prog.toNat = j := ⟨_, rfl⟩
  rw [hj] at hk hc
  have hp : l.x.prog = j := by omega
  have c0 : w.cell? ⟨b, off + j, none⟩ = some (.slice u.A u.x.length u.c) := by simpa [EP] using hc
  rw [hA, hp]
  generalize s.ps.length = n at *
  have hjn : (j : Int) < n := by omega
  clear ha hok hf e1 hu hat hc hmu h0 h1 hj hp hA
  by_cases ht : l.x.tex = -1
  · rw [if_pos ht]
    have d1 : (l.x.tex == -1) = true := by simp [ht]
    have d2 : decide (l.x.tex = -1) = true := by simp [ht]
    clear ht HP
    go_enter Try.func103, Try.ntmps103
    go_wp2_with fail
    with_reducible refine (HS.out _ (HK.out _ _)).mono ?_
    rintro e w2 ⟨rfl, hb⟩
    have B3 := Lib.hid (bstep (HK.out _ _) (HK.out _ _).size hb)
    clear hb
    go_wp2
    go_ret
    exact ⟨rfl, B3.out⟩
  · rw [if_neg ht]
    have d1 : (l.x.tex == -1) = false := by simp [ht]
    have d2 : decide (l.x.tex = -1) = false := by simp [ht]
    clear ht HS
    go_enter Try.func103, Try.ntmps103
    go_wp2_with fail
    with_reducible refine (HP.out _).mono ?_
    rintro e w2 ⟨rfl, rfl⟩
    go_wp2
    go_ret
    exact ⟨rfl, HK.out _ _⟩
end Go.Proofs.Ytfmmfaeognoleaa
/-
  The contracts of pointsRight, tooMany and checkLast.
-/
namespace Go.Proofs.Ytfmmfaeognoleaa
open Go.RowKit
attribute [local go_sem ↓] Go.wp_at_zero Go.wp_at_succ

theorem ptsB_eq (s : Sc) (d : Dr) : ptsB s.p d = (inB d.id 0 9999 && (inB d.prog 0 (s.ps.length - 1) && (texB s.p d && d.tris.all (triB s.vs.length)))) := by
  unfold ptsB Sc.p
  simp
set_option maxRecDepth 100000 in
set_option maxHeartbeats 4000000 in
theorem pts_any (s : Sc) (l : Lo Dr) (w : World) (ha : s.at w w.heap.size) (hok : s.ok) (hf : s.few) (hl : l.x.tris.length ≤ 100000) (he : Es ER w w.heap.size l.A l.x.tris) :
    Calls Try.prog 72 #[.agg #[.int .i64 s.w, .int .i64 s.h, .int .u8 s.k.r, .int .u8 s.k.g, .int .u8 s.k.b, .int .u8 s.k.a, .slice s.vA s.vs.length s.vc, .slice s.tA s.ts.length s.tc, .slice s.pA s.ps.length s.pc, .slice s.dA s.ds.length s.dc], .agg #[.int .i64 l.x.id, .int .i64 l.x.prog, .int .i64 l.x.tex, .bool l.x.op, .slice l.A l.x.tris.length l.c]] w fun e w' => e = .returned (.bool (ptsB s.p l.x)) ∧ Below w.heap.size w w' := by
  have hmf := mk_func
  have HK := Lib.hid (bstep (new_below w (.cells #[.int .i64 s.w, .int .i64 s.h, .int .u8 s.k.r, .int .u8 s.k.g, .int .u8 s.k.b, .int .u8 s.k.a, .slice s.vA s.vs.length s.vc, .slice s.tA s.ts.length s.tc, .slice s.pA s.ps.length s.pc, .slice s.dA s.ds.length s.dc] 33)) (by simp) (new_below _ (.cells #[.int .i64 l.x.id, .int .i64 l.x.prog, .int .i64 l.x.tex, .bool l.x.op, .slice l.A l.x.tris.length l.c] 52)))
  have HG := Lib.hid (show ((w.alloc (.cells #[.int .i64 s.w, .int .i64 s.h, .int .u8 s.k.r, .int .u8 s.k.g, .int .u8 s.k.b, .int .u8 s.k.a, .slice s.vA s.vs.length s.vc, .slice s.tA s.ts.length s.tc, .slice s.pA s.ps.length s.pc, .slice s.dA s.ds.length s.dc] 33)).alloc (.cells #[.int .i64 l.x.id, .int .i64 l.x.prog, .int .i64 l.x.tex, .bool l.x.op, .slice l.A l.x.tris.length l.c] 52)).heap[w.heap.size]? = some (scB s) from new_at20 _ _ _)
  have HD := Lib.hid (show ((w.alloc (.cells #[.int .i64 s.w, .int .i64 s.h, .int .u8 s.k.r, .int .u8 s.k.g, .int .u8 s.k.b, .int .u8 s.k.a, .slice s.vA s.vs.length s.vc, .slice s.tA s.ts.length s.tc, .slice s.pA s.ps.length s.pc, .slice s.dA s.ds.length s.dc] 33)).alloc (.cells #[.int .i64 l.x.id, .int .i64 l.x.prog, .int .i64 l.x.tex, .bool l.x.op, .slice l.A l.x.tris.length l.c] 52)).heap[w.heap.size + 1]? = some (drB l) from new_at2 _ _ _)
  have H1 := Lib.hid (isId_any l.x.id)
  have H2 := Lib.hid (isPlace66 l.x.prog s.pA s.ps.length s.pc hf.ps)
  have H3 := Lib.hid (fun W (hb : Below w.heap.size w W) (h0 : 0 ≤ l.x.prog) (h1 : l.x.prog ≤ s.ps.length - 1) => texRight_any s l W ((ha.below hb).sharp) hok hf h0 h1)
  have H4 := Lib.hid (fun W (hb : Below w.heap.size w W) (hg : W.heap[w.heap.size]? = some (scB s)) => all68_any (triB s.vs.length) 97 #[.pointer (some ⟨w.heap.size, 0, none⟩)] enters61 l.x.tris l.A l.c hl W ((he.below hb).sharp) (fun t _ W2 h2 => triRight_any s w.heap.size t hf.vs W2 (scB_keep hg h2 (scB_lt hg))))
  rw [ptsB_eq]
  have hr2 : inB l.x.prog 0 (s.ps.length - 1) = true → 0 ≤ l.x.prog ∧ l.x.prog ≤ s.ps.length - 1 := fun h => by unfold inB at h; exact of_decide_eq_true h
  replace hr2 := Lib.hid hr2
  generalize l.x.tris.all (triB s.vs.length) = r4 at *
  generalize texB s.p l.x = r3 at *
  clear ha hok hf hl he
  cases h1 : inB l.x.id 0 9999
  · rw [h1] at H1
    clear h1 H2 H3 H4 hr2
    go_enter Try.func72, Try.ntmps72
    go_wp2_with fail
    with_reducible refine (H1.out _).mono ?_
    rintro e w2 ⟨rfl, rfl⟩
    go_wp2
    go_ret
    exact ⟨rfl, HK.out⟩
  rw [h1] at H1
  clear h1
  cases h2 : inB l.x.prog 0 (s.ps.length - 1)
  · rw [h2] at H2
    clear h2 H3 H4 hr2
    go_enter Try.func72, Try.ntmps72
    go_wp2_with fail
    with_reducible refine (H1.out _).mono ?_
    rintro e w2 ⟨rfl, rfl⟩
    go_wp2_with fail
    with_reducible refine (H2.out _).mono ?_
    rintro e w2 ⟨rfl, rfl⟩
    go_wp2
    go_ret
    exact ⟨rfl, HK.out⟩
  rw [h2] at H2
  obtain ⟨b0, b1⟩ := hr2.out h2
  have H3' := Lib.hid (fun W hW => H3.out W hW b0 b1)
  clear h2 H3 hr2 b0 b1
  go_enter Try.func72, Try.ntmps72
  go_wp2_with fail
  with_reducible refine (H1.out _).mono ?_
  rintro e w2 ⟨rfl, rfl⟩
  go_wp2_with fail
  with_reducible refine (H2.out _).mono ?_
  rintro e w2 ⟨rfl, rfl⟩
  go_wp2_with fail
  with_reducible refine (H3'.out _ HK.out).mono ?_
  rintro e w2 ⟨rfl, hb⟩
  have B2 := Lib.hid (bstep HK.out HK.out.size hb)
  have G2 := Lib.hid (scB_keep HG.out hb (scB_lt HG.out))
  have hd : w2.heap[w.heap.size + 1]? = some (drB l) := (hb.block _ (drB_lt HD.out)).trans HD.out
  obtain ⟨-, -, -, -, c4⟩ := drB_cell hd
  have hlt := drB_lt hd
  clear hb hd
  cases r3
  · go_wp2
    go_ret
    exact ⟨rfl, B2.out⟩
  · go_wp2_with fail
    with_reducible refine (H4.out _ B2.out G2.out).mono ?_
    rintro e w3 ⟨rfl, hb⟩
    have B3 := Lib.hid (bstep B2.out B2.out.size hb)
    clear hb
    go_wp2
    go_ret
    exact ⟨by simp, B3.out⟩
set_option maxRecDepth 100000 in
set_option maxHeartbeats 4000000 in
theorem tooMany_any (s : Sc) (w : World) (ha : s.at w w.heap.size) :
    Calls Try.prog 33 #[.agg #[.int .i64 s.w, .int .i64 s.h, .int .u8 s.k.r, .int .u8 s.k.g, .int .u8 s.k.b, .int .u8 s.k.a, .slice s.vA s.vs.length s.vc, .slice s.tA s.ts.length s.tc, .slice s.pA s.ps.length s.pc, .slice s.dA s.ds.length s.dc]] w fun e w' => e = .returned (.bool (manyB s.p)) ∧ Below w.heap.size w w' := by
  have HK := Lib.hid (new_below w (.cells #[.int .i64 s.w, .int .i64 s.h, .int .u8 s.k.r, .int .u8 s.k.g, .int .u8 s.k.b, .int .u8 s.k.a, .slice s.vA s.vs.length s.vc, .slice s.tA s.ts.length s.tc, .slice s.pA s.ps.length s.pc, .slice s.dA s.ds.length s.dc] 33))
  have HF := Lib.hid (show ∀ W, Below w.heap.size w W → s.ds.length ≤ 8 → Calls Try.prog 66 #[.slice s.dA s.ds.length s.dc, .func (.func 67) #[] #[]] W fun e w' => e = .returned (.bool (s.ds.all fun l => decide (l.x.tris.length ≤ 32))) ∧ Below W.heap.size W w' from
    fun W hb h8 => all43_any (fun l => decide (l.x.tris.length ≤ 32)) 67 #[] (fun args w => by go_simp) s.ds s.dA s.dc (by omega) W ((ha.d.below hb).sharp) (fun x _ W2 _ => fewTris_any x W2))
  have e : manyB s.p = (decide (64 < s.vs.length) || (decide (4 < s.ts.length) || (decide (4 < s.ps.length) || (decide (8 < s.ds.length) || !(s.ds.all fun l => decide (l.x.tris.length ≤ 32)))))) := by
    unfold manyB Sc.p
    simp [Function.comp_def]
  rw [e]
  generalize (s.ds.all fun l => decide (l.x.tris.length ≤ 32)) = r at *
  generalize s.vs.length = a at *
  generalize s.ts.length = b at *
  generalize s.ps.length = c at *
  generalize s.ds.length = d at *
  clear ha e
  by_cases h1 : 64 < a
  · have k1 : (64 : Int) < a := by omega
    have e1 : decide (64 < a) = true := by simp [h1]
    rw [e1]
    clear e1 h1
    go_enter Try.func33, Try.ntmps33
    go_wp2
    go_ret
    exact ⟨rfl, HK.out⟩
  have k1 : ¬ (64 : Int) < a := by omega
  have e1 : decide (64 < a) = false := by simp; omega
  rw [e1]
  clear e1 h1
  by_cases h2 : 4 < b
  · have k2 : (4 : Int) < b := by omega
    have e2 : decide (4 < b) = true := by simp [h2]
    rw [e2]
    clear e2 h2
    go_enter Try.func33, Try.ntmps33
    go_wp2
    go_ret
    exact ⟨rfl, HK.out⟩
  have k2 : ¬ (4 : Int) < b := by omega
  have e2 : decide (4 < b) = false := by simp; omega
  rw [e2]
  clear e2 h2
  by_cases h3 : 4 < c
  · have k3 : (4 : Int) < c := by omega
    have e3 : decide (4 < c) = true := by simp [h3]
    rw [e3]
    clear e3 h3
    go_enter Try.func33, Try.ntmps33
    go_wp2
    go_ret
    exact ⟨rfl, HK.out⟩
  have k3 : ¬ (4 : Int) < c := by omega
  have e3 : decide (4 < c) = false := by simp; omega
  rw [e3]
  clear e3 h3
  by_cases h4 : 8 < d
  · have k4 : (8 : Int) < d := by omega
    have e4 : decide (8 < d) = true := by simp [h4]
    rw [e4]
    clear e4 h4
    go_enter Try.func33, Try.ntmps33
    go_wp2
    go_ret
    exact ⟨rfl, HK.out⟩
  have k4 : ¬ (8 : Int) < d := by omega
  have e4 : decide (8 < d) = false := by simp; omega
  have HF' := Lib.hid (fun W hW => HF.out W hW (by omega))
  rw [e4]
  clear e4 h4 HF
  go_enter Try.func33, Try.ntmps33
  go_wp2_with fail
  with_reducible refine (HF'.out _ HK.out).mono ?_
  rintro e w3 ⟨rfl, hb⟩
  have B3 := Lib.hid (bstep HK.out HK.out.size hb)
  clear hb
  go_wp2
  go_ret
  exact ⟨by simp, B3.out⟩
set_option maxRecDepth 100000 in
set_option maxHeartbeats 4000000 in
/-- Of some draws, of which those ahead of the last are right. -/
theorem checkLast_any (s : Sc) (A : Option Addr) (c : Nat) (pre : List (Lo Dr)) (l : Lo Dr) (w : World) (ha : s.at w w.heap.size) (hok : s.ok) (hf : s.few)
    (hn : pre.length ≤ 99999) (hp : ∀ x ∈ pre ++ [l], I64 x.x.id) (ho : ∀ t ∈ l.x.tris, I64 t.i) (hl : l.x.tris.length ≤ 100000) (he : Es ER w w.heap.size l.A l.x.tris) (hA : Es ED w w.heap.size A (pre ++ [l])) (hnd : (pre.map fun x => x.x.id).Nodup) :
    Calls Try.prog 40 #[.agg #[.int .i64 s.w, .int .i64 s.h, .int .u8 s.k.r, .int .u8 s.k.g, .int .u8 s.k.b, .int .u8 s.k.a, .slice s.vA s.vs.length s.vc, .slice s.tA s.ts.length s.tc, .slice s.pA s.ps.length s.pc, .slice s.dA s.ds.length s.dc], .slice A (pre.length + 1) c] w fun e w' => e = .returned (.int .i64 (drawE s.p (pre.map Lo.x) l.x)) ∧ Below w.heap.size w w' := by
  have HK := Lib.hid (fun o o' => bstep (new_below w o) (by simp) (new_below _ o'))
  have HP := Lib.hid (fun W (hb : Below w.heap.size w W) => pts_any s l W ((ha.below hb).sharp) hok hf hl ((he.below hb).sharp))
  have HT := Lib.hid (show ∀ W, Below w.heap.size w W → Calls Try.prog 73 #[.slice A (pre.length + 1) c, .func (.func 74) #[] #[]] W fun e w' => e = .returned (.bool (((pre.map Lo.x).map Dr.id).contains l.x.id)) ∧ Below W.heap.size W w' from fun W hb => by
    have h := twice50_any (pre ++ [l]) A c (by simp; omega) hp W ((hA.below hb).sharp)
    rw [List.length_append, List.map_append, List.map_singleton, twice_last hnd] at h
    rw [List.map_map]
    exact h)
  have HR := Lib.hid (fun W (hb : Below w.heap.size w W) => twice52_any l.x.tris l.A l.c hl ho W ((he.below hb).sharp))
  obtain ⟨b, off, rfl, hbB, hat⟩ := hA.at (k := pre.length) (u := l) (by simp)
  obtain ⟨c0, c1, c2, c3, c4⟩ := atD hat
  have hD : drawE s.p (pre.map Lo.x) l.x = if ptsB s.p l.x = false then 24 else if ((pre.map Lo.x).map Dr.id).contains l.x.id || twiceB (l.x.tris.map (fun x => x.i)) then 25 else 0 := rfl
  rw [hD]
  have hw : IntKind.i64.wrap ((pre.length : Int) + 1 - 1) = pre.length := by rw [IntKind.wrap_i64]; omega
  generalize ((pre.map Lo.x).map Dr.id).contains l.x.id = r2 at *
  generalize twiceB (l.x.tris.map (fun x => x.i)) = r3 at *
  generalize ptsB s.p l.x = r1 at *
  generalize pre.length = n at *
  have hsz : ED.size = 5 := rfl
  rw [hsz] at c0 c1 c2 c3 c4
  have hw2 : wrap64 (n : Int) = n := by unfold wrap64; omega
  clear ha hok hf hp ho hl he hA hnd hat hD hsz
  go_enter Try.func40, Try.ntmps40
  go_wp2_with fail
  with_reducible refine (HP.out _ (HK.out _ _)).mono ?_
  rintro e w2 ⟨rfl, hb⟩
  have B2 := Lib.hid (bstep (HK.out _ _) (HK.out _ _).size hb)
  have hd : w2.heap[w.heap.size + 1]? = some (drB l) := (hb.block _ (by simp)).trans (new_at2 _ _ _)
  obtain ⟨-, -, -, -, c5⟩ := drB_cell hd
  have hlt := drB_lt hd
  clear hb hd c0 c1 c2 c3 c4
  cases r1
  · go_wp2
    go_ret
    exact ⟨rfl, B2.out⟩
  go_wp2_with fail
  with_reducible refine (HT.out _ B2.out).mono ?_
  rintro e w3 ⟨rfl, hb⟩
  have B3 := Lib.hid (bstep B2.out B2.out.size hb)
  have c6 : w3.cell? ⟨w.heap.size + 1, 4, none⟩ = some (.slice l.A l.x.tris.length l.c) := (hb.cell hlt).trans c5
  have hlt2 : w.heap.size + 1 < w3.heap.size := Nat.lt_of_lt_of_le hlt hb.size
  clear hb c5
  cases r2
  · go_wp2_with fail
    with_reducible refine (HR.out _ B3.out).mono ?_
    rintro e w4 ⟨rfl, hb⟩
    have B4 := Lib.hid (bstep B3.out B3.out.size hb)
    clear hb
    cases r3
    · go_wp2
      go_ret
      exact ⟨rfl, B4.out⟩
    · go_wp2
      go_ret
      exact ⟨rfl, B4.out⟩
  · go_wp2
    go_ret
    exact ⟨rfl, B3.out⟩
end Go.Proofs.Ytfmmfaeognoleaa
