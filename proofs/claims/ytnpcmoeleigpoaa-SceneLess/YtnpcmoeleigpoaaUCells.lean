/-
  What a block that holds a vertex's numbers reads, and what stays of it when one or all of them are written; worlds that only grow.
-/
import Derived.Test.YtnpcmoeleigpoaaUBase
import Derived.Lib.MinMax
import Derived.StillTailTactics
namespace Go.Proofs.Ytnpcmoeleigpoaa.U
open Go.RowKit
attribute [local go_sem ↓] Go.wp_at_zero Go.wp_at_succ

theorem bstep {B : Nat} {a b c : World} (h : Below B a b) (hB : B ≤ b.heap.size) (k : Below b.heap.size b c) : Below B a c := h.trans (k.mono hB)

/-- The worlds that are as w was below its own size. -/
def Grow (w : World) : Type := { w' : World // Below w.heap.size w w' }
def Grow.w {w : World} (x : Grow w) : World := x.1
theorem Grow.below {w : World} (x : Grow w) : Below w.heap.size w x.w := x.2
theorem Grow.ne (w : World) : Nonempty (Grow w) := ⟨⟨w, Below.refl _ _⟩⟩
theorem Grow.cell {w : World} (x : Grow w) {b o : Nat} {v : Value} (h : w.cell? ⟨b, o, none⟩ = some v) : x.w.cell? ⟨b, o, none⟩ = some v := by
  rw [x.below.cell (World.block_lt_of_cell? _ _ h), h]

theorem wp_region_grow {P : Program} {id : Nat} {Q : Exit → Act → World → Prop} {a : Act} {w : World} {l : List Oper} (hm : P.follows .mixedOrders = true) (hB : Region.lexB .any l.toArray = true)
    (h : wpQuiet P l.toArray (fun w' => ∃ x : Grow w, w' = x.w) (fun a' => ∀ w', (∃ x : Grow w, w' = x.w) → Q .normal a' w') l a) : (Code.region id l.toArray true).wp P Q a w :=
  wp_region_quiet (C := fun w' => ∃ x : Grow w, w' = x.w) hm hB ⟨⟨_, (Below.refl _ _).drew⟩, rfl⟩ (by simpa using h)

theorem Grow.calls {P : Program} {f : FuncId} {args : Array Value} {w : World} {x : Grow w} {v : Value}
    (h : Calls P f args x.w fun e w' => e = .returned v ∧ Below x.w.heap.size x.w w') : Calls P f args x.w fun e w'' => e = .returned v ∧ ∃ y : Grow w, w'' = y.w :=
  h.mono fun _ _ ⟨he, hb⟩ => ⟨he, ⟨_, x.below.trans (hb.mono x.below.size)⟩, rfl⟩

/-- A block of eight numbers, of a type t. -/
def vB (t : TypeId) (v : V) : Obj := .cells #[.int .i64 v.x, .int .i64 v.y, .int .i64 v.z, .int .i64 v.w, .int .i64 v.a, .int .i64 v.b, .int .i64 v.c, .int .i64 v.d] t (0, 0)
theorem vB_cell {w : World} {g : Nat} {t : TypeId} {v : V} (h : w.heap[g]? = some (vB t v)) : (w.cell? ⟨g, 0, none⟩ = some (.int .i64 v.x) ∧ w.cell? ⟨g, 1, none⟩ = some (.int .i64 v.y) ∧ w.cell? ⟨g, 2, none⟩ = some (.int .i64 v.z) ∧ w.cell? ⟨g, 3, none⟩ = some (.int .i64 v.w) ∧ w.cell? ⟨g, 4, none⟩ = some (.int .i64 v.a) ∧ w.cell? ⟨g, 5, none⟩ = some (.int .i64 v.b) ∧ w.cell? ⟨g, 6, none⟩ = some (.int .i64 v.c) ∧ w.cell? ⟨g, 7, none⟩ = some (.int .i64 v.d)) := by
  unfold vB at h
  simp [World.cell?, h]
theorem vB_free {w : World} {g : Nat} {t : TypeId} {v : V} (h : w.heap[g]? = some (vB t v)) :
    w.frozen? ⟨g, 0, none⟩ = false ∧ w.frozen? ⟨g, 1, none⟩ = false ∧ w.frozen? ⟨g, 2, none⟩ = false ∧ w.frozen? ⟨g, 3, none⟩ = false ∧ w.frozen? ⟨g, 4, none⟩ = false ∧ w.frozen? ⟨g, 5, none⟩ = false ∧ w.frozen? ⟨g, 6, none⟩ = false ∧ w.frozen? ⟨g, 7, none⟩ = false := by
  unfold vB at h
  simp [World.frozen?, h]
theorem new_at {w : World} {o : Obj} {k : Nat} (h : k = w.heap.size) : (w.alloc o).heap[k]? = some o := by
  subst h
  exact heap_alloc_new _ _
theorem vB_lt {w : World} {g : Nat} {t : TypeId} {v : V} (h : w.heap[g]? = some (vB t v)) : g < w.heap.size := World.block_lt_of_cell? _ _ (vB_cell h).1
theorem vB_grow {w w' : World} {g : Nat} {t : TypeId} {v : V} (h : w.heap[g]? = some (vB t v)) (k : Below w.heap.size w w') : w'.heap[g]? = some (vB t v) := (k.block _ (vB_lt h)).trans h
theorem vB_alloc {w : World} {g : Nat} {t : TypeId} {v : V} (o : Obj) (h : w.heap[g]? = some (vB t v)) : (w.alloc o).heap[g]? = some (vB t v) := (Below.heap_alloc _ _ _ (vB_lt h)).trans h
theorem vB_set0 {w : World} {g : Nat} {t : TypeId} {v : V} (n : Int) (h : w.heap[g]? = some (vB t v)) : (w.setCell ⟨g, 0, none⟩ (.int .i64 n)).heap[g]? = some (vB t { v with x := n }) := by
  unfold vB at h
  rw [heap_setCell_same _ _ _ _ _ _ h]
  simp [vB]
theorem vB_set1 {w : World} {g : Nat} {t : TypeId} {v : V} (n : Int) (h : w.heap[g]? = some (vB t v)) : (w.setCell ⟨g, 1, none⟩ (.int .i64 n)).heap[g]? = some (vB t { v with y := n }) := by
  unfold vB at h
  rw [heap_setCell_same _ _ _ _ _ _ h]
  simp [vB]
theorem vB_set2 {w : World} {g : Nat} {t : TypeId} {v : V} (n : Int) (h : w.heap[g]? = some (vB t v)) : (w.setCell ⟨g, 2, none⟩ (.int .i64 n)).heap[g]? = some (vB t { v with z := n }) := by
  unfold vB at h
  rw [heap_setCell_same _ _ _ _ _ _ h]
  simp [vB]
theorem vB_set3 {w : World} {g : Nat} {t : TypeId} {v : V} (n : Int) (h : w.heap[g]? = some (vB t v)) : (w.setCell ⟨g, 3, none⟩ (.int .i64 n)).heap[g]? = some (vB t { v with w := n }) := by
  unfold vB at h
  rw [heap_setCell_same _ _ _ _ _ _ h]
  simp [vB]
theorem vB_set4 {w : World} {g : Nat} {t : TypeId} {v : V} (n : Int) (h : w.heap[g]? = some (vB t v)) : (w.setCell ⟨g, 4, none⟩ (.int .i64 n)).heap[g]? = some (vB t { v with a := n }) := by
  unfold vB at h
  rw [heap_setCell_same _ _ _ _ _ _ h]
  simp [vB]
theorem vB_set5 {w : World} {g : Nat} {t : TypeId} {v : V} (n : Int) (h : w.heap[g]? = some (vB t v)) : (w.setCell ⟨g, 5, none⟩ (.int .i64 n)).heap[g]? = some (vB t { v with b := n }) := by
  unfold vB at h
  rw [heap_setCell_same _ _ _ _ _ _ h]
  simp [vB]
theorem vB_set6 {w : World} {g : Nat} {t : TypeId} {v : V} (n : Int) (h : w.heap[g]? = some (vB t v)) : (w.setCell ⟨g, 6, none⟩ (.int .i64 n)).heap[g]? = some (vB t { v with c := n }) := by
  unfold vB at h
  rw [heap_setCell_same _ _ _ _ _ _ h]
  simp [vB]
theorem vB_set7 {w : World} {g : Nat} {t : TypeId} {v : V} (n : Int) (h : w.heap[g]? = some (vB t v)) : (w.setCell ⟨g, 7, none⟩ (.int .i64 n)).heap[g]? = some (vB t { v with d := n }) := by
  unfold vB at h
  rw [heap_setCell_same _ _ _ _ _ _ h]
  simp [vB]
theorem vB_set {w : World} {g : Nat} {t : TypeId} {v : V} (u : V) (h : w.heap[g]? = some (vB t v)) : ((((((((w.setCell ⟨g, 0, none⟩ (.int .i64 u.x)).setCell ⟨g, 1, none⟩ (.int .i64 u.y)).setCell ⟨g, 2, none⟩ (.int .i64 u.z)).setCell ⟨g, 3, none⟩ (.int .i64 u.w)).setCell ⟨g, 4, none⟩ (.int .i64 u.a)).setCell ⟨g, 5, none⟩ (.int .i64 u.b)).setCell ⟨g, 6, none⟩ (.int .i64 u.c)).setCell ⟨g, 7, none⟩ (.int .i64 u.d)).heap[g]? = some (vB t u) := by
  have h0 := vB_set0 u.x h
  have h1 := vB_set1 u.y h0
  have h2 := vB_set2 u.z h1
  have h3 := vB_set3 u.w h2
  have h4 := vB_set4 u.a h3
  have h5 := vB_set5 u.b h4
  have h6 := vB_set6 u.c h5
  have h7 := vB_set7 u.d h6
  exact h7
/-- The eight numbers written, one behind the other. -/
def set8 (w : World) (g : Nat) (u : V) : World := ((((((((w.setCell ⟨g, 0, none⟩ (.int .i64 u.x)).setCell ⟨g, 1, none⟩ (.int .i64 u.y)).setCell ⟨g, 2, none⟩ (.int .i64 u.z)).setCell ⟨g, 3, none⟩ (.int .i64 u.w)).setCell ⟨g, 4, none⟩ (.int .i64 u.a)).setCell ⟨g, 5, none⟩ (.int .i64 u.b)).setCell ⟨g, 6, none⟩ (.int .i64 u.c)).setCell ⟨g, 7, none⟩ (.int .i64 u.d))
theorem set8_same {w : World} {g : Nat} {t : TypeId} {v : V} (u : V) (h : w.heap[g]? = some (vB t v)) : (set8 w g u).heap[g]? = some (vB t u) := vB_set u h
theorem set8_below {B : Nat} {w w' : World} {g : Nat} (u : V) (h : Below B w w') (hg : B ≤ g) : Below B w (set8 w' g u) := by
  unfold set8
  exact (((((((h.setCell hg _).setCell hg _).setCell hg _).setCell hg _).setCell hg _).setCell hg _).setCell hg _).setCell hg _
theorem vB_other {w : World} {g k o : Nat} {t : TypeId} {v : V} (n : Value) (h : w.heap[g]? = some (vB t v)) (hk : k ≠ g) : (w.setCell ⟨k, o, none⟩ n).heap[g]? = some (vB t v) := by
  rw [heap_setCell_other _ _ _ _ (by simpa using fun e => hk e.symm)]; exact h
theorem set8_other {w : World} {g k : Nat} {t : TypeId} {v : V} (u : V) (h : w.heap[g]? = some (vB t v)) (hk : k ≠ g) : (set8 w k u).heap[g]? = some (vB t v) := by
  unfold set8
  exact vB_other _ (vB_other _ (vB_other _ (vB_other _ (vB_other _ (vB_other _ (vB_other _ (vB_other _ h hk) hk) hk) hk) hk) hk) hk) hk
end Go.Proofs.Ytnpcmoeleigpoaa.U
