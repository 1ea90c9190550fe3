/-
  colour.Fold: the colours of a slice in front of each other.
-/
import Derived.Test.YtpnjhmmodkhmfaaGrow
import Derived.Test.YtpnjhmmodkhmfaaOvr
import Derived.Lib.SmallJoins
namespace Go.Proofs.Ytpnjhmmodkhmfaa
open Go.RowKit
attribute [local go_sem ↓] Go.wp_at_zero Go.wp_at_succ

structure Col where
  r : Int
  g : Int
  b : Int
  a : Int
def Col.ok (c : Col) : Prop := (0 ≤ c.r ∧ c.r ≤ 255) ∧ (0 ≤ c.g ∧ c.g ≤ 255) ∧ (0 ≤ c.b ∧ c.b ≤ 255) ∧ (0 ≤ c.a ∧ c.a ≤ 255)
def over1 (x y a : Int) : Int := sat (x + dv (y * (255 - a)))
def over (f q : Col) : Col := ⟨over1 f.r q.r f.a, over1 f.g q.g f.a, over1 f.b q.b f.a, over1 f.a q.a f.a⟩
def foldC (back : Col) (l : List Col) : Col := l.foldl (fun acc c => over c acc) back

theorem over1_bd {x y a : Int} (x0 : 0 ≤ x) (y0 : 0 ≤ y) (y1 : y ≤ 255) (a0 : 0 ≤ a) (a1 : a ≤ 255) : 0 ≤ over1 x y a ∧ over1 x y a ≤ 255 := by
  have h := mul_bd y0 y1 (by omega : 0 ≤ 255 - a) (by omega)
  have d := dv_bd h.1 h.2
  unfold over1 sat
  split <;> omega
theorem over_ok {f q : Col} (hf : f.ok) (hq : q.ok) : (over f q).ok := by
  obtain ⟨⟨r0, r1⟩, ⟨g0, g1⟩, ⟨b0, b1⟩, ⟨a0, a1⟩⟩ := hf
  obtain ⟨⟨x0, x1⟩, ⟨y0, y1⟩, ⟨z0, z1⟩, ⟨c0, c1⟩⟩ := hq
  exact ⟨over1_bd r0 x0 x1 a0 a1, over1_bd g0 y0 y1 a0 a1, over1_bd b0 z0 z1 a0 a1, over1_bd a0 c0 c1 a0 a1⟩
theorem foldC_snoc (c : Col) (l : List Col) (x : Col) : foldC c (l ++ [x]) = over x (foldC c l) := by simp [foldC]
theorem foldC_ok {c : Col} (hc : c.ok) : ∀ {l : List Col}, (∀ x ∈ l, x.ok) → (foldC c l).ok := by
  intro l
  induction l generalizing c with
  | nil => intro _; exact hc
  | cons x l ih => intro h; exact ih (over_ok (h x (by simp)) hc) (fun y hy => h y (by simp [hy]))

theorem over_col (f q : Col) (w : World) (hf : f.ok) (hq : q.ok) :
    Calls Try.prog 15 #[.agg #[.int .u8 f.r, .int .u8 f.g, .int .u8 f.b, .int .u8 f.a], .agg #[.int .u8 q.r, .int .u8 q.g, .int .u8 q.b, .int .u8 q.a]] w fun e w' =>
      e = .returned (.agg #[.int .u8 (over f q).r, .int .u8 (over f q).g, .int .u8 (over f q).b, .int .u8 (over f q).a]) ∧ Below w.heap.size w w' := by
  obtain ⟨⟨r0, r1⟩, ⟨g0, g1⟩, ⟨b0, b1⟩, ⟨a0, a1⟩⟩ := hf
  obtain ⟨⟨x0, x1⟩, ⟨y0, y1⟩, ⟨z0, z1⟩, ⟨c0, c1⟩⟩ := hq
  exact over_any f.r f.g f.b f.a q.r q.g q.b q.a w r0 r1 g0 g1 b0 b1 a0 a1 x0 x1 y0 y1 z0 z1 c0 c1

/-- A block that holds a colour. -/
def colB (c : Col) : Obj := .cells #[.int .u8 c.r, .int .u8 c.g, .int .u8 c.b, .int .u8 c.a] 23 (0, 0)
theorem colB_cell {w : World} {g : Nat} {c : Col} (h : w.heap[g]? = some (colB c)) :
    w.cell? ⟨g, 0, none⟩ = some (.int .u8 c.r) ∧ w.cell? ⟨g, 1, none⟩ = some (.int .u8 c.g) ∧ w.cell? ⟨g, 2, none⟩ = some (.int .u8 c.b) ∧ w.cell? ⟨g, 3, none⟩ = some (.int .u8 c.a) := by
  unfold colB at h
  exact ⟨Joins.cell_of_block h 0, Joins.cell_of_block h 1, Joins.cell_of_block h 2, Joins.cell_of_block h 3⟩
theorem colB_free {w : World} {g : Nat} {c : Col} (h : w.heap[g]? = some (colB c)) :
    w.frozen? ⟨g, 0, none⟩ = false ∧ w.frozen? ⟨g, 1, none⟩ = false ∧ w.frozen? ⟨g, 2, none⟩ = false ∧ w.frozen? ⟨g, 3, none⟩ = false := by
  unfold colB at h
  refine ⟨?_, ?_, ?_, ?_⟩ <;> simp [World.frozen?, h]
theorem colB_set {w : World} {g : Nat} {c : Col} (d : Col) (h : w.heap[g]? = some (colB c)) :
    ((((w.setCell ⟨g, 0, none⟩ (.int .u8 d.r)).setCell ⟨g, 1, none⟩ (.int .u8 d.g)).setCell ⟨g, 2, none⟩ (.int .u8 d.b)).setCell ⟨g, 3, none⟩ (.int .u8 d.a)).heap[g]? = some (colB d) := by
  unfold colB at h
  rw [heap_setCell_same _ _ _ _ _ _ (heap_setCell_same _ _ _ _ _ _ (heap_setCell_same _ _ _ _ _ _ (heap_setCell_same _ _ _ _ _ _ h)))]
  simp [colB]

/-- The cells of colours that lie one behind the other. -/
def ColsAt (w : World) (b off : Nat) (l : List Col) : Prop :=
  ∀ (i : Nat) (h : i < l.length), w.cell? ⟨b, off + i * 4, none⟩ = some (.int .u8 l[i].r) ∧ w.cell? ⟨b, off + i * 4 + 1, none⟩ = some (.int .u8 l[i].g) ∧ w.cell? ⟨b, off + i * 4 + 2, none⟩ = some (.int .u8 l[i].b) ∧ w.cell? ⟨b, off + i * 4 + 3, none⟩ = some (.int .u8 l[i].a)
/-- A slice that holds these colours. -/
def Row (w : World) (ad : Option Addr) (l : List Col) : Prop := l = [] ∨ ∃ b off, ad = some ⟨b, off, none⟩ ∧ ColsAt w b off l
theorem ColsAt.below {w w' : World} {B b off : Nat} {l : List Col} (h : ColsAt w b off l) (hb : Below B w w') (hB : l = [] ∨ b < B) : ColsAt w' b off l := by
  intro i hi
  have hB' : b < B := by
    rcases hB with e | e
    · subst e; simp at hi
    · exact e
  obtain ⟨h0, h1, h2, h3⟩ := h i hi
  exact ⟨(hb.cell hB').trans h0, (hb.cell hB').trans h1, (hb.cell hB').trans h2, (hb.cell hB').trans h3⟩
theorem ColsAt.lt {w : World} {b off : Nat} {l : List Col} (h : ColsAt w b off l) : l = [] ∨ b < w.heap.size := by
  match l, h with
  | [], _ => exact .inl rfl
  | x :: l, h => exact .inr (World.block_lt_of_cell? _ _ (h 0 (by simp)).1)
theorem ColsAt.grow {w w' : World} {b off : Nat} {l : List Col} (h : ColsAt w b off l) (hb : Below w.heap.size w w') : ColsAt w' b off l := h.below hb h.lt
theorem Row.grow {w w' : World} {ad : Option Addr} {l : List Col} (h : Row w ad l) (hb : Below w.heap.size w w') : Row w' ad l := by
  rcases h with h | ⟨b, off, e, h⟩
  · exact .inl h
  · exact .inr ⟨b, off, e, h.grow hb⟩

theorem new_two (w : World) (A B : Obj) : ((w.alloc A).alloc B).heap[w.heap.size]? = some A ∧ ((w.alloc A).alloc B).heap[w.heap.size + 1]? = some B := by
  refine ⟨?_, ?_⟩
  · rw [Below.heap_alloc _ _ _ (by simp)]; exact heap_alloc_new _ _
  · have h := heap_alloc_new (w.alloc A) B
    rw [show (w.alloc A).heap.size = w.heap.size + 1 from by simp] at h
    exact h

set_option maxHeartbeats 2000000 in
theorem fold_row (c : Col) (l : List Col) (b off cap : Nat) (w : World) (hc : c.ok) (hl : ∀ x ∈ l, x.ok) (hn : l.length ≤ 1000) (hr : ColsAt w b off l) :
    Calls Try.prog 17 #[.agg #[.int .u8 c.r, .int .u8 c.g, .int .u8 c.b, .int .u8 c.a], .slice (some ⟨b, off, none⟩) l.length cap] w fun e w' =>
      e = .returned (.agg #[.int .u8 (foldC c l).r, .int .u8 (foldC c l).g, .int .u8 (foldC c l).b, .int .u8 (foldC c l).a]) ∧ Below w.heap.size w w' := by
  have HR := Lib.hid hr
  have HL := Lib.hid hl
  clear hr hl
  go_enter Try.func17, Try.ntmps17
  go_wp2
  go_loopw [9] (fun i wr => ∃ k : Nat, k ≤ l.length ∧ i = .int .i64 k ∧ Below w.heap.size w wr ∧ wr.heap[w.heap.size]? = some (colB (foldC c (l.take k))) ∧ wr.heap[w.heap.size + 1]? = some (colB ⟨0, 0, 0, 0⟩))
    (fun i _ => l.length - (intOf i).toNat)
  case atStart => exact ⟨0, Nat.zero_le _, rfl, ((Below.refl _ _).alloc (Nat.le_refl _) _).alloc (by simp) _, (new_two _ _ _).1, (new_two _ _ _).2⟩
  case round =>
    obtain ⟨k, hk, rfl, hbel, hblk, hres⟩ := hrel
    by_cases hlt : k < l.length
    · obtain ⟨e0, e1, e2, e3⟩ := (HR.out.grow hbel) k hlt
      obtain ⟨f0, f1, f2, f3⟩ := colB_cell hblk
      have hz : w.heap.size < wr.heap.size := World.block_lt_of_cell? _ _ f0
      have hz1 : w.heap.size + 1 < wr.heap.size := World.block_lt_of_cell? _ _ (colB_cell hres).1
      have hbz : b < wr.heap.size := World.block_lt_of_cell? _ _ e0
      have hok : (foldC c (l.take k)).ok := foldC_ok hc (fun x hx => HL.out x (List.mem_of_mem_take hx))
      have hxk : (l[k]'hlt).ok := HL.out _ (List.getElem_mem hlt)
      have hts : l.take (k + 1) = l.take k ++ [l[k]] := by rw [List.take_succ_eq_append_getElem hlt]
      have HT := Lib.hid hts
      have HBL := Lib.hid hblk
      have HBE := Lib.hid hbel
      have HRS := Lib.hid hres
      have HK := Lib.hid hok
      have HX := Lib.hid hxk
      clear hts hblk hbel hres hok hxk
      go_wp2_with fail
      refine (over_col l[k] (foldC c (l.take k)) _ HX.out HK.out).mono ?_
      rintro e w2 ⟨rfl, hb2⟩
      have hblk2 : w2.heap[w.heap.size]? = some (colB (foldC c (l.take k))) := by rw [hb2.block _ (by simp; omega), Below.heap_alloc _ _ _ (by omega)]; exact HBL.out
      have hres2 : w2.heap[w.heap.size + 1]? = some (colB ⟨0, 0, 0, 0⟩) := by rw [hb2.block _ (by simp; omega), Below.heap_alloc _ _ _ (by omega)]; exact HRS.out
      obtain ⟨i0, i1, i2, i3⟩ := colB_cell hblk2
      obtain ⟨j0, j1, j2, j3⟩ := colB_free hblk2
      have HB := Lib.hid (bstep (HBE.out.alloc HBE.out.size _) (by simp; have := HBE.out.size; omega) hb2)
      have HBL2 := Lib.hid hblk2
      have HRS2 := Lib.hid hres2
      clear hb2 hblk2 hres2 e0 e1 e2 e3 f0 f1 f2 f3
      go_wp2
      go_roundw
      case rel =>
        refine ⟨k + 1, by omega, by go_num, (((HB.out.setCell (by simp) _).setCell (by simp) _).setCell (by simp) _).setCell (by simp) _, ?_, ?_⟩
        · rw [HT.out, foldC_snoc]; exact colB_set _ HBL2.out
        · rw [heap_setCell_other _ _ _ _ (by simp), heap_setCell_other _ _ _ _ (by simp), heap_setCell_other _ _ _ _ (by simp), heap_setCell_other _ _ _ _ (by simp)]; exact HRS2.out
      case measure => simp [intOf]; omega
    · obtain ⟨f0, f1, f2, f3⟩ := colB_cell hblk
      obtain ⟨i0, i1, i2, i3⟩ := colB_cell hres
      obtain ⟨j0, j1, j2, j3⟩ := colB_free hres
      have hts : l.take k = l := List.take_of_length_le (by omega)
      rw [hts] at f0 f1 f2 f3
      have HBE := Lib.hid hbel
      clear hblk hres hts hbel
      go_wp2
      refine bodyPost_ret (v := .agg #[.int .u8 (foldC c l).r, .int .u8 (foldC c l).g, .int .u8 (foldC c l).b, .int .u8 (foldC c l).a]) (by simp [results, Try.results17, go_sem, *]) rfl ⟨rfl, ?_⟩
      exact (((HBE.out.setCell (by simp) _).setCell (by simp) _).setCell (by simp) _).setCell (by simp) _

theorem fold_nil (c : Col) (ad : Option Addr) (cap : Nat) (w : World) :
    Calls Try.prog 17 #[.agg #[.int .u8 c.r, .int .u8 c.g, .int .u8 c.b, .int .u8 c.a], .slice ad 0 cap] w fun e w' =>
      e = .returned (.agg #[.int .u8 c.r, .int .u8 c.g, .int .u8 c.b, .int .u8 c.a]) ∧ Below w.heap.size w w' := by
  go_enter Try.func17, Try.ntmps17
  go_wp2
  go_loopw [9] (fun i wr => i = .int .i64 0 ∧ wr = (w.alloc (.cells #[.int .u8 c.r, .int .u8 c.g, .int .u8 c.b, .int .u8 c.a] 23)).alloc (.cells #[.int .u8 0, .int .u8 0, .int .u8 0, .int .u8 0] 23)) (fun _ _ => 0)
  case atStart => exact ⟨rfl, rfl⟩
  case round =>
    obtain ⟨rfl, rfl⟩ := hrel
    go_wp2
    refine bodyPost_ret (v := .agg #[.int .u8 c.r, .int .u8 c.g, .int .u8 c.b, .int .u8 c.a]) (by simp [results, Try.results17, go_sem]) rfl ⟨rfl, ?_⟩
    exact ((Below.refl _ _).alloc (Nat.le_refl _) _).alloc (by simp) _

theorem fold_any (c : Col) (l : List Col) (ad : Option Addr) (cap : Nat) (w : World) (hc : c.ok) (hl : ∀ x ∈ l, x.ok) (hn : l.length ≤ 1000) (hr : Row w ad l) :
    Calls Try.prog 17 #[.agg #[.int .u8 c.r, .int .u8 c.g, .int .u8 c.b, .int .u8 c.a], .slice ad l.length cap] w fun e w' =>
      e = .returned (.agg #[.int .u8 (foldC c l).r, .int .u8 (foldC c l).g, .int .u8 (foldC c l).b, .int .u8 (foldC c l).a]) ∧ Below w.heap.size w w' := by
  rcases hr with rfl | ⟨b, off, rfl, h⟩
  · exact fold_nil c ad cap w
  · exact fold_row c l b off cap w hc hl hn h
end Go.Proofs.Ytpnjhmmodkhmfaa
