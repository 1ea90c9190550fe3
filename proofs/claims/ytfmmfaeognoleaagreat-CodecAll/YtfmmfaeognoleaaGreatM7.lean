/-
  What a reader's, and a writer's, block holds, and what stays when they go on.
-/
import Derived.Test.YtfmmfaeognoleaaGreatM5
import Derived.Test.YtfmmfaeognoleaaGreatM6
namespace Go.Proofs.YtfmmfaeognoleaaGreat
open Go.RowKit
attribute [local go_sem ↓] Go.wp_at_zero Go.wp_at_succ

/-- But for block p, what lay lies as it lay. -/
structure But (p : Nat) (w w' : World) : Prop where
  b : Below p w w'
  f : Fx (p + 1) w.heap.size w w'
section
variable {p q g o B : Nat} {a b c w w' : World} {u : Value}
theorem But.refl (p : Nat) (w : World) : But p w w := ⟨Below.refl _ _, Fx.refl _ _ _⟩
theorem But.size (h : But p w w') : w.heap.size ≤ w'.heap.size := h.b.size
theorem But.trans (h : But p a b) (k : But p b c) : But p a c := ⟨h.b.trans k.b, fun i h1 h2 => (k.f i h1 (Nat.lt_of_lt_of_le h2 h.size)).trans (h.f i h1 h2)⟩
theorem But.block (h : But p w w') {k : Nat} (hk : k < w.heap.size) (hne : k ≠ p) : w'.heap[k]? = w.heap[k]? := by
  rcases Nat.lt_or_ge k p with h1 | h1
  · exact h.b.block k h1
  · exact h.f k (by omega) hk
theorem but_of (h : Below w.heap.size w w') (hp : p ≤ w.heap.size) : But p w w' := ⟨h.mono hp, Below.fx h⟩
theorem But.alloc (h : But p a b) (hp : p < a.heap.size) (o : Obj) : But p a (b.alloc o) :=
  h.trans (but_of (new_below b o) (by have := h.size; omega))
theorem But.set (h : But p a b) : But p a (b.setCell ⟨p, o, none⟩ u) := ⟨h.b.setCell (Nat.le_refl _) u, h.f.set (Nat.lt_succ_self p)⟩
theorem But.setNew (h : But p a b) (hp : p ≤ a.heap.size) (hg : a.heap.size ≤ g) : But p a (b.setCell ⟨g, o, none⟩ u) :=
  ⟨h.b.setCell (show p ≤ g by omega) u, fun k h1 h2 => by
    rw [heap_setCell_other _ _ _ _ (by simp; omega)]
    exact h.f k h1 h2⟩
theorem But.grown {j : Option Nat} (h : But p a b) (hp : p ≤ a.heap.size) (hg : b.grownBy c j) (hj : ∀ k, j = some k → a.heap.size ≤ k) : But p a c :=
  ⟨h.b.grown hg (by have := h.size; omega) fun k e => by have := hj k e; omega, fun k h1 h2 => (hg.block k (Nat.lt_of_lt_of_le h2 h.size) (fun e => by have := hj k e.symm; omega)).trans (h.f k h1 h2)⟩
theorem But.below (h : But p w w') (hB : B ≤ p) : Below B w w' := h.b.mono hB
theorem But.at (h : But p w w') {α : Type} {E : Elem α} {A : Option Addr} {xs : List α} (hE : Es E w p A xs) : Es E w' p A xs := hE.below h.b
theorem But.own (h : But p w w') {α : Type} {E : Elem α} {base : Nat} {v : Value} {xs : List α} (ho : OwnE E w base v xs) (hp : p < base) : OwnE E w' base v xs := ho.fx h.f (by omega) (Nat.le_refl _)
theorem But.ownN (h : But p w w') {α β : Type} {E : Elem (Lo α)} {F : Elem β} {inn : α → List β} {base : Nat} {v : Value} {xs : List (Lo α)} (ho : OwnN E F inn w base v xs) (hp : p < base) : OwnN E F inn w' base v xs := ho.fx h.f (by omega) (Nat.le_refl _)
end

theorem wpList_append_ln {α : Type} {E : Elem α} {T : TypeId} {w : World} {base B : Nat} {v : Value} {xs ys : List α} {A : Option Addr} {ops : Array Oper} {rest : List Oper} {o : Oper} {k : Act} {Q : Exit → Act → World → Prop} (hgd : o.guard = none) (R : Row E T) (s x : Operand) (c m : Nat) (hm : ys.length = m)
    (ho : o.op = .call { callee := .builtin .append, args := #[s, x], argTypes := #[T, T] }) (hs : k.eval s = v) (hx : k.eval x = .slice A m c)
    (hown : OwnE E w base v xs) (he : Es E w B A ys) (hn : xs.length ≤ 100000000) (hn2 : ys.length ≤ 100000000) (hbase : base ≤ w.heap.size)
    (h : ∀ v' w', w'.ownsRow base E.t E.size v' (xs.length + ys.length) (E.flat xs ++ E.flat ys) → w.grownBy w' v.ownBlock → (v'.ownBlock = v.ownBlock ∨ v'.ownBlock = some w.heap.size) → wpList Tryz.prog ops Q rest (k.put o.dst v') w') : wpList Tryz.prog ops Q (o :: rest) k w := by
  subst hm
  exact wpList_append_es hgd R s x c ho hs hx hown he hn hn2 hbase h
/-- A scene of two sides, and nothing else. -/
def flat0 (W H : Int) : Sc := ⟨W, H, zC, [], none, 0, [], none, 0, [], none, 0, [], none, 0⟩
/-- A reader's block. -/
def rdB (A : Option Addr) (n c : Nat) (bad : Bool) : Obj := .cells #[.slice A n c, .bool bad] 101 (0, 0)
section
variable {w w' : World} {p n c : Nat} {A : Option Addr} {bad : Bool}
theorem rdB_cell (h : w.heap[p]? = some (rdB A n c bad)) : w.cell? ⟨p, 0, none⟩ = some (.slice A n c) ∧ w.cell? ⟨p, 1, none⟩ = some (.bool bad) := by
  unfold rdB at h
  exact ⟨Joins.cell_of_block h 0, Joins.cell_of_block h 1⟩
theorem rdB_free (h : w.heap[p]? = some (rdB A n c bad)) : ∀ o, w.frozen? ⟨p, o, none⟩ = false := by
  unfold rdB at h
  intro o
  simp [World.frozen?, h]
theorem rdB_lt (h : w.heap[p]? = some (rdB A n c bad)) : p < w.heap.size := (Array.getElem?_eq_some_iff.1 h).1
theorem rdB_set0 {A' : Option Addr} {n' c' : Nat} (h : w.heap[p]? = some (rdB A n c bad)) : (w.setCell ⟨p, 0, none⟩ (.slice A' n' c')).heap[p]? = some (rdB A' n' c' bad) := by
  unfold rdB at h
  rw [heap_setCell_same _ _ _ _ _ _ h]
  simp [rdB]
theorem rdB_set1 {b' : Bool} (h : w.heap[p]? = some (rdB A n c bad)) : (w.setCell ⟨p, 1, none⟩ (.bool b')).heap[p]? = some (rdB A n c b') := by
  unfold rdB at h
  rw [heap_setCell_same _ _ _ _ _ _ h]
  simp [rdB]
end
/-- The reader at p: what is left, in a row that lies below it. -/
def Rd (w : World) (p : Nat) (s : St) : Prop := ∃ A c, w.heap[p]? = some (rdB A s.l.length c s.bad) ∧ s.l.length ≤ c ∧ Es EN w p A s.l
theorem Rd.lt {w : World} {p : Nat} {s : St} (h : Rd w p s) : p < w.heap.size := by
  obtain ⟨A, c, h1, -⟩ := h
  exact rdB_lt h1
theorem Rd.keep {w w' : World} {p : Nat} {s : St} (h : Rd w p s) (hb : Below w.heap.size w w') : Rd w' p s := by
  have hl := h.lt
  obtain ⟨A, c, h1, h2, h3⟩ := h
  exact ⟨A, c, (hb.block p hl).trans h1, h2, h3.below (hb.mono (by omega))⟩
theorem Rd.alloc {w : World} {p : Nat} {s : St} (h : Rd w p s) (o : Obj) : Rd (w.alloc o) p s := h.keep (new_below w o)
theorem Rd.setNew {w : World} {p g o : Nat} {u : Value} {s : St} (h : Rd w p s) (hg : p < g) : Rd (w.setCell ⟨g, o, none⟩ u) p s := by
  obtain ⟨A, c, h1, h2, h3⟩ := h
  refine ⟨A, c, ?_, h2, h3.below ((Below.refl p w).setCell (show p ≤ g by omega) u)⟩
  rw [heap_setCell_other _ _ _ _ (by simp; omega)]
  exact h1
theorem Rd.grown {w w' : World} {p B : Nat} {j : Option Nat} {s : St} (h : Rd w p s) (hg : w.grownBy w' j) (hj : ∀ k, j = some k → B ≤ k) (hB : p < B) : Rd w' p s := by
  have hl := h.lt
  obtain ⟨A, c, h1, h2, h3⟩ := h
  have hb : Below p w w' := (Below.refl p w).grown hg (by omega) fun k e => by have := hj k e; omega
  refine ⟨A, c, (hg.block p hl (fun e => by have := hj p e.symm; omega)).trans h1, h2, h3.below hb⟩
theorem es_tail {w : World} {B c : Nat} {A : Option Addr} {n : Int} {r : List Int} (h : Es EN w B A (n :: r)) (hc : r.length + 1 ≤ c) : Es EN w B (if c = 1 then A else A.map fun x => x.add 1) r := fun hne => by
  obtain ⟨b, off, rfl, hb, hr⟩ := h (by simp)
  have hl := List.length_pos_iff.2 hne
  rw [if_neg (by omega)]
  refine ⟨b, off + 1, by simp [Addr.add], hb, fun j u hj => ?_⟩
  have h2 := hr (j + 1) u (by simpa using hj)
  have e : off + 1 + j * EN.size = off + (j + 1) * EN.size := by
    rw [show EN.size = 1 from rfl]
    omega
  rw [e]
  exact h2
theorem slice_tail (A : Option Addr) (n c : Nat) (W : World) :
    (Instr.slice 54 (.slice A (n + 1) c) (some (.int .i64 1)) none none).run Tryz.prog W = .ok (.slice (if c = 1 then A else A.map fun x => x.add 1) n (c - 1)) W := by
  go_simp
  intro h
  omega

/-- The writer's block, and its row. -/
def wrB (A : Option Addr) (n c : Nat) : Obj := .cells #[.slice A n c] 67 (0, 0)
/-- The writer at q has said xs; its row is in a block j, if there is one, of its own, above it. -/
structure Wr (w : World) (q : Nat) (xs : List Int) (v : Value) : Prop where
  blk : w.heap[q]? = some (.cells #[v] 67 (0, 0))
  own : OwnE EN w (q + 1) v xs
/-- Those blocks lie as they lay that are neither the writer's nor its row's. -/
structure Wf (q : Nat) (v : Value) (w : World) (v' : Value) (w' : World) : Prop where
  b : Below q w w'
  f : ∀ k, k < w.heap.size → k ≠ q → v.ownBlock ≠ some k → w'.heap[k]? = w.heap[k]?
  row : v'.ownBlock = v.ownBlock ∨ ∃ k, v'.ownBlock = some k ∧ w.heap.size ≤ k
section
variable {q g o : Nat} {v v1 v2 : Value} {w w1 w2 w' : World} {xs : List Int} {u : Value}
theorem Wf.refl (q : Nat) (v : Value) (w : World) : Wf q v w v w := ⟨Below.refl _ _, fun _ _ _ _ => rfl, .inl rfl⟩
theorem Wf.size (h : Wf q v w v1 w1) : w.heap.size ≤ w1.heap.size := h.b.size
theorem Wf.trans (h : Wf q v w v1 w1) (k : Wf q v1 w1 v2 w2) : Wf q v w v2 w2 := by
  refine ⟨h.b.trans k.b, fun i h1 h2 h3 => (k.f i (Nat.lt_of_lt_of_le h1 h.size) h2 fun e => ?_).trans (h.f i h1 h2 h3), ?_⟩
  · rcases h.row with e1 | ⟨j, e1, e2⟩
    · exact h3 (e1 ▸ e)
    · rw [e1] at e
      cases e
      omega
  · rcases k.row with e1 | ⟨j, e1, e2⟩
    · rcases h.row with e2 | ⟨j, e2, e3⟩
      · exact .inl (e1.trans e2)
      · exact .inr ⟨j, e1.trans e2, e3⟩
    · exact .inr ⟨j, e1, by have := h.size; omega⟩
theorem Wr.lt (h : Wr w q xs v) : q < w.heap.size := (Array.getElem?_eq_some_iff.1 h.blk).1
theorem Wr.cell (h : Wr w q xs v) : w.cell? ⟨q, 0, none⟩ = some v := Joins.cell_of_block h.blk 0
theorem Wr.free (h : Wr w q xs v) : ∀ o, w.frozen? ⟨q, o, none⟩ = false := by
  intro o
  simp [World.frozen?, h.blk]
theorem Wr.keep (h : Wr w q xs v) (hb : Below w.heap.size w w') : Wr w' q xs v := ⟨(hb.block q h.lt).trans h.blk, h.own.keep hb⟩
theorem Wr.alloc (h : Wr w q xs v) (o : Obj) : Wr (w.alloc o) q xs v := h.keep (new_below w o)
theorem Wf.alloc (h : Wf q v w v1 w1) (hq : q < w.heap.size) (o : Obj) : Wf q v w v1 (w1.alloc o) :=
  ⟨h.b.alloc (by have := h.size; omega) o, fun k h1 h2 h3 => ((new_below w1 o).block k (Nat.lt_of_lt_of_le h1 h.size)).trans (h.f k h1 h2 h3), h.row⟩
theorem Wf.keep (h : Wf q v w v1 w1) (hq : q < w.heap.size) (hb : Below w1.heap.size w1 w2) : Wf q v w v1 w2 :=
  ⟨h.b.trans (hb.mono (by have := h.size; omega)), fun k h1 h2 h3 => (hb.block k (Nat.lt_of_lt_of_le h1 h.size)).trans (h.f k h1 h2 h3), h.row⟩
/-- A block that is neither: it stays. -/
theorem Wf.other (h : Wf q v w v1 w1) {O : Obj} (hO : w.heap[g]? = some O) (h1 : g ≠ q) (h2 : v.ownBlock ≠ some g) : w1.heap[g]? = some O := (h.f g (Array.getElem?_eq_some_iff.1 hO).1 h1 h2).trans hO
/-- One that is new when the row is not. -/
theorem Wf.not (h : Wf q v w v1 w1) (hg : g < w.heap.size) (h2 : v.ownBlock ≠ some g) : v1.ownBlock ≠ some g := fun e => by
  rcases h.row with e1 | ⟨j, e1, e2⟩
  · exact h2 (e1 ▸ e)
  · rw [e1] at e
    cases e
    omega
theorem Wr.new (h : Wr w q xs v) : v.ownBlock ≠ some w.heap.size := fun e => by
  have := ownE_lt h.own e
  omega
end
end Go.Proofs.YtfmmfaeognoleaaGreat
/-
  What a writer says: say, and what is said of one colour, vertex, instruction, triangle, sign.
-/
namespace Go.Proofs.YtfmmfaeognoleaaGreat
open Go.RowKit
attribute [local go_sem ↓] Go.wp_at_zero Go.wp_at_succ

set_option maxRecDepth 100000 in
theorem rowN : Nonempty (Row EN 54) := row_of Tryz.underlying54 (z := .int .i64 0) (b := 8) (by kernel_rfl) (by decide) (by kernel_rfl)

/-- What a call says: nothing is answered, the writer has said more. -/
def Says (q : Nat) (v : Value) (xs : List Int) (w : World) (e : Ending) (w' : World) : Prop := e = .returned (.tuple #[]) ∧ ∃ v', Wr w' q xs v' ∧ Wf q v w v' w'

set_option maxRecDepth 100000 in
set_option maxHeartbeats 1000000 in
theorem say_any {q : Nat} {v : Value} {xs : List Int} (ys : List Int) (A : Option Addr) (c B : Nat) (w : World) (h : Wr w q xs v) (hs : Es EN w B A ys) (hn : xs.length + ys.length ≤ 100000000) :
    Calls Tryz.prog 61 #[.pointer (some ⟨q, 0, none⟩), .slice A ys.length c] w (Says q v (xs ++ ys) w) := by
  obtain ⟨RN⟩ := rowN
  have hq := h.lt
  have hcell := h.cell
  have HO := Lib.hid h.own
  have HS := Lib.hid hs
  have HW := Lib.hid h
  clear h hs
  go_enter Tryz.func61, Tryz.ntmps61
  go_wp2_with (at_builtin; refine wpList_append_es rfl RN _ _ c rfl rfl rfl HO.out HS.out (by omega) (by omega) (by omega) ?_; intro v' w1 hown hg hat; obtain ⟨ho, hbl⟩ := ownE_app HO.out hown hg (by omega); have hq1 := (hbl.block q (by omega)).trans HW.out.blk; have hc1 : w1.cell? ⟨q, 0, none⟩ = some v := Joins.cell_of_block hq1 0; have hf1 : w1.frozen? ⟨q, 0, none⟩ = false := (by simp [World.frozen?, hq1]); obtain ⟨A', c', rfl⟩ := ho.form)
  go_end0
  refine ⟨rfl, _, ⟨?_, ho.setCell (Nat.lt_succ_self q)⟩, ⟨(hbl.mono (by omega)).setCell (Nat.le_refl q) _, fun k h1 h2 h3 => ?_, ?_⟩⟩
  · rw [heap_setCell_same _ _ _ _ _ _ hq1]
    simp
  · rw [heap_setCell_other _ _ _ _ (by simpa using h2)]
    exact hg.block k h1 (fun e => h3 e.symm)
  · rcases hat with e | e
    · exact .inl e
    · exact .inr ⟨_, e, Nat.le_refl _⟩
end Go.Proofs.YtfmmfaeognoleaaGreat
/-
  What a writer says of one colour, vertex, instruction, triangle; of a sign.
-/
namespace Go.Proofs.YtfmmfaeognoleaaGreat
open Go.RowKit
attribute [local go_sem ↓] Go.wp_at_zero Go.wp_at_succ

theorem es_new {w : World} (xs : List Int) (cs : Array Value) (h : cs.toList = xs.map (Value.int .i64)) : Es EN (w.alloc (.cells cs 3)) (w.heap.size + 1) (some ⟨w.heap.size, 0, none⟩) xs := fun _ => by
  refine ⟨w.heap.size, 0, rfl, Nat.lt_succ_self _, fun j u hj i y hy => ?_⟩
  have hi : i = 0 := by
    rcases Nat.eq_zero_or_pos i with e | e
    · exact e
    · rw [List.getElem?_eq_none (by show 1 ≤ i; omega)] at hy; cases hy
  subst hi
  obtain rfl : Value.int .i64 u = y := by simpa [EN] using hy
  rw [cell_of_row _ w.heap.size _ cs 3 (0, 0) (heap_alloc_new _ _), show 0 + j * EN.size + 0 = j by rw [show EN.size = 1 from rfl]; omega, ← Array.getElem?_toList, h, List.getElem?_map, hj]
  rfl
set_option maxRecDepth 100000 in
set_option maxHeartbeats 1000000 in
theorem wcol_any {q : Nat} {v : Value} {xs : List Int} (c : Col) (hc : c.ok) (w : World) (h : Wr w q xs v) (hn : xs.length + 4 ≤ 100000000) :
    Calls Tryz.prog 62 #[.pointer (some ⟨q, 0, none⟩), .agg #[.int .u8 c.r, .int .u8 c.g, .int .u8 c.b, .int .u8 c.a]] w (Says q v (xs ++ nC c) w) := by
  obtain ⟨⟨r0, r1⟩, ⟨g0, g1⟩, ⟨b0, b1⟩, ⟨a0, a1⟩⟩ := hc
  have hq := h.lt
  have HS := Lib.hid (fun t (ht : t = (w.alloc (.cells #[.int .u8 c.r, .int .u8 c.g, .int .u8 c.b, .int .u8 c.a] 23)).alloc (.cells #[.int .i64 c.r, .int .i64 c.g, .int .i64 c.b, .int .i64 c.a] 3)) => show Calls Tryz.prog 61 #[.pointer (some ⟨q, 0, none⟩), .slice (some ⟨w.heap.size + 1, 0, none⟩) 4 4] t (Says q v (xs ++ nC c) t) from by
    subst ht
    have hw := (h.alloc (.cells #[.int .u8 c.r, .int .u8 c.g, .int .u8 c.b, .int .u8 c.a] 23)).alloc (.cells #[.int .i64 c.r, .int .i64 c.g, .int .i64 c.b, .int .i64 c.a] 3)
    have he := es_new (w := w.alloc (.cells #[.int .u8 c.r, .int .u8 c.g, .int .u8 c.b, .int .u8 c.a] 23)) (nC c) #[.int .i64 c.r, .int .i64 c.g, .int .i64 c.b, .int .i64 c.a] rfl
    simp only [World.size_alloc] at he
    exact say_any (nC c) _ 4 _ _ hw he hn)
  have HF := Lib.hid (((Wf.refl q v w).alloc hq (.cells #[.int .u8 c.r, .int .u8 c.g, .int .u8 c.b, .int .u8 c.a] 23)).alloc hq (.cells #[.int .i64 c.r, .int .i64 c.g, .int .i64 c.b, .int .i64 c.a] 3))
  clear h hn
  go_enter Tryz.func62, Tryz.ntmps62
  go_wp2_with fail
  with_reducible refine (HS.out _ rfl).mono ?_
  rintro e w' ⟨rfl, v', hw', hf'⟩
  go_wp2
  go_end0
  exact ⟨rfl, v', hw', HF.out.trans hf'⟩
/-- Some cells of a block of their own, read as numbers. -/
theorem es_mid {w : World} {g t off : Nat} {cs : Array Value} (hg : w.heap[g]? = some (.cells cs t (0, 0))) (ys : List Int) (h : (cs.toList.drop off).take ys.length = ys.map (Value.int .i64)) : Es EN w (g + 1) (some ⟨g, off, none⟩) ys := fun _ => by
  refine ⟨g, off, rfl, Nat.lt_succ_self _, fun j u hj i y hy => ?_⟩
  have hjl : j < ys.length := (List.getElem?_eq_some_iff.1 hj).1
  have hi : i = 0 := by
    rcases Nat.eq_zero_or_pos i with e | e
    · exact e
    · rw [List.getElem?_eq_none (by show 1 ≤ i; omega)] at hy; cases hy
  subst hi
  obtain rfl : Value.int .i64 u = y := by simpa [EN] using hy
  rw [cell_of_row _ g _ cs t (0, 0) hg, show off + j * EN.size + 0 = off + j by rw [show EN.size = 1 from rfl]; omega, ← Array.getElem?_toList]
  have h2 : ((cs.toList.drop off).take ys.length)[j]? = (ys.map (Value.int .i64))[j]? := by rw [h]
  rw [List.getElem?_take_of_lt hjl, List.getElem?_drop, List.getElem?_map, hj] at h2
  exact h2
set_option maxRecDepth 100000 in
set_option maxHeartbeats 1000000 in
theorem wins_any {q : Nat} {v : Value} {xs : List Int} (x : C.In) (hx : x.ok) (w : World) (h : Wr w q xs v) (hn : xs.length + 5 ≤ 100000000) :
    Calls Tryz.prog 104 #[.pointer (some ⟨q, 0, none⟩), .agg #[.int .u8 x.o, .int .u8 x.d, .int .u8 x.a, .int .u8 x.b, .int .i64 x.n]] w (Says q v (xs ++ nI x) w) := by
  obtain ⟨⟨r0, r1⟩, ⟨g0, g1⟩, ⟨b0, b1⟩, ⟨a0, a1⟩, -⟩ := hx
  have hq := h.lt
  have HS := Lib.hid (fun t (ht : t = (w.alloc (.cells #[.int .u8 x.o, .int .u8 x.d, .int .u8 x.a, .int .u8 x.b, .int .i64 x.n] 76)).alloc (.cells #[.int .i64 x.o, .int .i64 x.d, .int .i64 x.a, .int .i64 x.b, .int .i64 x.n] 3)) => show Calls Tryz.prog 61 #[.pointer (some ⟨q, 0, none⟩), .slice (some ⟨w.heap.size + 1, 0, none⟩) 5 5] t (Says q v (xs ++ nI x) t) from by
    subst ht
    have hw := (h.alloc (.cells #[.int .u8 x.o, .int .u8 x.d, .int .u8 x.a, .int .u8 x.b, .int .i64 x.n] 76)).alloc (.cells #[.int .i64 x.o, .int .i64 x.d, .int .i64 x.a, .int .i64 x.b, .int .i64 x.n] 3)
    have he := es_new (w := w.alloc (.cells #[.int .u8 x.o, .int .u8 x.d, .int .u8 x.a, .int .u8 x.b, .int .i64 x.n] 76)) (nI x) #[.int .i64 x.o, .int .i64 x.d, .int .i64 x.a, .int .i64 x.b, .int .i64 x.n] rfl
    simp only [World.size_alloc] at he
    exact say_any (nI x) _ 5 _ _ hw he hn)
  have HF := Lib.hid (((Wf.refl q v w).alloc hq (.cells #[.int .u8 x.o, .int .u8 x.d, .int .u8 x.a, .int .u8 x.b, .int .i64 x.n] 76)).alloc hq (.cells #[.int .i64 x.o, .int .i64 x.d, .int .i64 x.a, .int .i64 x.b, .int .i64 x.n] 3))
  clear h hn
  go_enter Tryz.func104, Tryz.ntmps104
  go_wp2_with fail
  with_reducible refine (HS.out _ rfl).mono ?_
  rintro e w' ⟨rfl, v', hw', hf'⟩
  go_wp2
  go_end0
  exact ⟨rfl, v', hw', HF.out.trans hf'⟩
set_option maxRecDepth 100000 in
set_option maxHeartbeats 1000000 in
theorem wvec_any {q : Nat} {v : Value} {xs : List Int} (x : U.V) (w : World) (h : Wr w q xs v) (hn : xs.length + 8 ≤ 100000000) :
    Calls Tryz.prog 64 #[.pointer (some ⟨q, 0, none⟩), .agg #[.int .i64 x.x, .int .i64 x.y, .int .i64 x.z, .int .i64 x.w, .int .i64 x.a, .int .i64 x.b, .int .i64 x.c, .int .i64 x.d]] w (Says q v (xs ++ nV x) w) := by
  have hq := h.lt
  have hnw := h.new
  have HS := Lib.hid (fun t (ht : t = (w.alloc (.cells #[.int .i64 x.x, .int .i64 x.y, .int .i64 x.z, .int .i64 x.w, .int .i64 x.a, .int .i64 x.b, .int .i64 x.c, .int .i64 x.d] 74)).alloc (.cells #[.int .i64 x.x, .int .i64 x.y, .int .i64 x.z, .int .i64 x.w] 3)) => show Calls Tryz.prog 61 #[.pointer (some ⟨q, 0, none⟩), .slice (some ⟨w.heap.size + 1, 0, none⟩) 4 4] t (Says q v (xs ++ [x.x, x.y, x.z, x.w]) t) from by
    subst ht
    have hw := (h.alloc (.cells #[.int .i64 x.x, .int .i64 x.y, .int .i64 x.z, .int .i64 x.w, .int .i64 x.a, .int .i64 x.b, .int .i64 x.c, .int .i64 x.d] 74)).alloc (.cells #[.int .i64 x.x, .int .i64 x.y, .int .i64 x.z, .int .i64 x.w] 3)
    have he := es_new (w := w.alloc (.cells #[.int .i64 x.x, .int .i64 x.y, .int .i64 x.z, .int .i64 x.w, .int .i64 x.a, .int .i64 x.b, .int .i64 x.c, .int .i64 x.d] 74)) [x.x, x.y, x.z, x.w] #[.int .i64 x.x, .int .i64 x.y, .int .i64 x.z, .int .i64 x.w] rfl
    simp only [World.size_alloc] at he
    exact say_any [x.x, x.y, x.z, x.w] _ 4 _ _ hw he (by show xs.length + 4 ≤ _; omega))
  have HF := Lib.hid (((Wf.refl q v w).alloc hq (.cells #[.int .i64 x.x, .int .i64 x.y, .int .i64 x.z, .int .i64 x.w, .int .i64 x.a, .int .i64 x.b, .int .i64 x.c, .int .i64 x.d] 74)).alloc hq (.cells #[.int .i64 x.x, .int .i64 x.y, .int .i64 x.z, .int .i64 x.w] 3))
  have HG := Lib.hid (show ((w.alloc (.cells #[.int .i64 x.x, .int .i64 x.y, .int .i64 x.z, .int .i64 x.w, .int .i64 x.a, .int .i64 x.b, .int .i64 x.c, .int .i64 x.d] 74)).alloc (.cells #[.int .i64 x.x, .int .i64 x.y, .int .i64 x.z, .int .i64 x.w] 3)).heap[w.heap.size]? = some (.cells #[.int .i64 x.x, .int .i64 x.y, .int .i64 x.z, .int .i64 x.w, .int .i64 x.a, .int .i64 x.b, .int .i64 x.c, .int .i64 x.d] 74 (0, 0)) from (heap_alloc_old _ _ (by simp)).trans (heap_alloc_new _ _))
  have HN := Lib.hid (show xs.length + 8 ≤ 100000000 from hn)
  clear h hn
  go_enter Tryz.func64, Tryz.ntmps64
  go_wp2_with fail
  with_reducible refine (HS.out _ rfl).mono ?_
  rintro e w1 ⟨rfl, v1, hw1, hf1⟩
  have hg := hf1.other HG.out (by omega) hnw
  have HF1 := Lib.hid (HF.out.trans hf1)
  have H2 := Lib.hid (show Calls Tryz.prog 61 #[.pointer (some ⟨q, 0, none⟩), .slice (some ⟨w.heap.size, 4, none⟩) 4 4] w1 (Says q v1 (xs ++ nV x) w1) from by
    have := say_any [x.a, x.b, x.c, x.d] _ 4 _ _ hw1 (es_mid (off := 4) hg [x.a, x.b, x.c, x.d] rfl) (by have := HN.out; simp; omega)
    rw [List.append_assoc] at this
    exact this)
  clear hg hw1 hf1 HS HG HF
  go_wp2_with fail
  with_reducible refine (H2.out).mono ?_
  rintro e w2 ⟨rfl, v2, hw2, hf2⟩
  go_wp2
  go_end0
  exact ⟨rfl, v2, hw2, HF1.out.trans hf2⟩
set_option maxRecDepth 100000 in
set_option maxHeartbeats 1000000 in
theorem wtri_any {q : Nat} {v : Value} {xs : List Int} (x : Tr) (w : World) (h : Wr w q xs v) (hn : xs.length + 4 ≤ 100000000) :
    Calls Tryz.prog 107 #[.pointer (some ⟨q, 0, none⟩), .agg #[.int .i64 x.i, .int .i64 x.a, .int .i64 x.b, .int .i64 x.c]] w (Says q v (xs ++ nR x) w) := by
  have hq := h.lt
  have hnw := h.new
  have HS := Lib.hid (fun t (ht : t = (w.alloc (.cells #[.int .i64 x.i, .int .i64 x.a, .int .i64 x.b, .int .i64 x.c] 86)).alloc (.cells #[.int .i64 x.i] 3)) => show Calls Tryz.prog 61 #[.pointer (some ⟨q, 0, none⟩), .slice (some ⟨w.heap.size + 1, 0, none⟩) 1 1] t (Says q v (xs ++ [x.i]) t) from by
    subst ht
    have hw := (h.alloc (.cells #[.int .i64 x.i, .int .i64 x.a, .int .i64 x.b, .int .i64 x.c] 86)).alloc (.cells #[.int .i64 x.i] 3)
    have he := es_new (w := w.alloc (.cells #[.int .i64 x.i, .int .i64 x.a, .int .i64 x.b, .int .i64 x.c] 86)) [x.i] #[.int .i64 x.i] rfl
    simp only [World.size_alloc] at he
    exact say_any [x.i] _ 1 _ _ hw he (by show xs.length + 1 ≤ _; omega))
  have HF := Lib.hid (((Wf.refl q v w).alloc hq (.cells #[.int .i64 x.i, .int .i64 x.a, .int .i64 x.b, .int .i64 x.c] 86)).alloc hq (.cells #[.int .i64 x.i] 3))
  have HG := Lib.hid (show ((w.alloc (.cells #[.int .i64 x.i, .int .i64 x.a, .int .i64 x.b, .int .i64 x.c] 86)).alloc (.cells #[.int .i64 x.i] 3)).heap[w.heap.size]? = some (.cells #[.int .i64 x.i, .int .i64 x.a, .int .i64 x.b, .int .i64 x.c] 86 (0, 0)) from (heap_alloc_old _ _ (by simp)).trans (heap_alloc_new _ _))
  have HN := Lib.hid (show xs.length + 4 ≤ 100000000 from hn)
  clear h hn
  go_enter Tryz.func107, Tryz.ntmps107
  go_wp2_with fail
  with_reducible refine (HS.out _ rfl).mono ?_
  rintro e w1 ⟨rfl, v1, hw1, hf1⟩
  have hg := hf1.other HG.out (by omega) hnw
  have HF1 := Lib.hid (HF.out.trans hf1)
  have H2 := Lib.hid (show Calls Tryz.prog 61 #[.pointer (some ⟨q, 0, none⟩), .slice (some ⟨w.heap.size, 1, none⟩) 3 3] w1 (Says q v1 (xs ++ nR x) w1) from by
    have := say_any [x.a, x.b, x.c] _ 3 _ _ hw1 (es_mid (off := 1) hg [x.a, x.b, x.c] rfl) (by have := HN.out; simp; omega)
    rw [List.append_assoc] at this
    exact this)
  clear hg hw1 hf1 HS HG HF
  go_wp2_with fail
  with_reducible refine (H2.out).mono ?_
  rintro e w2 ⟨rfl, v2, hw2, hf2⟩
  go_wp2
  go_end0
  exact ⟨rfl, v2, hw2, HF1.out.trans hf2⟩
set_option maxRecDepth 100000 in
set_option maxHeartbeats 1000000 in
theorem wsign_any {q : Nat} {v : Value} {xs : List Int} (b : Bool) (w : World) (h : Wr w q xs v) (hn : xs.length + 1 ≤ 100000000) :
    Calls Tryz.prog 105 #[.pointer (some ⟨q, 0, none⟩), .bool b] w (Says q v (xs ++ [nB b]) w) := by
  have hq := h.lt
  have HS := Lib.hid (fun (n : Int) t (ht : t = w.alloc (.cells #[.int .i64 n] 3)) => show Calls Tryz.prog 61 #[.pointer (some ⟨q, 0, none⟩), .slice (some ⟨w.heap.size, 0, none⟩) 1 1] t (Says q v (xs ++ [n]) t) from by
    subst ht
    exact say_any [n] _ 1 _ _ (h.alloc (.cells #[.int .i64 n] 3)) (es_new [n] #[.int .i64 n] rfl) hn)
  have HF := Lib.hid (fun (n : Int) => (Wf.refl q v w).alloc hq (.cells #[.int .i64 n] 3))
  clear h hn
  cases b
  · show Calls Tryz.prog 105 #[.pointer (some ⟨q, 0, none⟩), .bool false] w (Says q v (xs ++ [0]) w)
    go_enter Tryz.func105, Tryz.ntmps105
    go_wp2_with fail
    with_reducible refine (HS.out _ _ rfl).mono ?_
    rintro e w' ⟨rfl, v', hw', hf'⟩
    go_wp2
    go_end0
    exact ⟨rfl, v', hw', (HF.out 0).trans hf'⟩
  · show Calls Tryz.prog 105 #[.pointer (some ⟨q, 0, none⟩), .bool true] w (Says q v (xs ++ [1]) w)
    go_enter Tryz.func105, Tryz.ntmps105
    go_wp2_with fail
    with_reducible refine (HS.out _ _ rfl).mono ?_
    rintro e w' ⟨rfl, v', hw', hf'⟩
    go_wp2
    first | go_end0 | go_ret
    exact ⟨rfl, v', hw', (HF.out 1).trans hf'⟩
end Go.Proofs.YtfmmfaeognoleaaGreat
/-
  What a writer says of a list: how many there are, and each.
-/
namespace Go.Proofs.YtfmmfaeognoleaaGreat
open Go.RowKit
attribute [local go_sem ↓] Go.wp_at_zero Go.wp_at_succ

theorem said_steps {α : Type} (xs : List Int) (G : α → List Int) (l : List α) {N : Nat} (hn : xs.length + (nAll G l).length ≤ N) :
    ∃ Y : Nat → List Int, Y 0 = xs ++ [(l.length : Int)] ∧ Y l.length = xs ++ nAll G l ∧ (∀ j u, l[j]? = some u → Y (j + 1) = Y j ++ G u ∧ (Y j).length + (G u).length ≤ N) ∧ xs.length + 1 ≤ N := by
  have hn2 : xs.length + ((l.flatMap G).length + 1) ≤ N := hn
  refine ⟨fun j => xs ++ ((l.length : Int) :: (l.take j).flatMap G), rfl, by simp [nAll], fun j u hu => ?_, by omega⟩
  have e : l.take (j + 1) = l.take j ++ [u] := take_snoc hu
  have e2 : (l.take (j + 1)).flatMap G = (l.take j).flatMap G ++ G u := by rw [e, List.flatMap_append]; simp
  refine ⟨by simp only [e2]; simp, ?_⟩
  have h3 : (l.flatMap G).length = ((l.take (j + 1)).flatMap G).length + ((l.drop (j + 1)).flatMap G).length := by rw [← List.length_append, ← List.flatMap_append, List.take_append_drop]
  rw [e2, List.length_append] at h3
  simp only [List.length_append, List.length_cons]
  omega
theorem nAll_map {α β : Type} (f : β → α) (g : α → List Int) (l : List β) : nAll (fun x => g (f x)) l = nAll g (l.map f) := by
  unfold nAll
  rw [List.length_map, List.flatMap_map]

set_option maxRecDepth 100000 in
set_option maxHeartbeats 2000000 in
theorem sayV_any {q : Nat} {v : Value} {xs : List Int} (l : List (U.V)) (A : Option Addr) (c : Nat) (w : World) (h : Wr w q xs v) (he : Es EV w q A l) (hl : l.length ≤ 100000) (hn : xs.length + (nAll nV l).length ≤ 100000000)
    (H : ∀ u ∈ l, ∀ (W : World) (v' : Value) (ys : List Int), Below q w W → Wr W q ys v' → ys.length + (nV u).length ≤ 100000000 → Calls Tryz.prog 64 #[.pointer (some ⟨q, 0, none⟩), .agg #[.int .i64 u.x, .int .i64 u.y, .int .i64 u.z, .int .i64 u.w, .int .i64 u.a, .int .i64 u.b, .int .i64 u.c, .int .i64 u.d]] W (Says q v' (ys ++ nV u) W)) :
    Calls Tryz.prog 63 #[.pointer (some ⟨q, 0, none⟩), .slice A l.length c, .func (.func 64) #[.pointer (some ⟨q, 0, none⟩)] #[]] w (Says q v (xs ++ nAll nV l) w) := by
  have hq := h.lt
  obtain ⟨Y, y0, yn, ys, y1⟩ := said_steps xs nV l hn
  rw [← yn]
  have HL := Lib.hid (fun (k : Nat) (h : k < l.length) => get_lt h)
  have HS := Lib.hid (show ∀ t, t = w.alloc (.cells #[.int .i64 l.length] 3) → Calls Tryz.prog 61 #[.pointer (some ⟨q, 0, none⟩), .slice (some ⟨w.heap.size, 0, none⟩) 1 1] t (Says q v (Y 0) t) from fun t ht => by
    subst ht
    rw [y0]
    exact say_any [(l.length : Int)] _ 1 _ _ (h.alloc (.cells #[.int .i64 l.length] 3)) (es_new [(l.length : Int)] #[.int .i64 l.length] rfl) y1)
  have HF := Lib.hid ((Wf.refl q v w).alloc hq (.cells #[.int .i64 l.length] 3))
  have HE := Lib.hid he
  have HH := Lib.hid H
  have HY := Lib.hid ys
  obtain ⟨n, hnn⟩ : ∃ n, l.length = n := ⟨_, rfl⟩
  rw [hnn] at HL HS HF hl ⊢
  clear he H h hn y0 yn y1 ys hnn
  go_enter Tryz.func63, Tryz.ntmps63
  go_wp2_with fail
  with_reducible refine (HS.out _ rfl).mono ?_
  rintro e w1 ⟨rfl, v1, hw1, hf1⟩
  have HW1 := Lib.hid hw1
  have HF1 := Lib.hid (HF.out.trans hf1)
  clear hw1 hf1 HS HF
  go_wp2_with fail
  go_loopw [15] (fun i wr => ∃ j : Nat, j ≤ n ∧ i = .int .i64 j ∧ ∃ v', Wr wr q (Y j) v' ∧ Wf q v w v' wr) (fun i _ => n - (intOf i).toNat)
  case atStart => exact ⟨0, Nat.zero_le _, rfl, v1, HW1.out, HF1.out⟩
  case round =>
    obtain ⟨j, hk, rfl, v2, hw2, hf2⟩ := hrel
    have HW2 := Lib.hid hw2
    have HF2 := Lib.hid hf2
    clear hw2 hf2 HW1 HF1
    by_cases hlt : j < n
    · obtain ⟨u, hu⟩ := HL.out j hlt
      obtain ⟨b, off, rfl, hbB, hat⟩ := HE.out.at hu
      have hc := atV (show AtE EV wr b (off + j * 8) u from hat.below HF2.out.b hbB)
      obtain ⟨c0, c1, c2, c3, c4, c5, c6, c7⟩ := hc
      have hs2 := HF2.out.size
      have hbw : b < wr.heap.size := by omega
      have hu' := List.mem_of_getElem? hu
      have HT := Lib.hid (HW2.out.alloc (.cells #[.int .i64 u.x, .int .i64 u.y, .int .i64 u.z, .int .i64 u.w, .int .i64 u.a, .int .i64 u.b, .int .i64 u.c, .int .i64 u.d] 74))
      have HFT := Lib.hid (HF2.out.alloc hq (.cells #[.int .i64 u.x, .int .i64 u.y, .int .i64 u.z, .int .i64 u.w, .int .i64 u.a, .int .i64 u.b, .int .i64 u.c, .int .i64 u.d] 74))
      have hy := HY.out j u hu
      have HU := Lib.hid (show ∀ t, t = wr.alloc (.cells #[.int .i64 u.x, .int .i64 u.y, .int .i64 u.z, .int .i64 u.w, .int .i64 u.a, .int .i64 u.b, .int .i64 u.c, .int .i64 u.d] 74) → Calls Tryz.prog 64 #[.pointer (some ⟨q, 0, none⟩), .agg #[.int .i64 u.x, .int .i64 u.y, .int .i64 u.z, .int .i64 u.w, .int .i64 u.a, .int .i64 u.b, .int .i64 u.c, .int .i64 u.d]] t (Says q v2 (Y (j + 1)) t) from fun t ht => by
        subst ht
        rw [hy.1]
        exact HH.out u hu' _ v2 _ HFT.out.b HT.out hy.2)
      clear hat hu' hu hy
      go_wp2_with fail
      with_reducible refine (HU.out _ rfl).mono ?_
      rintro e w3 ⟨rfl, v3, hw3, hf3⟩
      have HW3 := Lib.hid hw3
      have HF3 := Lib.hid (HFT.out.trans hf3)
      clear hw3 hf3 HU HT HFT
      go_wp2_with fail
      go_roundw
      case rel => exact ⟨j + 1, by omega, by go_num, v3, HW3.out, HF3.out⟩
      case measure => simp [intOf]; omega
    · obtain rfl : j = n := by omega
      go_wp2_with fail
      go_end0
      exact ⟨rfl, v2, HW2.out, HF2.out⟩

set_option maxRecDepth 100000 in
set_option maxHeartbeats 2000000 in
theorem sayT_any {q : Nat} {v : Value} {xs : List Int} (l : List (Lo Tx)) (A : Option Addr) (c : Nat) (w : World) (h : Wr w q xs v) (he : Es ET w q A l) (hl : l.length ≤ 100000) (hn : xs.length + (nAll (fun u : Lo Tx => nT u.x) l).length ≤ 100000000)
    (H : ∀ u ∈ l, ∀ (W : World) (v' : Value) (ys : List Int), Below q w W → Wr W q ys v' → ys.length + ((fun u : Lo Tx => nT u.x) u).length ≤ 100000000 → Calls Tryz.prog 66 #[.pointer (some ⟨q, 0, none⟩), .agg #[.int .i64 u.x.w, .int .i64 u.x.h, .slice u.A u.x.px.length u.c]] W (Says q v' (ys ++ (fun u : Lo Tx => nT u.x) u) W)) :
    Calls Tryz.prog 65 #[.pointer (some ⟨q, 0, none⟩), .slice A l.length c, .func (.func 66) #[.pointer (some ⟨q, 0, none⟩)] #[]] w (Says q v (xs ++ nAll (fun u : Lo Tx => nT u.x) l) w) := by
  have hq := h.lt
  obtain ⟨Y, y0, yn, ys, y1⟩ := said_steps xs (fun u : Lo Tx => nT u.x) l hn
  rw [← yn]
  have HL := Lib.hid (fun (k : Nat) (h : k < l.length) => get_lt h)
  have HS := Lib.hid (show ∀ t, t = w.alloc (.cells #[.int .i64 l.length] 3) → Calls Tryz.prog 61 #[.pointer (some ⟨q, 0, none⟩), .slice (some ⟨w.heap.size, 0, none⟩) 1 1] t (Says q v (Y 0) t) from fun t ht => by
    subst ht
    rw [y0]
    exact say_any [(l.length : Int)] _ 1 _ _ (h.alloc (.cells #[.int .i64 l.length] 3)) (es_new [(l.length : Int)] #[.int .i64 l.length] rfl) y1)
  have HF := Lib.hid ((Wf.refl q v w).alloc hq (.cells #[.int .i64 l.length] 3))
  have HE := Lib.hid he
  have HH := Lib.hid H
  have HY := Lib.hid ys
  obtain ⟨n, hnn⟩ : ∃ n, l.length = n := ⟨_, rfl⟩
  rw [hnn] at HL HS HF hl ⊢
  clear he H h hn y0 yn y1 ys hnn
  go_enter Tryz.func65, Tryz.ntmps65
  go_wp2_with fail
  with_reducible refine (HS.out _ rfl).mono ?_
  rintro e w1 ⟨rfl, v1, hw1, hf1⟩
  have HW1 := Lib.hid hw1
  have HF1 := Lib.hid (HF.out.trans hf1)
  clear hw1 hf1 HS HF
  go_wp2_with fail
  go_loopw [15] (fun i wr => ∃ j : Nat, j ≤ n ∧ i = .int .i64 j ∧ ∃ v', Wr wr q (Y j) v' ∧ Wf q v w v' wr) (fun i _ => n - (intOf i).toNat)
  case atStart => exact ⟨0, Nat.zero_le _, rfl, v1, HW1.out, HF1.out⟩
  case round =>
    obtain ⟨j, hk, rfl, v2, hw2, hf2⟩ := hrel
    have HW2 := Lib.hid hw2
    have HF2 := Lib.hid hf2
    clear hw2 hf2 HW1 HF1
    by_cases hlt : j < n
    · obtain ⟨u, hu⟩ := HL.out j hlt
      obtain ⟨b, off, rfl, hbB, hat⟩ := HE.out.at hu
      have hc := atT (show AtE ET wr b (off + j * 3) u from hat.below HF2.out.b hbB)
      obtain ⟨c0, c1, c2⟩ := hc
      have hs2 := HF2.out.size
      have hbw : b < wr.heap.size := by omega
      have hu' := List.mem_of_getElem? hu
      have HT := Lib.hid (HW2.out.alloc (.cells #[.int .i64 u.x.w, .int .i64 u.x.h, .slice u.A u.x.px.length u.c] 47))
      have HFT := Lib.hid (HF2.out.alloc hq (.cells #[.int .i64 u.x.w, .int .i64 u.x.h, .slice u.A u.x.px.length u.c] 47))
      have hy := HY.out j u hu
      have HU := Lib.hid (show ∀ t, t = wr.alloc (.cells #[.int .i64 u.x.w, .int .i64 u.x.h, .slice u.A u.x.px.length u.c] 47) → Calls Tryz.prog 66 #[.pointer (some ⟨q, 0, none⟩), .agg #[.int .i64 u.x.w, .int .i64 u.x.h, .slice u.A u.x.px.length u.c]] t (Says q v2 (Y (j + 1)) t) from fun t ht => by
        subst ht
        rw [hy.1]
        exact HH.out u hu' _ v2 _ HFT.out.b HT.out hy.2)
      clear hat hu' hu hy
      go_wp2_with fail
      with_reducible refine (HU.out _ rfl).mono ?_
      rintro e w3 ⟨rfl, v3, hw3, hf3⟩
      have HW3 := Lib.hid hw3
      have HF3 := Lib.hid (HFT.out.trans hf3)
      clear hw3 hf3 HU HT HFT
      go_wp2_with fail
      go_roundw
      case rel => exact ⟨j + 1, by omega, by go_num, v3, HW3.out, HF3.out⟩
      case measure => simp [intOf]; omega
    · obtain rfl : j = n := by omega
      go_wp2_with fail
      go_end0
      exact ⟨rfl, v2, HW2.out, HF2.out⟩

set_option maxRecDepth 100000 in
set_option maxHeartbeats 2000000 in
theorem sayP_any {q : Nat} {v : Value} {xs : List Int} (l : List (Lo (List C.In))) (A : Option Addr) (c : Nat) (w : World) (h : Wr w q xs v) (he : Es EP w q A l) (hl : l.length ≤ 100000) (hn : xs.length + (nAll (fun u : Lo (List C.In) => nP u.x) l).length ≤ 100000000)
    (H : ∀ u ∈ l, ∀ (W : World) (v' : Value) (ys : List Int), Below q w W → Wr W q ys v' → ys.length + ((fun u : Lo (List C.In) => nP u.x) u).length ≤ 100000000 → Calls Tryz.prog 68 #[.pointer (some ⟨q, 0, none⟩), .slice u.A u.x.length u.c] W (Says q v' (ys ++ (fun u : Lo (List C.In) => nP u.x) u) W)) :
    Calls Tryz.prog 67 #[.pointer (some ⟨q, 0, none⟩), .slice A l.length c, .func (.func 68) #[.pointer (some ⟨q, 0, none⟩)] #[]] w (Says q v (xs ++ nAll (fun u : Lo (List C.In) => nP u.x) l) w) := by
  have hq := h.lt
  obtain ⟨Y, y0, yn, ys, y1⟩ := said_steps xs (fun u : Lo (List C.In) => nP u.x) l hn
  rw [← yn]
  have HL := Lib.hid (fun (k : Nat) (h : k < l.length) => get_lt h)
  have HS := Lib.hid (show ∀ t, t = w.alloc (.cells #[.int .i64 l.length] 3) → Calls Tryz.prog 61 #[.pointer (some ⟨q, 0, none⟩), .slice (some ⟨w.heap.size, 0, none⟩) 1 1] t (Says q v (Y 0) t) from fun t ht => by
    subst ht
    rw [y0]
    exact say_any [(l.length : Int)] _ 1 _ _ (h.alloc (.cells #[.int .i64 l.length] 3)) (es_new [(l.length : Int)] #[.int .i64 l.length] rfl) y1)
  have HF := Lib.hid ((Wf.refl q v w).alloc hq (.cells #[.int .i64 l.length] 3))
  have HE := Lib.hid he
  have HH := Lib.hid H
  have HY := Lib.hid ys
  obtain ⟨n, hnn⟩ : ∃ n, l.length = n := ⟨_, rfl⟩
  rw [hnn] at HL HS HF hl ⊢
  clear he H h hn y0 yn y1 ys hnn
  go_enter Tryz.func67, Tryz.ntmps67
  go_wp2_with fail
  with_reducible refine (HS.out _ rfl).mono ?_
  rintro e w1 ⟨rfl, v1, hw1, hf1⟩
  have HW1 := Lib.hid hw1
  have HF1 := Lib.hid (HF.out.trans hf1)
  clear hw1 hf1 HS HF
  go_wp2_with fail
  go_loopw [15] (fun i wr => ∃ j : Nat, j ≤ n ∧ i = .int .i64 j ∧ ∃ v', Wr wr q (Y j) v' ∧ Wf q v w v' wr) (fun i _ => n - (intOf i).toNat)
  case atStart => exact ⟨0, Nat.zero_le _, rfl, v1, HW1.out, HF1.out⟩
  case round =>
    obtain ⟨j, hk, rfl, v2, hw2, hf2⟩ := hrel
    have HW2 := Lib.hid hw2
    have HF2 := Lib.hid hf2
    clear hw2 hf2 HW1 HF1
    by_cases hlt : j < n
    · obtain ⟨u, hu⟩ := HL.out j hlt
      obtain ⟨b, off, rfl, hbB, hat⟩ := HE.out.at hu
      have hc := atP (show AtE EP wr b (off + j * 1) u from hat.below HF2.out.b hbB)
      rw [Nat.mul_one] at hc
      have hs2 := HF2.out.size
      have hbw : b < wr.heap.size := by omega
      have hu' := List.mem_of_getElem? hu
      have HT := Lib.hid (HW2.out)
      have HFT := Lib.hid (HF2.out)
      have hy := HY.out j u hu
      have HU := Lib.hid (show ∀ t, t = wr → Calls Tryz.prog 68 #[.pointer (some ⟨q, 0, none⟩), .slice u.A u.x.length u.c] t (Says q v2 (Y (j + 1)) t) from fun t ht => by
        subst ht
        rw [hy.1]
        exact HH.out u hu' _ v2 _ HFT.out.b HT.out hy.2)
      clear hat hu' hu hy
      go_wp2_with fail
      with_reducible refine (HU.out _ rfl).mono ?_
      rintro e w3 ⟨rfl, v3, hw3, hf3⟩
      have HW3 := Lib.hid hw3
      have HF3 := Lib.hid (HFT.out.trans hf3)
      clear hw3 hf3 HU HT HFT
      go_wp2_with fail
      go_roundw
      case rel => exact ⟨j + 1, by omega, by go_num, v3, HW3.out, HF3.out⟩
      case measure => simp [intOf]; omega
    · obtain rfl : j = n := by omega
      go_wp2_with fail
      go_end0
      exact ⟨rfl, v2, HW2.out, HF2.out⟩

set_option maxRecDepth 100000 in
set_option maxHeartbeats 2000000 in
theorem sayD_any {q : Nat} {v : Value} {xs : List Int} (l : List (Lo Dr)) (A : Option Addr) (c : Nat) (w : World) (h : Wr w q xs v) (he : Es ED w q A l) (hl : l.length ≤ 100000) (hn : xs.length + (nAll (fun u : Lo Dr => nD u.x) l).length ≤ 100000000)
    (H : ∀ u ∈ l, ∀ (W : World) (v' : Value) (ys : List Int), Below q w W → Wr W q ys v' → ys.length + ((fun u : Lo Dr => nD u.x) u).length ≤ 100000000 → Calls Tryz.prog 70 #[.pointer (some ⟨q, 0, none⟩), .agg #[.int .i64 u.x.id, .int .i64 u.x.prog, .int .i64 u.x.tex, .bool u.x.op, .slice u.A u.x.tris.length u.c]] W (Says q v' (ys ++ (fun u : Lo Dr => nD u.x) u) W)) :
    Calls Tryz.prog 69 #[.pointer (some ⟨q, 0, none⟩), .slice A l.length c, .func (.func 70) #[.pointer (some ⟨q, 0, none⟩)] #[]] w (Says q v (xs ++ nAll (fun u : Lo Dr => nD u.x) l) w) := by
  have hq := h.lt
  obtain ⟨Y, y0, yn, ys, y1⟩ := said_steps xs (fun u : Lo Dr => nD u.x) l hn
  rw [← yn]
  have HL := Lib.hid (fun (k : Nat) (h : k < l.length) => get_lt h)
  have HS := Lib.hid (show ∀ t, t = w.alloc (.cells #[.int .i64 l.length] 3) → Calls Tryz.prog 61 #[.pointer (some ⟨q, 0, none⟩), .slice (some ⟨w.heap.size, 0, none⟩) 1 1] t (Says q v (Y 0) t) from fun t ht => by
    subst ht
    rw [y0]
    exact say_any [(l.length : Int)] _ 1 _ _ (h.alloc (.cells #[.int .i64 l.length] 3)) (es_new [(l.length : Int)] #[.int .i64 l.length] rfl) y1)
  have HF := Lib.hid ((Wf.refl q v w).alloc hq (.cells #[.int .i64 l.length] 3))
  have HE := Lib.hid he
  have HH := Lib.hid H
  have HY := Lib.hid ys
  obtain ⟨n, hnn⟩ : ∃ n, l.length = n := ⟨_, rfl⟩
  rw [hnn] at HL HS HF hl ⊢
  clear he H h hn y0 yn y1 ys hnn
  go_enter Tryz.func69, Tryz.ntmps69
  go_wp2_with fail
  with_reducible refine (HS.out _ rfl).mono ?_
  rintro e w1 ⟨rfl, v1, hw1, hf1⟩
  have HW1 := Lib.hid hw1
  have HF1 := Lib.hid (HF.out.trans hf1)
  clear hw1 hf1 HS HF
  go_wp2_with fail
  go_loopw [15] (fun i wr => ∃ j : Nat, j ≤ n ∧ i = .int .i64 j ∧ ∃ v', Wr wr q (Y j) v' ∧ Wf q v w v' wr) (fun i _ => n - (intOf i).toNat)
  case atStart => exact ⟨0, Nat.zero_le _, rfl, v1, HW1.out, HF1.out⟩
  case round =>
    obtain ⟨j, hk, rfl, v2, hw2, hf2⟩ := hrel
    have HW2 := Lib.hid hw2
    have HF2 := Lib.hid hf2
    clear hw2 hf2 HW1 HF1
    by_cases hlt : j < n
    · obtain ⟨u, hu⟩ := HL.out j hlt
      obtain ⟨b, off, rfl, hbB, hat⟩ := HE.out.at hu
      have hc := atD (show AtE ED wr b (off + j * 5) u from hat.below HF2.out.b hbB)
      obtain ⟨c0, c1, c2, c3, c4⟩ := hc
      have hs2 := HF2.out.size
      have hbw : b < wr.heap.size := by omega
      have hu' := List.mem_of_getElem? hu
      have HT := Lib.hid (HW2.out.alloc (.cells #[.int .i64 u.x.id, .int .i64 u.x.prog, .int .i64 u.x.tex, .bool u.x.op, .slice u.A u.x.tris.length u.c] 51))
      have HFT := Lib.hid (HF2.out.alloc hq (.cells #[.int .i64 u.x.id, .int .i64 u.x.prog, .int .i64 u.x.tex, .bool u.x.op, .slice u.A u.x.tris.length u.c] 51))
      have hy := HY.out j u hu
      have HU := Lib.hid (show ∀ t, t = wr.alloc (.cells #[.int .i64 u.x.id, .int .i64 u.x.prog, .int .i64 u.x.tex, .bool u.x.op, .slice u.A u.x.tris.length u.c] 51) → Calls Tryz.prog 70 #[.pointer (some ⟨q, 0, none⟩), .agg #[.int .i64 u.x.id, .int .i64 u.x.prog, .int .i64 u.x.tex, .bool u.x.op, .slice u.A u.x.tris.length u.c]] t (Says q v2 (Y (j + 1)) t) from fun t ht => by
        subst ht
        rw [hy.1]
        exact HH.out u hu' _ v2 _ HFT.out.b HT.out hy.2)
      clear hat hu' hu hy
      go_wp2_with fail
      with_reducible refine (HU.out _ rfl).mono ?_
      rintro e w3 ⟨rfl, v3, hw3, hf3⟩
      have HW3 := Lib.hid hw3
      have HF3 := Lib.hid (HFT.out.trans hf3)
      clear hw3 hf3 HU HT HFT
      go_wp2_with fail
      go_roundw
      case rel => exact ⟨j + 1, by omega, by go_num, v3, HW3.out, HF3.out⟩
      case measure => simp [intOf]; omega
    · obtain rfl : j = n := by omega
      go_wp2_with fail
      go_end0
      exact ⟨rfl, v2, HW2.out, HF2.out⟩

set_option maxRecDepth 100000 in
set_option maxHeartbeats 2000000 in
theorem sayC_any {q : Nat} {v : Value} {xs : List Int} (l : List (Col)) (A : Option Addr) (c : Nat) (w : World) (h : Wr w q xs v) (he : Es EC w q A l) (hl : l.length ≤ 100000) (hn : xs.length + (nAll nC l).length ≤ 100000000)
    (H : ∀ u ∈ l, ∀ (W : World) (v' : Value) (ys : List Int), Below q w W → Wr W q ys v' → ys.length + (nC u).length ≤ 100000000 → Calls Tryz.prog 62 #[.pointer (some ⟨q, 0, none⟩), .agg #[.int .u8 u.r, .int .u8 u.g, .int .u8 u.b, .int .u8 u.a]] W (Says q v' (ys ++ nC u) W)) :
    Calls Tryz.prog 102 #[.pointer (some ⟨q, 0, none⟩), .slice A l.length c, .func (.func 62) #[.pointer (some ⟨q, 0, none⟩)] #[]] w (Says q v (xs ++ nAll nC l) w) := by
  have hq := h.lt
  obtain ⟨Y, y0, yn, ys, y1⟩ := said_steps xs nC l hn
  rw [← yn]
  have HL := Lib.hid (fun (k : Nat) (h : k < l.length) => get_lt h)
  have HS := Lib.hid (show ∀ t, t = w.alloc (.cells #[.int .i64 l.length] 3) → Calls Tryz.prog 61 #[.pointer (some ⟨q, 0, none⟩), .slice (some ⟨w.heap.size, 0, none⟩) 1 1] t (Says q v (Y 0) t) from fun t ht => by
    subst ht
    rw [y0]
    exact say_any [(l.length : Int)] _ 1 _ _ (h.alloc (.cells #[.int .i64 l.length] 3)) (es_new [(l.length : Int)] #[.int .i64 l.length] rfl) y1)
  have HF := Lib.hid ((Wf.refl q v w).alloc hq (.cells #[.int .i64 l.length] 3))
  have HE := Lib.hid he
  have HH := Lib.hid H
  have HY := Lib.hid ys
  obtain ⟨n, hnn⟩ : ∃ n, l.length = n := ⟨_, rfl⟩
  rw [hnn] at HL HS HF hl ⊢
  clear he H h hn y0 yn y1 ys hnn
  go_enter Tryz.func102, Tryz.ntmps102
  go_wp2_with fail
  with_reducible refine (HS.out _ rfl).mono ?_
  rintro e w1 ⟨rfl, v1, hw1, hf1⟩
  have HW1 := Lib.hid hw1
  have HF1 := Lib.hid (HF.out.trans hf1)
  clear hw1 hf1 HS HF
  go_wp2_with fail
  go_loopw [15] (fun i wr => ∃ j : Nat, j ≤ n ∧ i = .int .i64 j ∧ ∃ v', Wr wr q (Y j) v' ∧ Wf q v w v' wr) (fun i _ => n - (intOf i).toNat)
  case atStart => exact ⟨0, Nat.zero_le _, rfl, v1, HW1.out, HF1.out⟩
  case round =>
    obtain ⟨j, hk, rfl, v2, hw2, hf2⟩ := hrel
    have HW2 := Lib.hid hw2
    have HF2 := Lib.hid hf2
    clear hw2 hf2 HW1 HF1
    by_cases hlt : j < n
    · obtain ⟨u, hu⟩ := HL.out j hlt
      obtain ⟨b, off, rfl, hbB, hat⟩ := HE.out.at hu
      have hc := atC (show AtE EC wr b (off + j * 4) u from hat.below HF2.out.b hbB)
      obtain ⟨c0, c1, c2, c3⟩ := hc
      have hs2 := HF2.out.size
      have hbw : b < wr.heap.size := by omega
      have hu' := List.mem_of_getElem? hu
      have HT := Lib.hid (HW2.out.alloc (.cells #[.int .u8 u.r, .int .u8 u.g, .int .u8 u.b, .int .u8 u.a] 23))
      have HFT := Lib.hid (HF2.out.alloc hq (.cells #[.int .u8 u.r, .int .u8 u.g, .int .u8 u.b, .int .u8 u.a] 23))
      have hy := HY.out j u hu
      have HU := Lib.hid (show ∀ t, t = wr.alloc (.cells #[.int .u8 u.r, .int .u8 u.g, .int .u8 u.b, .int .u8 u.a] 23) → Calls Tryz.prog 62 #[.pointer (some ⟨q, 0, none⟩), .agg #[.int .u8 u.r, .int .u8 u.g, .int .u8 u.b, .int .u8 u.a]] t (Says q v2 (Y (j + 1)) t) from fun t ht => by
        subst ht
        rw [hy.1]
        exact HH.out u hu' _ v2 _ HFT.out.b HT.out hy.2)
      clear hat hu' hu hy
      go_wp2_with fail
      with_reducible refine (HU.out _ rfl).mono ?_
      rintro e w3 ⟨rfl, v3, hw3, hf3⟩
      have HW3 := Lib.hid hw3
      have HF3 := Lib.hid (HFT.out.trans hf3)
      clear hw3 hf3 HU HT HFT
      go_wp2_with fail
      go_roundw
      case rel => exact ⟨j + 1, by omega, by go_num, v3, HW3.out, HF3.out⟩
      case measure => simp [intOf]; omega
    · obtain rfl : j = n := by omega
      go_wp2_with fail
      go_end0
      exact ⟨rfl, v2, HW2.out, HF2.out⟩

set_option maxRecDepth 100000 in
set_option maxHeartbeats 2000000 in
theorem sayI_any {q : Nat} {v : Value} {xs : List Int} (l : List (C.In)) (A : Option Addr) (c : Nat) (w : World) (h : Wr w q xs v) (he : Es C.EI w q A l) (hl : l.length ≤ 100000) (hn : xs.length + (nAll nI l).length ≤ 100000000)
    (H : ∀ u ∈ l, ∀ (W : World) (v' : Value) (ys : List Int), Below q w W → Wr W q ys v' → ys.length + (nI u).length ≤ 100000000 → Calls Tryz.prog 104 #[.pointer (some ⟨q, 0, none⟩), .agg #[.int .u8 u.o, .int .u8 u.d, .int .u8 u.a, .int .u8 u.b, .int .i64 u.n]] W (Says q v' (ys ++ nI u) W)) :
    Calls Tryz.prog 103 #[.pointer (some ⟨q, 0, none⟩), .slice A l.length c, .func (.func 104) #[.pointer (some ⟨q, 0, none⟩)] #[]] w (Says q v (xs ++ nAll nI l) w) := by
  have hq := h.lt
  obtain ⟨Y, y0, yn, ys, y1⟩ := said_steps xs nI l hn
  rw [← yn]
  have HL := Lib.hid (fun (k : Nat) (h : k < l.length) => get_lt h)
  have HS := Lib.hid (show ∀ t, t = w.alloc (.cells #[.int .i64 l.length] 3) → Calls Tryz.prog 61 #[.pointer (some ⟨q, 0, none⟩), .slice (some ⟨w.heap.size, 0, none⟩) 1 1] t (Says q v (Y 0) t) from fun t ht => by
    subst ht
    rw [y0]
    exact say_any [(l.length : Int)] _ 1 _ _ (h.alloc (.cells #[.int .i64 l.length] 3)) (es_new [(l.length : Int)] #[.int .i64 l.length] rfl) y1)
  have HF := Lib.hid ((Wf.refl q v w).alloc hq (.cells #[.int .i64 l.length] 3))
  have HE := Lib.hid he
  have HH := Lib.hid H
  have HY := Lib.hid ys
  obtain ⟨n, hnn⟩ : ∃ n, l.length = n := ⟨_, rfl⟩
  rw [hnn] at HL HS HF hl ⊢
  clear he H h hn y0 yn y1 ys hnn
  go_enter Tryz.func103, Tryz.ntmps103
  go_wp2_with fail
  with_reducible refine (HS.out _ rfl).mono ?_
  rintro e w1 ⟨rfl, v1, hw1, hf1⟩
  have HW1 := Lib.hid hw1
  have HF1 := Lib.hid (HF.out.trans hf1)
  clear hw1 hf1 HS HF
  go_wp2_with fail
  go_loopw [15] (fun i wr => ∃ j : Nat, j ≤ n ∧ i = .int .i64 j ∧ ∃ v', Wr wr q (Y j) v' ∧ Wf q v w v' wr) (fun i _ => n - (intOf i).toNat)
  case atStart => exact ⟨0, Nat.zero_le _, rfl, v1, HW1.out, HF1.out⟩
  case round =>
    obtain ⟨j, hk, rfl, v2, hw2, hf2⟩ := hrel
    have HW2 := Lib.hid hw2
    have HF2 := Lib.hid hf2
    clear hw2 hf2 HW1 HF1
    by_cases hlt : j < n
    · obtain ⟨u, hu⟩ := HL.out j hlt
      obtain ⟨b, off, rfl, hbB, hat⟩ := HE.out.at hu
      have hc := C.atI (show AtE C.EI wr b (off + j * 5) u from hat.below HF2.out.b hbB)
      obtain ⟨c0, c1, c2, c3, c4⟩ := hc
      have hs2 := HF2.out.size
      have hbw : b < wr.heap.size := by omega
      have hu' := List.mem_of_getElem? hu
      have HT := Lib.hid (HW2.out.alloc (.cells #[.int .u8 u.o, .int .u8 u.d, .int .u8 u.a, .int .u8 u.b, .int .i64 u.n] 76))
      have HFT := Lib.hid (HF2.out.alloc hq (.cells #[.int .u8 u.o, .int .u8 u.d, .int .u8 u.a, .int .u8 u.b, .int .i64 u.n] 76))
      have hy := HY.out j u hu
      have HU := Lib.hid (show ∀ t, t = wr.alloc (.cells #[.int .u8 u.o, .int .u8 u.d, .int .u8 u.a, .int .u8 u.b, .int .i64 u.n] 76) → Calls Tryz.prog 104 #[.pointer (some ⟨q, 0, none⟩), .agg #[.int .u8 u.o, .int .u8 u.d, .int .u8 u.a, .int .u8 u.b, .int .i64 u.n]] t (Says q v2 (Y (j + 1)) t) from fun t ht => by
        subst ht
        rw [hy.1]
        exact HH.out u hu' _ v2 _ HFT.out.b HT.out hy.2)
      clear hat hu' hu hy
      go_wp2_with fail
      with_reducible refine (HU.out _ rfl).mono ?_
      rintro e w3 ⟨rfl, v3, hw3, hf3⟩
      have HW3 := Lib.hid hw3
      have HF3 := Lib.hid (HFT.out.trans hf3)
      clear hw3 hf3 HU HT HFT
      go_wp2_with fail
      go_roundw
      case rel => exact ⟨j + 1, by omega, by go_num, v3, HW3.out, HF3.out⟩
      case measure => simp [intOf]; omega
    · obtain rfl : j = n := by omega
      go_wp2_with fail
      go_end0
      exact ⟨rfl, v2, HW2.out, HF2.out⟩

set_option maxRecDepth 100000 in
set_option maxHeartbeats 2000000 in
theorem sayR_any {q : Nat} {v : Value} {xs : List Int} (l : List (Tr)) (A : Option Addr) (c : Nat) (w : World) (h : Wr w q xs v) (he : Es ER w q A l) (hl : l.length ≤ 100000) (hn : xs.length + (nAll nR l).length ≤ 100000000)
    (H : ∀ u ∈ l, ∀ (W : World) (v' : Value) (ys : List Int), Below q w W → Wr W q ys v' → ys.length + (nR u).length ≤ 100000000 → Calls Tryz.prog 107 #[.pointer (some ⟨q, 0, none⟩), .agg #[.int .i64 u.i, .int .i64 u.a, .int .i64 u.b, .int .i64 u.c]] W (Says q v' (ys ++ nR u) W)) :
    Calls Tryz.prog 106 #[.pointer (some ⟨q, 0, none⟩), .slice A l.length c, .func (.func 107) #[.pointer (some ⟨q, 0, none⟩)] #[]] w (Says q v (xs ++ nAll nR l) w) := by
  have hq := h.lt
  obtain ⟨Y, y0, yn, ys, y1⟩ := said_steps xs nR l hn
  rw [← yn]
  have HL := Lib.hid (fun (k : Nat) (h : k < l.length) => get_lt h)
  have HS := Lib.hid (show ∀ t, t = w.alloc (.cells #[.int .i64 l.length] 3) → Calls Tryz.prog 61 #[.pointer (some ⟨q, 0, none⟩), .slice (some ⟨w.heap.size, 0, none⟩) 1 1] t (Says q v (Y 0) t) from fun t ht => by
    subst ht
    rw [y0]
    exact say_any [(l.length : Int)] _ 1 _ _ (h.alloc (.cells #[.int .i64 l.length] 3)) (es_new [(l.length : Int)] #[.int .i64 l.length] rfl) y1)
  have HF := Lib.hid ((Wf.refl q v w).alloc hq (.cells #[.int .i64 l.length] 3))
  have HE := Lib.hid he
  have HH := Lib.hid H
  have HY := Lib.hid ys
  obtain ⟨n, hnn⟩ : ∃ n, l.length = n := ⟨_, rfl⟩
  rw [hnn] at HL HS HF hl ⊢
  clear he H h hn y0 yn y1 ys hnn
  go_enter Tryz.func106, Tryz.ntmps106
  go_wp2_with fail
  with_reducible refine (HS.out _ rfl).mono ?_
  rintro e w1 ⟨rfl, v1, hw1, hf1⟩
  have HW1 := Lib.hid hw1
  have HF1 := Lib.hid (HF.out.trans hf1)
  clear hw1 hf1 HS HF
  go_wp2_with fail
  go_loopw [15] (fun i wr => ∃ j : Nat, j ≤ n ∧ i = .int .i64 j ∧ ∃ v', Wr wr q (Y j) v' ∧ Wf q v w v' wr) (fun i _ => n - (intOf i).toNat)
  case atStart => exact ⟨0, Nat.zero_le _, rfl, v1, HW1.out, HF1.out⟩
  case round =>
    obtain ⟨j, hk, rfl, v2, hw2, hf2⟩ := hrel
    have HW2 := Lib.hid hw2
    have HF2 := Lib.hid hf2
    clear hw2 hf2 HW1 HF1
    by_cases hlt : j < n
    · obtain ⟨u, hu⟩ := HL.out j hlt
      obtain ⟨b, off, rfl, hbB, hat⟩ := HE.out.at hu
      have hc := atR (show AtE ER wr b (off + j * 4) u from hat.below HF2.out.b hbB)
      obtain ⟨c0, c1, c2, c3⟩ := hc
      have hs2 := HF2.out.size
      have hbw : b < wr.heap.size := by omega
      have hu' := List.mem_of_getElem? hu
      have HT := Lib.hid (HW2.out.alloc (.cells #[.int .i64 u.i, .int .i64 u.a, .int .i64 u.b, .int .i64 u.c] 86))
      have HFT := Lib.hid (HF2.out.alloc hq (.cells #[.int .i64 u.i, .int .i64 u.a, .int .i64 u.b, .int .i64 u.c] 86))
      have hy := HY.out j u hu
      have HU := Lib.hid (show ∀ t, t = wr.alloc (.cells #[.int .i64 u.i, .int .i64 u.a, .int .i64 u.b, .int .i64 u.c] 86) → Calls Tryz.prog 107 #[.pointer (some ⟨q, 0, none⟩), .agg #[.int .i64 u.i, .int .i64 u.a, .int .i64 u.b, .int .i64 u.c]] t (Says q v2 (Y (j + 1)) t) from fun t ht => by
        subst ht
        rw [hy.1]
        exact HH.out u hu' _ v2 _ HFT.out.b HT.out hy.2)
      clear hat hu' hu hy
      go_wp2_with fail
      with_reducible refine (HU.out _ rfl).mono ?_
      rintro e w3 ⟨rfl, v3, hw3, hf3⟩
      have HW3 := Lib.hid hw3
      have HF3 := Lib.hid (HFT.out.trans hf3)
      clear hw3 hf3 HU HT HFT
      go_wp2_with fail
      go_roundw
      case rel => exact ⟨j + 1, by omega, by go_num, v3, HW3.out, HF3.out⟩
      case measure => simp [intOf]; omega
    · obtain rfl : j = n := by omega
      go_wp2_with fail
      go_end0
      exact ⟨rfl, v2, HW2.out, HF2.out⟩
end Go.Proofs.YtfmmfaeognoleaaGreat
/-
  What a writer says of a picture, a program, a draw, a scene; and codec.Bytes.
-/
namespace Go.Proofs.YtfmmfaeognoleaaGreat
open Go.RowKit
attribute [local go_sem ↓] Go.wp_at_zero Go.wp_at_succ

theorem wf_below {q : Nat} {v v' : Value} {w w' : World} {α : Type} {E : Elem α} {A : Option Addr} {xs : List α} (h : Wf q v w v' w') (he : Es E w q A xs) : Es E w' q A xs := he.below h.b
theorem bel_es {q : Nat} {w w' : World} {α : Type} {E : Elem α} {A : Option Addr} {xs : List α} (h : Below q w w') (he : Es E w q A xs) : Es E w' q A xs := he.below h

set_option maxRecDepth 100000 in
set_option maxHeartbeats 1000000 in
theorem wtex_any {q : Nat} {v : Value} {xs : List Int} (u : Lo Tx) (hu : u.x.ok) (hl : u.x.px.length ≤ 100000) (w : World) (h : Wr w q xs v) (he : Es EC w q u.A u.x.px) (hn : xs.length + (nT u.x).length ≤ 100000000) :
    Calls Tryz.prog 66 #[.pointer (some ⟨q, 0, none⟩), .agg #[.int .i64 u.x.w, .int .i64 u.x.h, .slice u.A u.x.px.length u.c]] w (Says q v (xs ++ nT u.x) w) := by
  have hq := h.lt
  have hnw := h.new
  have hmf := mk_func
  have hn2 : xs.length + ((nAll nC u.x.px).length + 2) ≤ 100000000 := hn
  have HS := Lib.hid (fun t (ht : t = (w.alloc (.cells #[.int .i64 u.x.w, .int .i64 u.x.h, .slice u.A u.x.px.length u.c] 47)).alloc (.cells #[.int .i64 u.x.w, .int .i64 u.x.h] 3)) => show Calls Tryz.prog 61 #[.pointer (some ⟨q, 0, none⟩), .slice (some ⟨w.heap.size + 1, 0, none⟩) 2 2] t (Says q v (xs ++ [u.x.w, u.x.h]) t) from by
    subst ht
    have hw := (h.alloc (.cells #[.int .i64 u.x.w, .int .i64 u.x.h, .slice u.A u.x.px.length u.c] 47)).alloc (.cells #[.int .i64 u.x.w, .int .i64 u.x.h] 3)
    have he := es_new (w := w.alloc (.cells #[.int .i64 u.x.w, .int .i64 u.x.h, .slice u.A u.x.px.length u.c] 47)) [u.x.w, u.x.h] #[.int .i64 u.x.w, .int .i64 u.x.h] rfl
    simp only [World.size_alloc] at he
    exact say_any [u.x.w, u.x.h] _ 2 _ _ hw he (by show xs.length + 2 ≤ _; omega))
  have HF := Lib.hid (((Wf.refl q v w).alloc hq (.cells #[.int .i64 u.x.w, .int .i64 u.x.h, .slice u.A u.x.px.length u.c] 47)).alloc hq (.cells #[.int .i64 u.x.w, .int .i64 u.x.h] 3))
  have HG := Lib.hid (show ((w.alloc (.cells #[.int .i64 u.x.w, .int .i64 u.x.h, .slice u.A u.x.px.length u.c] 47)).alloc (.cells #[.int .i64 u.x.w, .int .i64 u.x.h] 3)).heap[w.heap.size]? = some (.cells #[.int .i64 u.x.w, .int .i64 u.x.h, .slice u.A u.x.px.length u.c] 47 (0, 0)) from (heap_alloc_old _ _ (by simp)).trans (heap_alloc_new _ _))
  have HN := Lib.hid (And.intro hn2 (And.intro hu (And.intro hl he)))
  clear h hn hn2 hu hl he
  go_enter Tryz.func66, Tryz.ntmps66
  go_wp2_with fail
  with_reducible refine (HS.out _ rfl).mono ?_
  rintro e w1 ⟨rfl, v1, hw1, hf1⟩
  have hg := hf1.other HG.out (by omega) hnw
  have hc2 : w1.cell? ⟨w.heap.size, 2, none⟩ = some (.slice u.A u.x.px.length u.c) := Joins.cell_of_block hg 2
  have HF1 := Lib.hid (HF.out.trans hf1)
  have H2 := Lib.hid (show Calls Tryz.prog 102 #[.pointer (some ⟨q, 0, none⟩), .slice u.A u.x.px.length u.c, .func (.func 62) #[.pointer (some ⟨q, 0, none⟩)] #[]] w1 (Says q v1 (xs ++ nT u.x) w1) from by
    have := sayC_any u.x.px u.A u.c w1 hw1 (wf_below HF1.out HN.out.2.2.2) HN.out.2.2.1 (by have := HN.out.1; rw [List.length_append]; show xs.length + 2 + _ ≤ _; omega) fun c hc W v' ys _ hW hN => wcol_any c (HN.out.2.1 c hc) W hW hN
    rw [List.append_assoc] at this
    exact this)
  clear hg hw1 hf1 HS HG HF
  go_wp2_with fail
  with_reducible refine (H2.out).mono ?_
  rintro e w2 ⟨rfl, v2, hw2, hf2⟩
  go_wp2
  go_end0
  exact ⟨rfl, v2, hw2, HF1.out.trans hf2⟩
set_option maxRecDepth 100000 in
set_option maxHeartbeats 1000000 in
theorem wprog_any {q : Nat} {v : Value} {xs : List Int} (u : Lo (List C.In)) (hu : ∀ x ∈ u.x, x.ok) (hl : u.x.length ≤ 100000) (w : World) (h : Wr w q xs v) (he : Es C.EI w q u.A u.x) (hn : xs.length + (nP u.x).length ≤ 100000000) :
    Calls Tryz.prog 68 #[.pointer (some ⟨q, 0, none⟩), .slice u.A u.x.length u.c] w (Says q v (xs ++ nP u.x) w) := by
  have hmf := mk_func
  have H2 := Lib.hid (show Calls Tryz.prog 103 #[.pointer (some ⟨q, 0, none⟩), .slice u.A u.x.length u.c, .func (.func 104) #[.pointer (some ⟨q, 0, none⟩)] #[]] w (Says q v (xs ++ nP u.x) w) from
    sayI_any u.x u.A u.c w h he hl hn fun c hc W v' ys _ hW hN => wins_any c (hu c hc) W hW hN)
  clear h he hn
  go_enter Tryz.func68, Tryz.ntmps68
  go_wp2_with fail
  with_reducible refine (H2.out).mono ?_
  rintro e w2 ⟨rfl, v2, hw2, hf2⟩
  go_wp2
  go_end0
  exact ⟨rfl, v2, hw2, hf2⟩
set_option maxRecDepth 100000 in
set_option maxHeartbeats 1000000 in
theorem wdraw_any {q : Nat} {v : Value} {xs : List Int} (u : Lo Dr) (hl : u.x.tris.length ≤ 100000) (w : World) (h : Wr w q xs v) (he : Es ER w q u.A u.x.tris) (hn : xs.length + (nD u.x).length ≤ 100000000) :
    Calls Tryz.prog 70 #[.pointer (some ⟨q, 0, none⟩), .agg #[.int .i64 u.x.id, .int .i64 u.x.prog, .int .i64 u.x.tex, .bool u.x.op, .slice u.A u.x.tris.length u.c]] w (Says q v (xs ++ nD u.x) w) := by
  have hq := h.lt
  have hnw := h.new
  have hmf := mk_func
  have hn2 : xs.length + ((nAll nR u.x.tris).length + 4) ≤ 100000000 := hn
  have HS := Lib.hid (fun t (ht : t = (w.alloc (.cells #[.int .i64 u.x.id, .int .i64 u.x.prog, .int .i64 u.x.tex, .bool u.x.op, .slice u.A u.x.tris.length u.c] 51)).alloc (.cells #[.int .i64 u.x.id, .int .i64 u.x.prog, .int .i64 u.x.tex] 3)) => show Calls Tryz.prog 61 #[.pointer (some ⟨q, 0, none⟩), .slice (some ⟨w.heap.size + 1, 0, none⟩) 3 3] t (Says q v (xs ++ [u.x.id, u.x.prog, u.x.tex]) t) from by
    subst ht
    have hw := (h.alloc (.cells #[.int .i64 u.x.id, .int .i64 u.x.prog, .int .i64 u.x.tex, .bool u.x.op, .slice u.A u.x.tris.length u.c] 51)).alloc (.cells #[.int .i64 u.x.id, .int .i64 u.x.prog, .int .i64 u.x.tex] 3)
    have he := es_new (w := w.alloc (.cells #[.int .i64 u.x.id, .int .i64 u.x.prog, .int .i64 u.x.tex, .bool u.x.op, .slice u.A u.x.tris.length u.c] 51)) [u.x.id, u.x.prog, u.x.tex] #[.int .i64 u.x.id, .int .i64 u.x.prog, .int .i64 u.x.tex] rfl
    simp only [World.size_alloc] at he
    exact say_any [u.x.id, u.x.prog, u.x.tex] _ 3 _ _ hw he (by show xs.length + 3 ≤ _; omega))
  have HF := Lib.hid (((Wf.refl q v w).alloc hq (.cells #[.int .i64 u.x.id, .int .i64 u.x.prog, .int .i64 u.x.tex, .bool u.x.op, .slice u.A u.x.tris.length u.c] 51)).alloc hq (.cells #[.int .i64 u.x.id, .int .i64 u.x.prog, .int .i64 u.x.tex] 3))
  have HG := Lib.hid (show ((w.alloc (.cells #[.int .i64 u.x.id, .int .i64 u.x.prog, .int .i64 u.x.tex, .bool u.x.op, .slice u.A u.x.tris.length u.c] 51)).alloc (.cells #[.int .i64 u.x.id, .int .i64 u.x.prog, .int .i64 u.x.tex] 3)).heap[w.heap.size]? = some (.cells #[.int .i64 u.x.id, .int .i64 u.x.prog, .int .i64 u.x.tex, .bool u.x.op, .slice u.A u.x.tris.length u.c] 51 (0, 0)) from (heap_alloc_old _ _ (by simp)).trans (heap_alloc_new _ _))
  have HN := Lib.hid (And.intro hn2 (And.intro hl he))
  clear h hn hn2 hl he
  go_enter Tryz.func70, Tryz.ntmps70
  go_wp2_with fail
  with_reducible refine (HS.out _ rfl).mono ?_
  rintro e w1 ⟨rfl, v1, hw1, hf1⟩
  have hg := hf1.other HG.out (by omega) hnw
  have hg2 := hf1.not (g := w.heap.size) (by simp; omega) hnw
  have hc3 : w1.cell? ⟨w.heap.size, 3, none⟩ = some (.bool u.x.op) := Joins.cell_of_block hg 3
  have HF1 := Lib.hid (HF.out.trans hf1)
  have H2 := Lib.hid (wsign_any u.x.op w1 hw1 (by have := HN.out.1; simp; omega))
  have HG1 := Lib.hid hg
  clear hg hw1 hf1 HS HG HF
  go_wp2_with fail
  with_reducible refine (H2.out).mono ?_
  rintro e w2 ⟨rfl, v2, hw2, hf2⟩
  have hg := hf2.other HG1.out (by omega) hg2
  have hc4 : w2.cell? ⟨w.heap.size, 4, none⟩ = some (.slice u.A u.x.tris.length u.c) := Joins.cell_of_block hg 4
  have HF2 := Lib.hid (HF1.out.trans hf2)
  have H3 := Lib.hid (show Calls Tryz.prog 106 #[.pointer (some ⟨q, 0, none⟩), .slice u.A u.x.tris.length u.c, .func (.func 107) #[.pointer (some ⟨q, 0, none⟩)] #[]] w2 (Says q v2 (xs ++ nD u.x) w2) from by
    have := sayR_any u.x.tris u.A u.c w2 hw2 (wf_below HF2.out HN.out.2.2) HN.out.2.1 (by have := HN.out.1; simp only [List.length_append, List.length_cons, List.length_nil]; omega) fun c _ W v' ys _ hW hN => wtri_any c W hW hN
    rw [List.append_assoc, List.append_assoc] at this
    exact this)
  clear hg hw2 hf2 H2 HG1 HF1
  go_wp2_with fail
  with_reducible refine (H3.out).mono ?_
  rintro e w3 ⟨rfl, v3, hw3, hf3⟩
  go_wp2
  go_end0
  exact ⟨rfl, v3, hw3, HF2.out.trans hf3⟩
theorem nS_map (s : Sc) : nS s.p = s.w :: s.h :: (nC s.k ++ (nAll nV s.vs ++ (nAll (fun u : Lo Tx => nT u.x) s.ts ++ (nAll (fun u : Lo (List C.In) => nP u.x) s.ps ++ nAll (fun u : Lo Dr => nD u.x) s.ds)))) := by
  rw [nAll_map Lo.x nT, nAll_map Lo.x nP, nAll_map Lo.x nD]
  rfl
set_option maxRecDepth 100000 in
set_option maxHeartbeats 2000000 in
theorem wscene_any {q : Nat} {v : Value} {xs : List Int} (s : Sc) (hok : s.ok) (hf : s.few) (w : World) (h : Wr w q xs v) (ha : s.at w q) (hn : xs.length + (nS s.p).length ≤ 100000000) :
    Calls Tryz.prog 25 #[.pointer (some ⟨q, 0, none⟩), .agg #[.int .i64 s.w, .int .i64 s.h, .int .u8 s.k.r, .int .u8 s.k.g, .int .u8 s.k.b, .int .u8 s.k.a, .slice s.vA s.vs.length s.vc, .slice s.tA s.ts.length s.tc, .slice s.pA s.ps.length s.pc, .slice s.dA s.ds.length s.dc]] w (Says q v (xs ++ nS s.p) w) := by
  have hq := h.lt
  have hnw := h.new
  have hmf := mk_func
  rw [nS_map] at hn ⊢
  obtain ⟨N1, e1⟩ : ∃ N, nAll nV s.vs = N := ⟨_, rfl⟩
  obtain ⟨N2, e2⟩ : ∃ N, nAll (fun u : Lo Tx => nT u.x) s.ts = N := ⟨_, rfl⟩
  obtain ⟨N3, e3⟩ : ∃ N, nAll (fun u : Lo (List C.In) => nP u.x) s.ps = N := ⟨_, rfl⟩
  obtain ⟨N4, e4⟩ : ∃ N, nAll (fun u : Lo Dr => nD u.x) s.ds = N := ⟨_, rfl⟩
  rw [e1, e2, e3, e4] at hn ⊢
  have hn2 : xs.length + (2 + (4 + (N1.length + (N2.length + (N3.length + N4.length))))) ≤ 100000000 := by
    simp only [List.length_append, List.length_cons, nC, List.length_nil] at hn
    omega
  have HS := Lib.hid (fun t (ht : t = (w.alloc (.cells #[.int .i64 s.w, .int .i64 s.h, .int .u8 s.k.r, .int .u8 s.k.g, .int .u8 s.k.b, .int .u8 s.k.a, .slice s.vA s.vs.length s.vc, .slice s.tA s.ts.length s.tc, .slice s.pA s.ps.length s.pc, .slice s.dA s.ds.length s.dc] 29)).alloc (.cells #[.int .i64 s.w, .int .i64 s.h] 3)) => show Calls Tryz.prog 61 #[.pointer (some ⟨q, 0, none⟩), .slice (some ⟨w.heap.size + 1, 0, none⟩) 2 2] t (Says q v (xs ++ [s.w, s.h]) t) from by
    subst ht
    have hw := (h.alloc (.cells #[.int .i64 s.w, .int .i64 s.h, .int .u8 s.k.r, .int .u8 s.k.g, .int .u8 s.k.b, .int .u8 s.k.a, .slice s.vA s.vs.length s.vc, .slice s.tA s.ts.length s.tc, .slice s.pA s.ps.length s.pc, .slice s.dA s.ds.length s.dc] 29)).alloc (.cells #[.int .i64 s.w, .int .i64 s.h] 3)
    have he := es_new (w := w.alloc (.cells #[.int .i64 s.w, .int .i64 s.h, .int .u8 s.k.r, .int .u8 s.k.g, .int .u8 s.k.b, .int .u8 s.k.a, .slice s.vA s.vs.length s.vc, .slice s.tA s.ts.length s.tc, .slice s.pA s.ps.length s.pc, .slice s.dA s.ds.length s.dc] 29)) [s.w, s.h] #[.int .i64 s.w, .int .i64 s.h] rfl
    simp only [World.size_alloc] at he
    exact say_any [s.w, s.h] _ 2 _ _ hw he (by show xs.length + 2 ≤ _; omega))
  have HF := Lib.hid (((Wf.refl q v w).alloc hq (.cells #[.int .i64 s.w, .int .i64 s.h, .int .u8 s.k.r, .int .u8 s.k.g, .int .u8 s.k.b, .int .u8 s.k.a, .slice s.vA s.vs.length s.vc, .slice s.tA s.ts.length s.tc, .slice s.pA s.ps.length s.pc, .slice s.dA s.ds.length s.dc] 29)).alloc hq (.cells #[.int .i64 s.w, .int .i64 s.h] 3))
  have HG := Lib.hid (show ((w.alloc (.cells #[.int .i64 s.w, .int .i64 s.h, .int .u8 s.k.r, .int .u8 s.k.g, .int .u8 s.k.b, .int .u8 s.k.a, .slice s.vA s.vs.length s.vc, .slice s.tA s.ts.length s.tc, .slice s.pA s.ps.length s.pc, .slice s.dA s.ds.length s.dc] 29)).alloc (.cells #[.int .i64 s.w, .int .i64 s.h] 3)).heap[w.heap.size]? = some (scB s) from (heap_alloc_old _ _ (by simp)).trans (heap_alloc_new _ _))
  have HSz := Lib.hid (show w.heap.size < ((w.alloc (.cells #[.int .i64 s.w, .int .i64 s.h, .int .u8 s.k.r, .int .u8 s.k.g, .int .u8 s.k.b, .int .u8 s.k.a, .slice s.vA s.vs.length s.vc, .slice s.tA s.ts.length s.tc, .slice s.pA s.ps.length s.pc, .slice s.dA s.ds.length s.dc] 29)).alloc (.cells #[.int .i64 s.w, .int .i64 s.h] 3)).heap.size by simp; omega)
  have HN := Lib.hid hn2
  have HA := Lib.hid ha
  have HK := Lib.hid hok
  have HW := Lib.hid hf
  clear h hn hn2 ha hok hf
  go_enter Tryz.func25, Tryz.ntmps25
  go_wp2_with fail
  with_reducible refine (HS.out _ rfl).mono ?_
  rintro e w1 ⟨rfl, v1, hw1, hf1⟩
  have hg := hf1.other HG.out (by omega) hnw
  have hg2 := hf1.not HSz.out hnw
  obtain ⟨-, -, c2, c3, c4, c5, -⟩ := scB_cell hg
  have HF1 := Lib.hid (HF.out.trans hf1)
  have HG1 := Lib.hid (And.intro hg hg2)
  have H2 := Lib.hid (wcol_any s.k HK.out.k w1 hw1 (by have := HN.out; simp only [List.length_append, List.length_cons, List.length_nil]; omega))
  clear hg hg2 hw1 hf1 HS HG HF HSz
  go_wp2_with fail
  with_reducible refine (H2.out).mono ?_
  rintro e w2 ⟨rfl, v2, hw2, hf2⟩
  have hg := hf2.other HG1.out.1 (by omega) HG1.out.2
  have hg2 := hf2.not (scB_lt HG1.out.1) HG1.out.2
  obtain ⟨-, -, -, -, -, -, c6, -⟩ := scB_cell hg
  have HF2 := Lib.hid (HF1.out.trans hf2)
  have HG2 := Lib.hid (And.intro hg hg2)
  have H3 := Lib.hid (show Calls Tryz.prog 63 #[.pointer (some ⟨q, 0, none⟩), .slice s.vA s.vs.length s.vc, .func (.func 64) #[.pointer (some ⟨q, 0, none⟩)] #[]] w2 (Says q v2 (xs ++ [s.w, s.h] ++ nC s.k ++ N1) w2) from by
    rw [← e1]
    exact sayV_any s.vs s.vA s.vc w2 hw2 (wf_below HF2.out HA.out.v) HW.out.vs (by have := HN.out; rw [e1]; simp only [nC, List.length_append, List.length_cons, List.length_nil]; omega) fun c _ W v' ys _ hW hN => wvec_any c W hW hN)
  clear hg hg2 hw2 hf2 H2 HG1 HF1 c2 c3 c4 c5
  go_wp2_with fail
  with_reducible refine (H3.out).mono ?_
  rintro e w3 ⟨rfl, v3, hw3, hf3⟩
  have hg := hf3.other HG2.out.1 (by omega) HG2.out.2
  have hg2 := hf3.not (scB_lt HG2.out.1) HG2.out.2
  obtain ⟨-, -, -, -, -, -, -, c7, -⟩ := scB_cell hg
  have HF3 := Lib.hid (HF2.out.trans hf3)
  have HG3 := Lib.hid (And.intro hg hg2)
  have H4 := Lib.hid (show Calls Tryz.prog 65 #[.pointer (some ⟨q, 0, none⟩), .slice s.tA s.ts.length s.tc, .func (.func 66) #[.pointer (some ⟨q, 0, none⟩)] #[]] w3 (Says q v3 (xs ++ [s.w, s.h] ++ nC s.k ++ N1 ++ N2) w3) from by
    rw [← e2]
    exact sayT_any s.ts s.tA s.tc w3 hw3 (wf_below HF3.out HA.out.t) HW.out.ts (by have := HN.out; rw [e2]; simp only [nC, List.length_append, List.length_cons, List.length_nil]; omega) fun c hc W v' ys hb hW hN => wtex_any c (HK.out.ts c hc).2.2.1 (HW.out.tx c hc) W hW (((HA.out.tx c hc).below HF3.out.b).below hb) hN)
  clear hg hg2 hw3 hf3 H3 HG2 HF2 c6
  go_wp2_with fail
  with_reducible refine (H4.out).mono ?_
  rintro e w4 ⟨rfl, v4, hw4, hf4⟩
  have hg := hf4.other HG3.out.1 (by omega) HG3.out.2
  have hg2 := hf4.not (scB_lt HG3.out.1) HG3.out.2
  obtain ⟨-, -, -, -, -, -, -, -, c8, -⟩ := scB_cell hg
  have HF4 := Lib.hid (HF3.out.trans hf4)
  have HG4 := Lib.hid (And.intro hg hg2)
  have H5 := Lib.hid (show Calls Tryz.prog 67 #[.pointer (some ⟨q, 0, none⟩), .slice s.pA s.ps.length s.pc, .func (.func 68) #[.pointer (some ⟨q, 0, none⟩)] #[]] w4 (Says q v4 (xs ++ [s.w, s.h] ++ nC s.k ++ N1 ++ N2 ++ N3) w4) from by
    rw [← e3]
    exact sayP_any s.ps s.pA s.pc w4 hw4 (wf_below HF4.out HA.out.p) HW.out.ps (by have := HN.out; rw [e3]; simp only [nC, List.length_append, List.length_cons, List.length_nil]; omega) fun c hc W v' ys hb hW hN => wprog_any c (HK.out.ps c hc).1 (HW.out.px c hc) W hW (((HA.out.px c hc).below HF4.out.b).below hb) hN)
  clear hg hg2 hw4 hf4 H4 HG3 HF3 c7
  go_wp2_with fail
  with_reducible refine (H5.out).mono ?_
  rintro e w5 ⟨rfl, v5, hw5, hf5⟩
  have hg := hf5.other HG4.out.1 (by omega) HG4.out.2
  obtain ⟨-, -, -, -, -, -, -, -, -, c9⟩ := scB_cell hg
  have HF5 := Lib.hid (HF4.out.trans hf5)
  have H6 := Lib.hid (show Calls Tryz.prog 69 #[.pointer (some ⟨q, 0, none⟩), .slice s.dA s.ds.length s.dc, .func (.func 70) #[.pointer (some ⟨q, 0, none⟩)] #[]] w5 (Says q v5 (xs ++ s.w :: s.h :: (nC s.k ++ (N1 ++ (N2 ++ (N3 ++ N4))))) w5) from by
    rw [← e4]
    have := sayD_any s.ds s.dA s.dc w5 hw5 (wf_below HF5.out HA.out.d) HW.out.ds (by have := HN.out; rw [e4]; simp only [nC, List.length_append, List.length_cons, List.length_nil]; omega) fun c hc W v' ys hb hW hN => wdraw_any c (HW.out.dx c hc) W hW (((HA.out.dx c hc).below HF5.out.b).below hb) hN
    simpa using this)
  clear hg hw5 hf5 H5 HG4 HF4 c8
  go_wp2_with fail
  with_reducible refine (H6.out).mono ?_
  rintro e w6 ⟨rfl, v6, hw6, hf6⟩
  go_wp2
  go_end0
  exact ⟨rfl, v6, hw6, HF5.out.trans hf6⟩
theorem sl_of_es {w : World} {B : Nat} {A : Option Addr} {xs : List Int} (h : Es EN w B A xs) : P.Sl .i64 w B A xs := fun hne => by
  obtain ⟨b, off, rfl, hb, hc⟩ := h hne
  refine ⟨b, off, rfl, hb, fun j hj => ?_⟩
  have h2 := hc j xs[j] (List.getElem?_eq_getElem hj) 0 _ rfl
  rw [show off + j * EN.size + 0 = off + j by rw [show EN.size = 1 from rfl]; omega] at h2
  rw [h2, List.getD_eq_getElem?_getD, List.getElem?_eq_getElem hj]
  rfl
theorem es_of_sl {w : World} {B : Nat} {A : Option Addr} {xs : List Int} (h : P.Sl .i64 w B A xs) : Es EN w B A xs := fun hne => by
  obtain ⟨b, off, rfl, hb, hc⟩ := h hne
  refine ⟨b, off, rfl, hb, fun j u hj i y hy => ?_⟩
  have hjl : j < xs.length := (List.getElem?_eq_some_iff.1 hj).1
  have hi : i = 0 := by
    rcases Nat.eq_zero_or_pos i with e | e
    · exact e
    · rw [List.getElem?_eq_none (by show 1 ≤ i; omega)] at hy; cases hy
  subst hi
  obtain rfl : Value.int .i64 u = y := by simpa [EN] using hy
  rw [show off + j * EN.size + 0 = off + j by rw [show EN.size = 1 from rfl]; omega, hc j hjl, List.getD_eq_getElem?_getD, hj]
  rfl
theorem wr_new (w : World) : Wr (w.alloc (.cells #[.slice none 0 0] 67)) w.heap.size [] (.slice none 0 0) := ⟨heap_alloc_new _ _, OwnE.nil _ _⟩
set_option maxRecDepth 100000 in
set_option maxHeartbeats 1000000 in
theorem bytes_any (s : Sc) (hok : s.ok) (hf : s.few) (w : World) (ha : s.at w w.heap.size) (hn : (nS s.p).length ≤ 100000000) :
    Calls Tryz.prog 13 #[.agg #[.int .i64 s.w, .int .i64 s.h, .int .u8 s.k.r, .int .u8 s.k.g, .int .u8 s.k.b, .int .u8 s.k.a, .slice s.vA s.vs.length s.vc, .slice s.tA s.ts.length s.tc, .slice s.pA s.ps.length s.pc, .slice s.dA s.ds.length s.dc]] w (P.Made 5 .u8 w.heap.size w (P.put (nS s.p))) := by
  have hi := ins_nS (ok_p hok) (few_p hf)
  have HG := Lib.hid (show ((w.alloc (.cells #[.int .i64 s.w, .int .i64 s.h, .int .u8 s.k.r, .int .u8 s.k.g, .int .u8 s.k.b, .int .u8 s.k.a, .slice s.vA s.vs.length s.vc, .slice s.tA s.ts.length s.tc, .slice s.pA s.ps.length s.pc, .slice s.dA s.ds.length s.dc] 29)).alloc (.cells #[.slice none 0 0] 67)).heap[w.heap.size]? = some (scB s) from (heap_alloc_old _ _ (by simp)).trans (heap_alloc_new _ _))
  have HB := Lib.hid (bstep (new_below w (.cells #[.int .i64 s.w, .int .i64 s.h, .int .u8 s.k.r, .int .u8 s.k.g, .int .u8 s.k.b, .int .u8 s.k.a, .slice s.vA s.vs.length s.vc, .slice s.tA s.ts.length s.tc, .slice s.pA s.ps.length s.pc, .slice s.dA s.ds.length s.dc] 29)) (by simp) (new_below (w.alloc (.cells #[.int .i64 s.w, .int .i64 s.h, .int .u8 s.k.r, .int .u8 s.k.g, .int .u8 s.k.b, .int .u8 s.k.a, .slice s.vA s.vs.length s.vc, .slice s.tA s.ts.length s.tc, .slice s.pA s.ps.length s.pc, .slice s.dA s.ds.length s.dc] 29)) (.cells #[.slice none 0 0] 67)))
  have H1 := Lib.hid (show ∀ t, t = (w.alloc (.cells #[.int .i64 s.w, .int .i64 s.h, .int .u8 s.k.r, .int .u8 s.k.g, .int .u8 s.k.b, .int .u8 s.k.a, .slice s.vA s.vs.length s.vc, .slice s.tA s.ts.length s.tc, .slice s.pA s.ps.length s.pc, .slice s.dA s.ds.length s.dc] 29)).alloc (.cells #[.slice none 0 0] 67) → Calls Tryz.prog 25 #[.pointer (some ⟨w.heap.size + 1, 0, none⟩), .agg #[.int .i64 s.w, .int .i64 s.h, .int .u8 s.k.r, .int .u8 s.k.g, .int .u8 s.k.b, .int .u8 s.k.a, .slice s.vA s.vs.length s.vc, .slice s.tA s.ts.length s.tc, .slice s.pA s.ps.length s.pc, .slice s.dA s.ds.length s.dc]] t (Says (w.heap.size + 1) (.slice none 0 0) (nS s.p) t) from fun t ht => by
    have hw := wr_new (w.alloc (.cells #[.int .i64 s.w, .int .i64 s.h, .int .u8 s.k.r, .int .u8 s.k.g, .int .u8 s.k.b, .int .u8 s.k.a, .slice s.vA s.vs.length s.vc, .slice s.tA s.ts.length s.tc, .slice s.pA s.ps.length s.pc, .slice s.dA s.ds.length s.dc] 29))
    simp only [World.size_alloc] at hw
    have := wscene_any s hok hf t (ht ▸ hw) ((ha.below (ht ▸ HB.out)).more (Nat.le_succ _)) (by simpa using hn)
    simpa using this)
  obtain ⟨c0, c1, c2, c3, c4, c5, c6, c7, c8, c9⟩ := scB_cell HG.out
  have HI := Lib.hid hi
  have HN := Lib.hid hn
  clear hok hf ha hi hn
  go_enter Tryz.func13, Tryz.ntmps13
  go_wp2_with fail
  with_reducible refine (H1.out _ rfl).mono ?_
  rintro e w1 ⟨rfl, v1, hw1, hf1⟩
  obtain ⟨A, c, rfl⟩ := hw1.own.form
  have hc := hw1.cell
  obtain ⟨-, -, hes⟩ := ownE_es hw1.own
  have HB1 := Lib.hid (HB.out.trans (hf1.b.mono (Nat.le_succ _)))
  have HP := Lib.hid (P.put_any A c (nS s.p) w1.heap.size w1 (sl_of_es hes) (Nat.le_refl _) HI.out HN.out)
  clear hw1 hf1 hes
  go_wp2_with fail
  with_reducible refine (HP.out).mono ?_
  rintro e w2 ⟨v2, rfl, ho, hb⟩
  go_wp2
  go_ret
  exact ⟨v2, rfl, ho.less HB1.out.size, bstep HB1.out HB1.out.size hb⟩
end Go.Proofs.YtfmmfaeognoleaaGreat
/-
  What a reader reads: a number, one up to another, a byte, a sign; a colour, a vertex, an instruction, a triangle.
-/
namespace Go.Proofs.YtfmmfaeognoleaaGreat
open Go.RowKit
attribute [local go_sem ↓] Go.wp_at_zero Go.wp_at_succ

theorem wrap_small {n : Int} (h0 : 0 ≤ n) (h1 : n ≤ 255) : IntKind.u8.wrap n = n := by rw [IntKind.wrap_u8]; omega
set_option maxRecDepth 100000 in
set_option maxHeartbeats 1000000 in
theorem number_any {p : Nat} {s : St} (w : World) (h : Rd w p s) :
    Calls Tryz.prog 92 #[.pointer (some ⟨p, 0, none⟩)] w fun e w' => e = .returned (.int .i64 (rNum s).1) ∧ Rd w' p (rNum s).2 ∧ But p w w' := by
  have hlt := h.lt
  obtain ⟨A, c, hb, hc, hE⟩ := h
  obtain ⟨c0, c1⟩ := rdB_cell hb
  have hf := rdB_free hb
  have hf0 := hf 0
  have hf1 := hf 1
  have HB := Lib.hid hb
  clear hb hf
  obtain ⟨l, bad⟩ := s
  cases l with
  | nil =>
    have c0' : w.cell? ⟨p, 0, none⟩ = some (.slice A 0 c) := c0
    have HR := Lib.hid (show Rd (w.setCell ⟨p, 1, none⟩ (.bool true)) p ⟨[], true⟩ from ⟨A, c, rdB_set1 HB.out, Nat.zero_le _, Es.none_⟩)
    show Calls Tryz.prog 92 #[.pointer (some ⟨p, 0, none⟩)] w fun e w' => e = .returned (.int .i64 0) ∧ Rd w' p ⟨[], true⟩ ∧ But p w w'
    clear c0 hc hE
    go_enter Tryz.func92, Tryz.ntmps92
    go_wp2
    go_ret
    exact ⟨rfl, HR.out, (But.refl p w).set⟩
  | cons n r =>
    have hst := slice_tail A r.length c
    obtain ⟨b, off, rfl, hbp, hat⟩ := hE (by simp)
    have hc2 := atN (hat 0 n rfl)
    rw [Nat.zero_mul, Nat.add_zero] at hc2
    have hbw : b < w.heap.size := by omega
    have hc' : r.length + 1 ≤ c := hc
    have c0' : w.cell? ⟨p, 0, none⟩ = some (.slice (some ⟨b, off, none⟩) (r.length + 1) c) := c0
    have HT := Lib.hid (es_tail (show Es EN w p (some ⟨b, off, none⟩) (n :: r) from fun _ => ⟨b, off, rfl, hbp, hat⟩) hc')
    obtain ⟨A', hA'⟩ : ∃ A', (if c = 1 then some (⟨b, off, none⟩ : Addr) else (some (⟨b, off, none⟩ : Addr)).map fun x => x.add 1) = A' := ⟨_, rfl⟩
    rw [hA'] at hst HT
    have HR := Lib.hid (show Rd (w.setCell ⟨p, 0, none⟩ (.slice A' r.length (c - 1))) p ⟨r, bad⟩ from ⟨A', c - 1, rdB_set0 HB.out, by show r.length ≤ c - 1; omega, HT.out.below ((Below.refl p w).setCell (Nat.le_refl p) _)⟩)
    show Calls Tryz.prog 92 #[.pointer (some ⟨p, 0, none⟩)] w fun e w' => e = .returned (.int .i64 n) ∧ Rd w' p ⟨r, bad⟩ ∧ But p w w'
    generalize r.length = m at *
    clear c0 hc hE hat hA' HT
    go_enter Tryz.func92, Tryz.ntmps92
    go_wp2
    go_ret
    exact ⟨rfl, HR.out, (But.refl p w).set⟩
/-- What a call reads: its value, and the reader goes on. -/
def Reads (p : Nat) (val : Value) (t : St) (w : World) (e : Ending) (w' : World) : Prop := e = .returned val ∧ Rd w' p t ∧ But p w w'
set_option maxRecDepth 100000 in
set_option maxHeartbeats 1000000 in
theorem upTo_any {p : Nat} {s : St} (m : Int) (w : World) (h : Rd w p s) :
    Calls Tryz.prog 124 #[.pointer (some ⟨p, 0, none⟩), .int .i64 m] w (Reads p (.int .i64 (rUp m s).1) (rUp m s).2 w) := by
  have HN := Lib.hid (number_any w h)
  have hu : rUp m s = if (rNum s).1 < 0 ∨ m < (rNum s).1 then (0, ⟨(rNum s).2.l, true⟩) else rNum s := rfl
  rw [hu]
  obtain ⟨n, hn⟩ : ∃ n, (rNum s).1 = n := ⟨_, rfl⟩
  obtain ⟨t, ht⟩ : ∃ t, (rNum s).2 = t := ⟨_, rfl⟩
  have hnt : rNum s = (n, t) := by rw [← hn, ← ht]
  rw [hn, ht, hnt]
  rw [hn, ht] at HN
  clear h hu hn ht hnt
  have KF := Lib.hid (fun w1 (hr : Rd w1 p t) => show ∃ A c, w1.heap[p]? = some (rdB A t.l.length c t.bad) ∧ Rd (w1.setCell ⟨p, 1, none⟩ (.bool true)) p ⟨t.l, true⟩ from by
    obtain ⟨A, c, h1, h2, h3⟩ := hr
    exact ⟨A, c, h1, A, c, rdB_set1 h1, h2, h3.below ((Below.refl p w1).setCell (Nat.le_refl p) _)⟩)
  by_cases h0 : n < 0
  · rw [if_pos (.inl h0)]
    go_enter Tryz.func124, Tryz.ntmps124
    go_wp2_with fail
    with_reducible refine (HN.out).mono ?_
    rintro e w1 ⟨rfl, hr, hb⟩
    obtain ⟨A, c, h1, h2⟩ := KF.out w1 hr
    have k0 := (rdB_cell h1).2
    have k1 := rdB_free h1 1
    have HR := Lib.hid (And.intro h2 hb)
    clear hr hb h1 h2
    go_wp2
    go_ret
    exact ⟨rfl, HR.out.1, HR.out.2.set⟩
  · by_cases h1 : m < n
    · rw [if_pos (.inr h1)]
      go_enter Tryz.func124, Tryz.ntmps124
      go_wp2_with fail
      with_reducible refine (HN.out).mono ?_
      rintro e w1 ⟨rfl, hr, hb⟩
      obtain ⟨A, c, h3, h4⟩ := KF.out w1 hr
      have k0 := (rdB_cell h3).2
      have k1 := rdB_free h3 1
      have HR := Lib.hid (And.intro h4 hb)
      clear hr hb h3 h4
      go_wp2
      go_ret
      exact ⟨rfl, HR.out.1, HR.out.2.set⟩
    · rw [if_neg (by omega)]
      go_enter Tryz.func124, Tryz.ntmps124
      go_wp2_with fail
      with_reducible refine (HN.out).mono ?_
      rintro e w1 ⟨rfl, hr, hb⟩
      have HR := Lib.hid (And.intro hr hb)
      clear hr hb
      go_wp2
      go_ret
      exact ⟨rfl, HR.out.1, HR.out.2⟩
theorem up_bd (m : Int) (hm : 0 ≤ m) (s : St) : 0 ≤ (rUp m s).1 ∧ (rUp m s).1 ≤ m := by
  unfold rUp
  split
  · exact ⟨Int.le_refl _, hm⟩
  · omega
set_option maxRecDepth 100000 in
set_option maxHeartbeats 1000000 in
theorem sm_any {p : Nat} {s : St} (w : World) (h : Rd w p s) :
    Calls Tryz.prog 123 #[.pointer (some ⟨p, 0, none⟩)] w (Reads p (.int .u8 (rSm s).1) (rSm s).2 w) := by
  have HN := Lib.hid (upTo_any 255 w h)
  obtain ⟨h0, h1⟩ := up_bd 255 (by decide) s
  unfold rSm
  generalize rUp 255 s = r at *
  obtain ⟨n, t⟩ := r
  have hw := wrap_small h0 h1
  dsimp only at *
  clear h
  go_enter Tryz.func123, Tryz.ntmps123
  go_wp2_with fail
  with_reducible refine (HN.out).mono ?_
  rintro e w1 ⟨rfl, hr, hb⟩
  have HR := Lib.hid (And.intro hr hb)
  clear hr hb
  go_wp2
  go_ret
  exact ⟨rfl, HR.out.1, HR.out.2⟩
set_option maxRecDepth 100000 in
set_option maxHeartbeats 1000000 in
theorem sign_any {p : Nat} {s : St} (w : World) (h : Rd w p s) :
    Calls Tryz.prog 128 #[.pointer (some ⟨p, 0, none⟩)] w (Reads p (.bool (rSign s).1) (rSign s).2 w) := by
  have HN := Lib.hid (upTo_any 1 w h)
  obtain ⟨h0, h1⟩ := up_bd 1 (by decide) s
  unfold rSign
  generalize rUp 1 s = r at *
  obtain ⟨n, t⟩ := r
  dsimp only at *
  clear h
  have hn : n = 0 ∨ n = 1 := by omega
  clear h0 h1
  rcases hn with rfl | rfl
  · go_enter Tryz.func128, Tryz.ntmps128
    go_wp2_with fail
    with_reducible refine (HN.out).mono ?_
    rintro e w1 ⟨rfl, hr, hb⟩
    have HR := Lib.hid (And.intro hr hb)
    clear hr hb
    go_wp2
    go_ret
    exact ⟨rfl, HR.out.1, HR.out.2⟩
  · go_enter Tryz.func128, Tryz.ntmps128
    go_wp2_with fail
    with_reducible refine (HN.out).mono ?_
    rintro e w1 ⟨rfl, hr, hb⟩
    have HR := Lib.hid (And.intro hr hb)
    clear hr hb
    go_wp2
    go_ret
    exact ⟨rfl, HR.out.1, HR.out.2⟩
end Go.Proofs.YtfmmfaeognoleaaGreat
