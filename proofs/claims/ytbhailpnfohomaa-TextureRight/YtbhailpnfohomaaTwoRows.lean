/-
  Two blocks of a picture, each with a row of the call's own, that do not hang on each other.
-/
import Derived.Test.YtbhailpnfohomaaHeads
namespace Go.Proofs.Ytbhailpnfohomaa
open Go.RowKit

/-- Two rows lie apart. -/
def Apart (u v : Value) : Prop := ∀ j, u.ownBlock = some j → v.ownBlock = some j → False
theorem own_lt {α : Type} {E : Elem α} {w : World} {base : Nat} {v : Value} {xs : List α} (h : OwnE E w base v xs) {j : Nat} (e : v.ownBlock = some j) : j < w.heap.size := by
  rcases h.2 with ⟨rfl, _⟩ | ⟨g, cap, cur, rfl, hb, hh, _⟩
  · simp [Value.ownBlock] at e
  · obtain rfl : g = j := by simpa [Value.ownBlock] using e
    exact (Array.getElem?_eq_some_iff.1 hh).1
theorem OwnE.kept {α : Type} {E : Elem α} {w w' : World} {base : Nat} {v : Value} {xs : List α} {row : Option Nat} (h : OwnE E w base v xs) (hg : w.grownBy w' row) (hne : ∀ j, v.ownBlock = some j → row = some j → False) : OwnE E w' base v xs := by
  obtain ⟨hl, h2⟩ := h
  refine ⟨hl, ?_⟩
  rcases h2 with h2 | ⟨g, cap, cur, rfl, hj, hh, hr⟩
  · exact .inl h2
  · refine .inr ⟨g, cap, cur, rfl, hj, ?_, hr⟩
    rw [hg.block g (Array.getElem?_eq_some_iff.1 hh).1 (fun e => hne g (by simp [Value.ownBlock]) e.symm)]
    exact hh

theorem opw_append {o : Oper} {k : Act} {w : World} {K : Act → World → Prop} {R : Exit → Act → World → Prop} (s x : Operand) (base : Nat) (v : Value) (xs : List Col) (u : Col) (gx : Nat)
    (ho : o.op = .call { callee := .builtin .append, args := #[s, x], argTypes := #[22, 22] }) (hs : k.eval s = v) (hx : k.eval x = .slice (some ⟨gx, 0, none⟩) 1 1)
    (hown : OwnE EC w base v xs) (hu : w.heap[gx]? = some (colB u)) (hn : xs.length ≤ 1000) (hbase : base ≤ w.heap.size)
    (h : ∀ v' w', w'.ownsRow base EC.t EC.size v' (xs.length + 1) (EC.flat xs ++ EC.cells u) → w.grownBy w' v.ownBlock → (v'.ownBlock = v.ownBlock ∨ v'.ownBlock = some w.heap.size) → K (k.put o.dst v') w') : o.wp Try.prog k w K R := by
  obtain ⟨i0, hi, hz0, hz1, hz2⟩ := info_parts Try.info30
  have hcell : ∀ j c, (EC.cells u)[j]? = some c → w.cell? ((⟨gx, 0, none⟩ : Addr).add j) = some c := by
    intro j c hj
    have hc := cell_of_row w gx j #[.int .u8 u.r, .int .u8 u.g, .int .u8 u.b, .int .u8 u.a] 30 (0, 0) hu
    have ha : (⟨gx, 0, none⟩ : Addr).add j = ⟨gx, j, none⟩ := by unfold Addr.add; split <;> simp_all
    rw [ha, hc, ← hj, ← Array.getElem?_toList]
    rfl
  obtain ⟨v', w', hr, h2, h3, -, h5⟩ := run_append_own_at (P := Try.prog) w base 22 o.type 30 i0 _ 4 4 Try.underlying22 hi hz0 hz1 hz2 (by kernel_rfl) (by decide) v xs.length (EC.flat xs) hown.row ⟨gx, 0, none⟩ 1 1 (EC.cells u) rfl hcell (EC.one u) (by unfold maxLen; omega) (by omega) hbase
  unfold Oper.wp execOp
  simp only [ho, resolve, invoke, builtin, Sem.run_bind, Sem.run_pure, Result.andThen_ok, List.map_toArray, List.map_cons, List.map_nil, hs, hx, hr]
  exact h v' w' h2 h3 h5

/-- Two pictures that are under way, behind the world X. -/
structure Two (X : World) (W H : Int) (w : World) (u v : Value) (xs ys : List Col) : Prop where
  bel : Below X.heap.size X w
  size : X.heap.size + 2 ≤ w.heap.size
  a : w.heap[X.heap.size]? = some (fB W H u)
  b : w.heap[X.heap.size + 1]? = some (fB W H v)
  ou : OwnE EC w (X.heap.size + 2) u xs
  ov : OwnE EC w (X.heap.size + 2) v ys
  ap : Apart u v
section
variable {X w w6 : World} {W H : Int} {u v u' : Value} {xs ys : List Col} {c : Col} {T : Obj}
theorem Two.drew (h : Two X W H w u v xs ys) : Two X W H w.drew u v xs ys :=
  ⟨h.bel.drew, h.size, h.a, h.b, h.ou.keep (Below.refl _ _).drew, h.ov.keep (Below.refl _ _).drew, h.ap⟩
theorem Two.swap (h : Apart u v) : Apart v u := fun j a b => h j b a
theorem Two.mid (h : Two X W H w u v xs ys) (hown : w6.ownsRow (X.heap.size + 2) EC.t EC.size u' (xs.length + 1) (EC.flat xs ++ EC.cells c)) (hg : (w.alloc T).grownBy w6 u.ownBlock) : OwnE EC w6 (X.heap.size + 2) u' (xs ++ [c]) ∧ Below (X.heap.size + 2) w w6 :=
  append_ofE h.ou h.size hown hg
theorem Two.first (h : Two X W H w u v xs ys) (hown : w6.ownsRow (X.heap.size + 2) EC.t EC.size u' (xs.length + 1) (EC.flat xs ++ EC.cells c)) (hg : (w.alloc T).grownBy w6 u.ownBlock) (hb : u'.ownBlock = u.ownBlock ∨ u'.ownBlock = some (w.alloc T).heap.size) :
    Two X W H (w6.setCell ⟨X.heap.size, 2, none⟩ u') u' v (xs ++ [c]) ys := by
  obtain ⟨ho, hB⟩ := h.mid hown hg
  have hs := h.size
  have hz := hB.size
  refine ⟨(h.bel.trans (hB.mono (by omega))).setCell (Nat.le_refl _) _, by simp; omega, fB_set2 _ ((hB.block _ (by omega)).trans h.a), ?_, ho.setCell (by omega), ?_, ?_⟩
  · rw [heap_setCell_other _ _ _ _ (by simp)]
    exact (hB.block _ (by omega)).trans h.b
  · exact ((h.ov.alloc T).kept hg (fun j e f => h.ap j f e)).setCell (by omega)
  · intro j e f
    rcases hb with e' | e'
    · exact h.ap j (e'.symm.trans e) f
    · have := own_lt h.ov f
      rw [e] at e'
      have e2 : j = (w.alloc T).heap.size := by simpa using e'
      simp at e2
      omega
theorem Two.second (h : Two X W H w u v xs ys) (hown : w6.ownsRow (X.heap.size + 2) EC.t EC.size u' (ys.length + 1) (EC.flat ys ++ EC.cells c)) (hg : (w.alloc T).grownBy w6 v.ownBlock) (hb : u'.ownBlock = v.ownBlock ∨ u'.ownBlock = some (w.alloc T).heap.size) :
    Two X W H (w6.setCell ⟨X.heap.size + 1, 2, none⟩ u') u u' xs (ys ++ [c]) := by
  obtain ⟨ho, hB⟩ := append_ofE h.ov h.size hown hg
  have hs := h.size
  have hz := hB.size
  refine ⟨(h.bel.trans (hB.mono (by omega))).setCell (by simp) _, by simp; omega, ?_, fB_set2 _ ((hB.block _ (by omega)).trans h.b), ?_, ho.setCell (by omega), ?_⟩
  · rw [heap_setCell_other _ _ _ _ (by simp)]
    exact (hB.block _ (by omega)).trans h.a
  · exact ((h.ou.alloc T).kept hg (fun j e f => h.ap j e f)).setCell (by omega)
  · intro j e f
    rcases hb with e' | e'
    · exact h.ap j e (e'.symm.trans f)
    · have := own_lt h.ou e
      rw [f] at e'
      have e2 : j = (w.alloc T).heap.size := by simpa using e'
      simp at e2
      omega
end
end Go.Proofs.Ytbhailpnfohomaa
