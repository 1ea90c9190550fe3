/-
  Laws for a region that draws its order and appends: a quiet rest of a region; an append of colours to a row of one's own; three orders that meet again.
-/
import Derived.Test.YtpnjhmmodkhmfaaHidP
namespace Go.Proofs.Ytpnjhmmodkhmfaa
open Go.RowKit

theorem held_quiet {P : Program} {ops : Array Oper} {md : Region.Mode} {C : World → Prop} {Q : Act → Prop} {Q' : Exit → Act → World → Prop} (hQ : ∀ a w, C w → Q a → Q' .normal a w) :
    ∀ (fuel : Nat) (listed : Array Bool) (a : Act) (w : World), C w → wpAnyQ P md ops C Q fuel listed a → wpAnyH P md ops Q' C fuel listed a w
  | 0, _, _, _, hw, h => ⟨h.1, hQ _ _ hw h.2⟩
  | fuel + 1, _, _, _, hw, h => ⟨fun h0 => hQ _ _ hw (h.1 h0), fun i hi => wpOp_of_qOp hw (fun a' w' hw' h' => ⟨hw', held_quiet hQ fuel _ a' w' hw' h'⟩) (h.2 i hi)⟩
theorem held_quiet_from {P : Program} {l : List Oper} {C : World → Prop} {Q' : Exit → Act → World → Prop} {a : Act} {w : World} {listed : Array Bool} {fuel : Nat} (k : Nat) (hs : Region.noSelect l.toArray = true)
    (hB : Region.lexFrom .any l.toArray fuel k listed = true) (hl : (l.drop k).length = fuel) (hC : C w)
    (h : wpQuiet P l.toArray C (fun a => ∀ w, C w → Q' .normal a w) (l.drop k) a) : wpAnyH P .any l.toArray Q' C fuel listed a w := by
  subst hl
  exact held_quiet (Q := fun a => ∀ w, C w → Q' .normal a w) (fun a w hw h => h w hw) _ _ _ _ hC (wpAnyQ_lex hs (l.drop k) k listed a (fun j => by simp) hB h)

/-- What is shown once serves wherever it is met. -/
theorem share {F T : Value → Value → Value → World → Prop} {G : Prop} (use : (∀ x y z w, F x y z w → T x y z w) → G) (tail : ∀ x y z w, F x y z w → T x y z w) : G := use tail

/-- Where the colours of a slice lie. -/
def Src (w : World) (ad : Option Addr) (l : List Col) : Prop := (ad = none ∧ l = []) ∨ ∃ A, ad = some A ∧ ∀ j u, (flat l)[j]? = some u → w.cell? (A.add j) = some u
theorem add_block (A : Addr) (j : Nat) : (A.add j).block = A.block := by unfold Addr.add; split <;> rfl
theorem Src.grow {w w' : World} {ad : Option Addr} {l : List Col} (h : Src w ad l) (hb : Below w.heap.size w w') : Src w' ad l := by
  rcases h with h | ⟨A, e, h⟩
  · exact .inl h
  · refine .inr ⟨A, e, fun j u hj => ?_⟩
    have h1 := h j u hj
    rw [hb.cell (World.block_lt_of_cell? _ _ h1)]
    exact h1

theorem info23 : (Try.prog.info? 23).map (fun i => (i.zero, i.size, i.bytes)) = some (some (.agg #[.int .u8 0, .int .u8 0, .int .u8 0, .int .u8 0]), 4, 4) := by kernel_rfl

theorem run_append_cols (w : World) (base : Nat) (ty : TypeId) (v : Value) (k l : List Col) (ad : Option Addr) (c : Nat) (hown : w.ownsRow base 23 4 v k.length (flat k)) (hsrc : Src w ad l) (hn : k.length + l.length ≤ 1000) (hbase : base ≤ w.heap.size) :
    ∃ v' w', (Builtin.append_ #[25, 25] ty #[v, .slice ad l.length c]).run Try.prog w = .ok v' w' ∧ w'.ownsRow base 23 4 v' (k ++ l).length (flat (k ++ l)) ∧ w.grownBy w' v.ownBlock := by
  obtain ⟨i0, hi, hz0, hz1, hz2⟩ := info_parts info23
  rcases hsrc with ⟨rfl, rfl⟩ | ⟨A, rfl, h⟩
  · refine ⟨v, w, ?_, by simpa using hown, World.grownBy.refl w _⟩
    rcases hown.2 with ⟨rfl, h0⟩ | ⟨g, cap, cur, rfl, _, _, hnc, _⟩
    · simp [Builtin.append_, run_underlying Try.underlying25, sizeOf, typeInfo, hi, Builtin.lenOf, Builtin.firstCells]
    · simp [Builtin.append_, run_underlying Try.underlying25, sizeOf, typeInfo, hi, Builtin.lenOf, Builtin.firstCells, hnc, storeCells]
  · obtain ⟨v', w', hr, h2, h3, _, _⟩ := run_append_own_at (P := Try.prog) w base 25 ty 23 i0 _ 4 4 Try.underlying25 hi hz0 hz1 hz2 rfl (by decide) v k.length (flat k) hown A l.length c (flat l) (flat_length l) h (flat_one l) (by unfold maxLen; omega) (by omega) hbase
    exact ⟨v', w', hr, by rw [List.length_append, flat_append]; exact h2, h3⟩

theorem wp_append_cols {o : Oper} {a : Act} {w : World} {K : Act → World → Prop} {Q : Exit → Act → World → Prop} (s x : Operand) (base : Nat) (v : Value) (k l : List Col) (ad : Option Addr) (m c : Nat)
    (ho : o.op = .call { callee := .builtin .append, args := #[s, x], argTypes := #[25, 25] }) (hs : a.eval s = v) (hx : a.eval x = .slice ad m c) (hm : m = l.length)
    (hown : w.ownsRow base 23 4 v k.length (flat k)) (hsrc : Src w ad l) (hn : k.length + l.length ≤ 1000) (hbase : base ≤ w.heap.size)
    (h : ∀ v' w', w'.ownsRow base 23 4 v' (k ++ l).length (flat (k ++ l)) → w.grownBy w' v.ownBlock → K (a.put o.dst v') w') : o.wp Try.prog a w K Q := by
  subst hm
  obtain ⟨v', w', hr, h2, h3⟩ := run_append_cols w base o.type v k l ad c hown hsrc hn hbase
  unfold Oper.wp execOp
  simp only [ho, resolve, invoke, builtin, Sem.run_bind, Sem.run_pure, Result.andThen_ok, List.map_toArray, List.map_cons, List.map_nil, hs, hx, hr]
  exact h v' w' h2 h3

/-- Old blocks stay, whatever is appended to a row of one's own. -/
theorem below_grown {W w w' : World} {v : Value} {n : Nat} {xs : List Value} (hb : Below W.heap.size W w) (hown : w.ownsRow W.heap.size 23 4 v n xs) (hg : w.grownBy w' v.ownBlock) : Below W.heap.size W w' :=
  hb.grown hg hb.size (fun j e => (hown.lt j e).1)
theorem owns_empty (w : World) (base : Nat) (h : base ≤ w.heap.size) : (w.alloc (.cells #[] 23)).ownsRow base 23 4 (.slice (some ⟨w.heap.size, 0, none⟩) 0 0) 0 [] :=
  ⟨rfl, .inr ⟨_, 0, #[], rfl, h, heap_alloc_new _ _, Nat.le_refl _, by unfold maxLen; omega, rfl, rfl⟩⟩
theorem src_one {w : World} {g : Nat} {c : Col} (h : w.heap[g]? = some (colB c)) : Src w (some ⟨g, 0, none⟩) [c] := by
  refine .inr ⟨_, rfl, fun j u hj => ?_⟩
  obtain ⟨h0, h1, h2, h3⟩ := colB_cell h
  rw [addr_add, Nat.zero_add]
  match j, hj with
  | 0, hj => rw [h0]; simpa [flat] using hj
  | 1, hj => rw [h1]; simpa [flat] using hj
  | 2, hj => rw [h2]; simpa [flat] using hj
  | 3, hj => rw [h3]; simpa [flat] using hj
  | j + 4, hj => simp [flat] at hj

/-- colour.Fold of a row of one's own. -/
theorem fold_owned (c : Col) (l : List Col) (base : Nat) (v : Value) (u : World) (hc : c.ok) (hl : ∀ x ∈ l, x.ok) (hn : l.length ≤ 1000) (hpos : 0 < l.length) (hown : u.ownsRow base 23 4 v l.length (flat l)) :
    ∃ g cap m, v = .slice (some ⟨g, 0, none⟩) m cap ∧ Calls Try.prog 17 #[.agg #[.int .u8 c.r, .int .u8 c.g, .int .u8 c.b, .int .u8 c.a], .slice (some ⟨g, 0, none⟩) m cap] u fun e w' =>
      e = .returned (.agg #[.int .u8 (foldC c l).r, .int .u8 (foldC c l).g, .int .u8 (foldC c l).b, .int .u8 (foldC c l).a]) ∧ Below u.heap.size u w' := by
  obtain ⟨g, cap, rfl, hcol⟩ := cols_of_owns hown rfl hpos
  exact ⟨g, cap, l.length, rfl, fold_row c l g 0 cap u hc hl hn hcol⟩
end Go.Proofs.Ytpnjhmmodkhmfaa
