/-
  Slices of numbers: what a slice reads, rows of the call's own; the reference's Same.
-/
import Derived.Test.YtgcoggejgolhgaaCount
import Derived.Maps.AppendAt
import Derived.RangeFuncBox
import Derived.Deep.Draws
namespace Go.Proofs.Ytgcoggejgolhgaa
open Go.RowKit

def Sl (k : IntKind) (w : World) (B : Nat) (A : Option Addr) (xs : List Int) : Prop :=
  xs ≠ [] → ∃ b off, A = some ⟨b, off, none⟩ ∧ b < B ∧ ∀ j, j < xs.length → w.cell? ⟨b, off + j, none⟩ = some (.int k (xs.getD j 0))
theorem Sl.at {k : IntKind} {w : World} {B : Nat} {A : Option Addr} {xs : List Int} (h : Sl k w B A xs) {j : Nat} (hj : j < xs.length) :
    ∃ b off, A = some ⟨b, off, none⟩ ∧ b < B ∧ w.cell? ⟨b, off + j, none⟩ = some (.int k (xs.getD j 0)) := by
  obtain ⟨b, off, e, hb, hc⟩ := h (by rintro rfl; simp at hj)
  exact ⟨b, off, e, hb, hc j hj⟩
theorem Try.info3 : (Try.prog.info? 3).map (fun i => (i.zero, i.size, i.bytes)) = some (some (.int .i64 0), 1, 8) := by kernel_rfl
def OwnS (t : TypeId) (k : IntKind) (w : World) (base : Nat) (v : Value) (xs : List Int) : Prop := w.ownsRow base t 1 v xs.length (xs.map (Value.int k))
theorem OwnS.row {t : TypeId} {k : IntKind} {w : World} {base : Nat} {v : Value} {xs : List Int} (h : OwnS t k w base v xs) : w.ownsRow base t 1 v xs.length (xs.map (Value.int k)) := h
theorem OwnS.sl {t : TypeId} {k : IntKind} {w : World} {base : Nat} {v : Value} {xs : List Int} (h : OwnS t k w base v xs) :
    ∃ A c, v = .slice A xs.length c ∧ xs.length ≤ c ∧ c ≤ 9223372036854775807 ∧ Sl k w w.heap.size A xs := by
  obtain ⟨hl, ⟨rfl, h0⟩ | ⟨g, cap, cur, rfl, _, hh, hc, hm, _, ht⟩⟩ := h
  · have : xs = [] := List.eq_nil_of_length_eq_zero h0
    subst this
    exact ⟨none, 0, rfl, Nat.le_refl _, by decide, fun h => absurd rfl h⟩
  · refine ⟨some ⟨g, 0, none⟩, cap, rfl, hc, by unfold maxLen at hm; exact hm, fun _ => ⟨g, 0, rfl, (Array.getElem?_eq_some_iff.1 hh).1, fun j hj => ?_⟩⟩
    rw [cell_of_row w g (0 + j) cur t (0, 0) hh, Nat.zero_add]
    have e : (cur.toList.take (xs.length * 1))[j]? = (xs.map (Value.int k))[j]? := by rw [ht]
    rw [List.getElem?_take_of_lt (by omega), Array.getElem?_toList] at e
    rw [e, List.getElem?_map, List.getElem?_eq_getElem hj, List.getD_eq_getElem?_getD, List.getElem?_eq_getElem hj]
    rfl
theorem OwnS.nil (t : TypeId) (k : IntKind) (w : World) (base : Nat) : OwnS t k w base (.slice none 0 0) [] := World.ownsRow_nil _ _ _ _
theorem own_ge {w : World} {base size : Nat} {t : TypeId} {v : Value} {n : Nat} {xs : List Value} (h : w.ownsRow base t size v n xs) : ∀ j, v.ownBlock = some j → base ≤ j := by
  intro j ej
  rcases h.2 with ⟨rfl, _⟩ | ⟨g, cap, cur, rfl, hb, _, _⟩
  · simp [Value.ownBlock] at ej
  · obtain rfl : g = j := by simpa [Value.ownBlock] using ej
    exact hb
theorem OwnS.keep {t : TypeId} {k : IntKind} {w w' : World} {base : Nat} {v : Value} {xs : List Int} (h : OwnS t k w base v xs) (hb : Below w.heap.size w w') : OwnS t k w' base v xs := by
  obtain ⟨hl, h2⟩ := h
  refine ⟨hl, ?_⟩
  rcases h2 with h2 | ⟨g, cap, cur, rfl, hg, hh, hr⟩
  · exact .inl h2
  · exact .inr ⟨g, cap, cur, rfl, hg, (hb.block g (Array.getElem?_eq_some_iff.1 hh).1).trans hh, hr⟩
theorem OwnS.less {t : TypeId} {k : IntKind} {w : World} {base base' : Nat} {v : Value} {xs : List Int} (h : OwnS t k w base v xs) (hb : base' ≤ base) : OwnS t k w base' v xs := by
  obtain ⟨hl, h2⟩ := h
  refine ⟨hl, ?_⟩
  rcases h2 with h2 | ⟨g, cap, cur, rfl, hg, hr⟩
  · exact .inl h2
  · exact .inr ⟨g, cap, cur, rfl, by omega, hr⟩
/-- A call answers a new row of numbers, and what lay lies as it lay. -/
def Made (t : TypeId) (k : IntKind) (base : Nat) (w : World) (xs : List Int) (e : Ending) (w' : World) : Prop :=
  ∃ v, e = .returned v ∧ OwnS t k w' base v xs ∧ Below base w w'
theorem append_of {w w1 : World} {base : Nat} {t : TypeId} {k : IntKind} {v v' : Value} {cs : List Int} {x : Int} (ho : OwnS t k w base v cs) (hbase : base ≤ w.heap.size) {T : Obj}
    (hown : w1.ownsRow base t 1 v' (cs.length + 1) (cs.map (Value.int k) ++ [Value.int k x])) (hg : (w.alloc T).grownBy w1 v.ownBlock) : OwnS t k w1 base v' (cs ++ [x]) ∧ Below base w w1 := by
  refine ⟨by unfold OwnS; simpa using hown, ((Below.refl base w).alloc hbase T).grown hg (by simp; omega) fun j ej => own_ge ho j ej⟩
section
variable {k : IntKind} {w w' : World} {B B' : Nat} {A : Option Addr} {xs : List Int}
theorem Sl.below (h : Sl k w B A xs) (hb : Below B w w') : Sl k w' B A xs := fun hne => by
  obtain ⟨b, off, e, hbB, hc⟩ := h hne
  exact ⟨b, off, e, hbB, fun j hj => (hb.cell (p := ⟨b, off + j, none⟩) hbB).trans (hc j hj)⟩
theorem Sl.more (h : Sl k w B A xs) (hB : B ≤ B') : Sl k w B' A xs := fun hne => by
  obtain ⟨b, off, e, hbB, hc⟩ := h hne
  exact ⟨b, off, e, by omega, hc⟩
end
theorem own_empty (t : TypeId) (w : World) : (w.alloc (.cells #[] t)).ownsRow w.heap.size t 1 (.slice (some ⟨w.heap.size, 0, none⟩) 0 0) 0 [] :=
  ⟨rfl, .inr ⟨w.heap.size, 0, #[], rfl, Nat.le_refl _, World.alloc_heap_new w _, Nat.le_refl _, by unfold maxLen; omega, rfl, rfl⟩⟩
theorem boxed_app {W w1 : World} {n₀ B Bo t : Nat} {u v : Value} {k : Nat} {ys : List Value} {T : Obj} (hb : Boxed W B t u) (hte : t ≠ 3) (hrow : W.ownsRow n₀ 3 1 v k ys) (hgrow : (W.alloc T).grownBy w1 v.ownBlock) (hne : B ≠ Bo) (v' : Value) :
    Boxed (w1.setCell ⟨Bo, 0, none⟩ v') B t u := ((hb.alloc T).kept hgrow (hb.not_row hte hrow)).other hne v'
theorem own_form {w : World} {base n : Nat} {t : TypeId} {v : Value} {xs : List Value} (h : w.ownsRow base t 1 v n xs) : ∃ A c, v = .slice A n c := by
  rcases h.2 with ⟨rfl, rfl⟩ | ⟨g, cap, cur, rfl, _⟩
  · exact ⟨_, _, rfl⟩
  · exact ⟨_, _, rfl⟩
theorem boxed_below {W W' : World} {n₀ B t : Nat} {u : Value} (hb : Boxed W B t u) (h : Below n₀ W W') (hlt : B < n₀) : Boxed W' B t u := (h.block B hlt).trans hb
theorem below_draws {B : Nat} {a w : World} (h : Below B a w) (n : Nat) : Below B a (w.drewN n) := ⟨h.os, h.tape, h.output, h.size, h.block⟩
def Yes (w : World) (e : Ending) (w' : World) : Prop := e = .returned (.bool true) ∧ Below w.heap.size w w'

set_option maxRecDepth 100000 in
set_option maxHeartbeats 1000000 in
theorem same_any (A A' : Option Addr) (c c' : Nat) (xs : List Int) (w : World) (hs : Sl .i64 w w.heap.size A xs) (hs' : Sl .i64 w w.heap.size A' xs) (hl : xs.length ≤ 100000) :
    Calls Try.prog 12 #[.slice A xs.length c, .slice A' xs.length c'] w (Yes w) := by
  have HS := Lib.hid hs
  have HT := Lib.hid hs'
  clear hs hs'
  go_enter Try.func12, Try.ntmps12
  go_wp2
  go_loopw [5] (fun i wr => ∃ k : Nat, k ≤ xs.length ∧ i = .int .i64 k ∧ Below w.heap.size w wr) (fun i _ => xs.length - (intOf i).toNat)
  case atStart => exact ⟨0, by omega, rfl, Below.refl _ _⟩
  case round =>
    obtain ⟨k, hk, rfl, hb⟩ := hrel
    have HB := Lib.hid hb
    clear hb
    by_cases hlt : k < xs.length
    · obtain ⟨b, off, rfl, hbB, hcell⟩ := HS.out.at hlt
      obtain ⟨b', off', rfl, hbB', hcell'⟩ := HT.out.at hlt
      generalize xs.getD k 0 = p at hcell hcell'
      have h1 : wr.cell? ⟨b, off + k, none⟩ = some (.int .i64 p) := (HB.out.cell (p := ⟨b, off + k, none⟩) hbB).trans hcell
      have h2 : wr.cell? ⟨b', off' + k, none⟩ = some (.int .i64 p) := (HB.out.cell (p := ⟨b', off' + k, none⟩) hbB').trans hcell'
      clear hcell hcell'
      go_wp2_with fail
      go_quiet (fail)
      go_wp2
      exact ⟨⟨k + 1, by omega, by go_num, below_draws HB.out nq⟩, by simp [intOf]; omega⟩
    · go_wp2
      go_ret
      exact ⟨rfl, HB.out⟩
end Go.Proofs.Ytgcoggejgolhgaa
