/-
  wire.putOne and wire.Put, at this seat's translation.
-/
import Derived.Test.YtopncdeafbpenaaBase
import Derived.Maps.AppendAt
import Derived.RangeFuncBox
namespace Go.Proofs.Ytopncdeafbpenaa
open Go.RowKit

theorem Try.info5 : (Try.prog.info? 5).map (fun i => (i.zero, i.size, i.bytes)) = some (some (.int .u8 0), 1, 1) := by kernel_rfl
theorem Try.info3 : (Try.prog.info? 3).map (fun i => (i.zero, i.size, i.bytes)) = some (some (.int .i64 0), 1, 8) := by kernel_rfl

def OwnS (t : TypeId) (k : IntKind) (w : World) (base : Nat) (v : Value) (xs : List Int) : Prop := w.ownsRow base t 1 v xs.length (xs.map (Value.int k))

theorem OwnS.row {t : TypeId} {k : IntKind} {w : World} {base : Nat} {v : Value} {xs : List Int} (h : OwnS t k w base v xs) : w.ownsRow base t 1 v xs.length (xs.map (Value.int k)) := h

theorem OwnS.sl {t : TypeId} {k : IntKind} {w : World} {base : Nat} {v : Value} {xs : List Int} (h : OwnS t k w base v xs) :
    ∃ A c, v = .slice A xs.length c ∧ xs.length ≤ c ∧ c ≤ 9223372036854775807 ∧ Sl k w w.heap.size A xs := by
  obtain ⟨hl, ⟨rfl, h0⟩ | ⟨g, cap, cur, rfl, _, hh, hc, hm, _, ht⟩⟩ := h
  · have : xs = [] := List.eq_nil_of_length_eq_zero h0
    subst this
    exact ⟨none, 0, rfl, Nat.le_refl _, by decide, fun h => absurd rfl h⟩
  · refine ⟨some ⟨g, 0, none⟩, cap, rfl, hc, by unfold maxLen at hm; exact hm, fun _ => ⟨g, 0, rfl, (Array.getElem?_eq_some_iff.1 hh).1, fun j hj => ?_⟩⟩
    rw [cell_of_row w g (0 + j) cur t (0, 0) hh, Nat.zero_add]
    have e : (cur.toList.take (xs.length * 1))[j]? = (xs.map (Value.int k))[j]? := by rw [ht]
    rw [List.getElem?_take_of_lt (by omega), Array.getElem?_toList] at e
    rw [e, List.getElem?_map, List.getElem?_eq_getElem hj, List.getD_eq_getElem?_getD, List.getElem?_eq_getElem hj]
    rfl

theorem OwnS.nil (t : TypeId) (k : IntKind) (w : World) (base : Nat) : OwnS t k w base (.slice none 0 0) [] := World.ownsRow_nil _ _ _ _

theorem own_ge {w : World} {base size : Nat} {t : TypeId} {v : Value} {n : Nat} {xs : List Value} (h : w.ownsRow base t size v n xs) : ∀ j, v.ownBlock = some j → base ≤ j := by
  intro j ej
  rcases h.2 with ⟨rfl, _⟩ | ⟨g, cap, cur, rfl, hb, _, _⟩
  · simp [Value.ownBlock] at ej
  · obtain rfl : g = j := by simpa [Value.ownBlock] using ej
    exact hb

theorem OwnS.keep {t : TypeId} {k : IntKind} {w w' : World} {base : Nat} {v : Value} {xs : List Int} (h : OwnS t k w base v xs) (hb : Below w.heap.size w w') : OwnS t k w' base v xs := by
  obtain ⟨hl, h2⟩ := h
  refine ⟨hl, ?_⟩
  rcases h2 with h2 | ⟨g, cap, cur, rfl, hg, hh, hr⟩
  · exact .inl h2
  · exact .inr ⟨g, cap, cur, rfl, hg, (hb.block g (Array.getElem?_eq_some_iff.1 hh).1).trans hh, hr⟩
theorem OwnS.less {t : TypeId} {k : IntKind} {w : World} {base base' : Nat} {v : Value} {xs : List Int} (h : OwnS t k w base v xs) (hb : base' ≤ base) : OwnS t k w base' v xs := by
  obtain ⟨hl, h2⟩ := h
  refine ⟨hl, ?_⟩
  rcases h2 with h2 | ⟨g, cap, cur, rfl, hg, hr⟩
  · exact .inl h2
  · exact .inr ⟨g, cap, cur, rfl, by omega, hr⟩

/-- A call answers a new row of numbers, and what lay lies as it lay. -/
def Made (t : TypeId) (k : IntKind) (base : Nat) (w : World) (xs : List Int) (e : Ending) (w' : World) : Prop :=
  ∃ v, e = .returned v ∧ OwnS t k w' base v xs ∧ Below base w w'

def PutAt (base : Nat) (w : World) (bs : List Int) (n : Int) (b u : Value) (wr : World) : Prop :=
  ∃ (k : Nat) (cs : List Int), u = .int .u64 k ∧ k < 18446744073709551616 ∧ OwnS 5 .u8 wr base b cs ∧ cs ++ enc k = bs ++ enc (fold n) ∧ Below base w wr

theorem append_of {w w1 : World} {base : Nat} {t : TypeId} {k : IntKind} {v v' : Value} {cs : List Int} {x : Int} (ho : OwnS t k w base v cs) (hbase : base ≤ w.heap.size) {T : Obj}
    (hown : w1.ownsRow base t 1 v' (cs.length + 1) (cs.map (Value.int k) ++ [Value.int k x])) (hg : (w.alloc T).grownBy w1 v.ownBlock) : OwnS t k w1 base v' (cs ++ [x]) ∧ Below base w w1 := by
  refine ⟨by unfold OwnS; simpa using hown, ((Below.refl base w).alloc hbase T).grown hg (by simp; omega) fun j ej => own_ge ho j ej⟩

set_option maxRecDepth 100000 in
set_option maxHeartbeats 1000000 in
theorem putOne_any (v : Value) (n : Int) (bs : List Int) (base : Nat) (w : World) (hown : OwnS 5 .u8 w base v bs) (hbase : base ≤ w.heap.size) (hl : bs.length ≤ 100000) (h0 : -9223372036854775808 ≤ n) (h1 : n ≤ 9223372036854775807) :
    Calls Try.prog 23 #[v, .int .i64 n] w (Made 5 .u8 base w (bs ++ enc (fold n))) := by
  obtain ⟨i0, hi, hz0, hz1, hz2⟩ := info_parts Try.info5
  have HI := Lib.hid hi
  have HZ := Lib.hid (And.intro hz0 (And.intro hz1 hz2))
  clear hi hz0 hz1 hz2
  have hf := fold_lt ⟨h0, h1⟩
  have hel := enc_len10 hf
  have HO := Lib.hid hown
  clear hown
  go_enter Try.func23, Try.ntmps23
  go_wp2_with (go_at_call 26; refine (folded_any _ _ h0 h1).mono ?_; rintro e w' ⟨rfl, rfl⟩)
  go_loopw [0, 5] (fun b u wr => PutAt base w bs n b u wr) (fun _ u _ => (intOf u).toNat)
  case atStart => exact ⟨fold n, bs, rfl, hf, HO.out, rfl, Below.refl _ _⟩
  case round =>
    obtain ⟨k, cs, rfl, hk, ho, hcs, hb⟩ := hrel
    have hlen : cs.length + (enc k).length = bs.length + (enc (fold n)).length := by simpa using congrArg List.length hcs
    have hsz := hb.size
    have HB := Lib.hid hb
    have HW := Lib.hid ho
    have HC := Lib.hid hcs
    clear hb ho hcs
    have hep := enc_pos k
    have hcl : cs.length ≤ 100010 := by omega
    have HL := Lib.hid hlen
    clear hlen hel hep
    by_cases hge : 128 ≤ k
    · go_wp2_with (at_builtin; refine wpList_append_own _ rfl _ _ 23 rfl base 5 i0 (.int .u8 0) 1 1 Try.underlying23 HI.out HZ.out.1 HZ.out.2.1 HZ.out.2.2 rfl (by decide) _ _ _ rfl (HW.out.row.alloc _) _ 1 1 [_] rfl rfl (cell_one_new _ _ _) (by simp [Value.oneCell']) (by unfold maxLen; omega) (by omega) (by simp; omega) ?_; intro v' w1 hown' hgrow _)
      obtain ⟨ho', hb'⟩ := append_of HW.out (by omega) hown' hgrow
      refine ⟨⟨k / 128, cs ++ [((k % 128 + 128 : Nat) : Int)], by simp, by omega, by simpa using ho', ?_, HB.out.trans hb'⟩, by simp [intOf]; omega⟩
      rw [← HC.out, enc_ge (u := k) (by omega)]; simp
    · go_wp2_with (at_builtin; refine wpList_append_own _ rfl _ _ 23 rfl base 5 i0 (.int .u8 0) 1 1 Try.underlying23 HI.out HZ.out.1 HZ.out.2.1 HZ.out.2.2 rfl (by decide) _ _ _ rfl (HW.out.row.alloc _) _ 1 1 [_] rfl rfl (cell_one_new _ _ _) (by simp [Value.oneCell']) (by unfold maxLen; omega) (by omega) (by simp; omega) ?_; intro v' w1 hown' hgrow _)
      go_ret
      obtain ⟨ho', hb'⟩ := append_of HW.out (by omega) hown' hgrow
      refine ⟨v', rfl, ?_, HB.out.trans hb'⟩
      rw [← HC.out, enc_lt (u := k) (by omega)]; exact ho'

def AllAt (base : Nat) (w : World) (l : List Int) (b i : Value) (wr : World) : Prop :=
  ∃ k : Nat, k ≤ l.length ∧ i = .int .i64 k ∧ OwnS 5 .u8 wr base b (put (l.take k)) ∧ Below base w wr

theorem take_at {xs : List Int} {k : Nat} {p : Int} (hk : k < xs.length) (hp : xs.getD k 0 = p) : xs.take (k + 1) = xs.take k ++ [p] := by
  rw [List.take_succ_eq_append_getElem hk, ← hp, List.getD_eq_getElem?_getD, List.getElem?_eq_getElem hk]; rfl

set_option maxRecDepth 100000 in
set_option maxHeartbeats 1000000 in
theorem put_any (A : Option Addr) (c : Nat) (l : List Int) (B : Nat) (w : World) (hs : Sl .i64 w B A l) (hB : B ≤ w.heap.size) (hi : Ins l) (hl : l.length ≤ 1000) :
    Calls Try.prog 14 #[.slice A l.length c] w (Made 5 .u8 w.heap.size w (put l)) := by
  have HS := Lib.hid hs
  have HI := Lib.hid hi
  clear hs hi
  go_enter Try.func14, Try.ntmps14
  go_wp2
  go_loopw [3, 8] (fun b i wr => AllAt w.heap.size w l b i wr) (fun _ i _ => l.length - (intOf i).toNat)
  case atStart => exact ⟨0, by omega, rfl, by simpa [put] using OwnS.nil 5 .u8 w w.heap.size, Below.refl _ _⟩
  case round =>
    obtain ⟨k, hk, rfl, ho, hb⟩ := hrel
    have hpl := put_len (HI.out.take k)
    have hlt' : (l.take k).length ≤ 1000 := by simp; omega
    have hpl2 : (put (l.take k)).length ≤ 10000 := by omega
    have hsz := hb.size
    have HO := Lib.hid ho
    have HB := Lib.hid hb
    clear ho hb hpl hlt'
    by_cases hlt : k < l.length
    · obtain ⟨b, off, rfl, hbB, hcell⟩ := HS.out.at hlt
      have hn := HI.out.get k
      generalize hp : l.getD k 0 = n at hcell hn
      obtain ⟨hn0, hn1⟩ := hn
      have HP := Lib.hid hp
      clear hp
      have hcell' : wr.cell? ⟨b, off + k, none⟩ = some (.int .i64 n) := (HB.out.cell (p := ⟨b, off + k, none⟩) (by show b < _; omega)).trans hcell
      clear hcell
      go_wp2_with (go_at_call 23; refine (putOne_any _ n _ w.heap.size _ HO.out hsz (by omega) hn0 hn1).mono ?_; rintro e w' ⟨v', rfl, ho', hb'⟩)
      go_roundw
      case rel => exact ⟨k + 1, by omega, by go_num, by rw [take_at hlt HP.out, put_snoc]; exact ho', HB.out.trans hb'⟩
      case measure => simp [intOf]; omega
    · go_wp2
      go_ret
      have e : l.take k = l := List.take_of_length_le (by omega)
      exact ⟨_, rfl, by have := HO.out; rwa [e] at this, HB.out⟩
end Go.Proofs.Ytopncdeafbpenaa
