/-
  The reference's All, at this seat's translation.
-/
import Derived.Test.YtopncdeafbpenaaRefT
namespace Go.Proofs.Ytopncdeafbpenaa
open Go.RowKit

def RAllAt (w : World) (xs : List Int) (b out : Value) (wr : World) : Prop :=
  ∃ (o ys : List Int) (A : Option Addr) (c : Nat), b = .slice A ys.length c ∧ ys.length ≤ c ∧ ys.length + o.length ≤ xs.length ∧ Byt ys ∧ Sl .u8 wr wr.heap.size A ys ∧ seq xs = o.map (fun n => (n, true)) ++ seq ys ∧ OwnS 3 .i64 wr w.heap.size out o ∧ Below w.heap.size w wr

def RAll (w : World) (xs : List Int) (e : Ending) (w' : World) : Prop :=
  ∃ v, e = .returned (.tuple #[v, .bool (flag (seq xs))]) ∧ OwnS 3 .i64 w' w.heap.size v (nums (seq xs)) ∧ Below w.heap.size w w'

theorem OwnS.reads {t : TypeId} {k : IntKind} {w : World} {base n c : Nat} {A : Option Addr} {xs : List Int} (h : OwnS t k w base (.slice A n c) xs) : Sl k w w.heap.size A xs := by
  obtain ⟨A', c', e, _, _, hs⟩ := h.sl
  injection e with e1
  subst e1
  exact hs
theorem own_apart {t1 t2 : TypeId} {k1 k2 : IntKind} {w : World} {b1 b2 : Nat} {v1 v2 : Value} {xs ys : List Int} (h1 : OwnS t1 k1 w b1 v1 xs) (h2 : OwnS t2 k2 w b2 v2 ys) (ht : t1 ≠ t2) : v1.ownBlock = none ∨ v1.ownBlock ≠ v2.ownBlock := by
  rcases h1.2 with ⟨rfl, _⟩ | ⟨g, cap, cur, rfl, _, hg, _⟩
  · exact .inl rfl
  · rcases h2.2 with ⟨rfl, _⟩ | ⟨g', cap', cur', rfl, _, hg', _⟩
    · exact .inr (by simp [Value.ownBlock])
    · refine .inr fun e => ?_
      obtain rfl : g = g' := by simpa [Value.ownBlock] using e
      rw [hg] at hg'
      injection hg' with hg'
      injection hg' with _ ht'
      exact ht ht'
theorem RAll.mk {w w' : World} {xs o : List Int} {v : Value} {f : Bool} (hf : flag (seq xs) = f) (hn : nums (seq xs) = o) (ho : OwnS 3 .i64 w' w.heap.size v o) (hb : Below w.heap.size w w') : RAll w xs (.returned (.tuple #[v, .bool f])) w' := by
  subst hf hn
  exact ⟨v, rfl, ho, hb⟩
theorem nums_app (a b : List (Int × Bool)) : nums (a ++ b) = nums a ++ nums b := by simp [nums]
theorem flag_app (a b : List (Int × Bool)) : flag (a ++ b) = (flag a || flag b) := by simp [flag]

set_option maxRecDepth 100000 in
set_option maxHeartbeats 2000000 in
theorem rall_any (A : Option Addr) (c : Nat) (xs : List Int) (w : World) (hs : Sl .u8 w w.heap.size A xs) (hb : Byt xs) (hc : xs.length ≤ c) (hm : xs.length ≤ 1000) :
    Calls Try.prog 17 #[.slice A xs.length c] w (RAll w xs) := by
  obtain ⟨i0, hi, hz0, hz1, hz2⟩ := info_parts Try.info3
  have HZ := Lib.hid (And.intro hi (And.intro hz0 (And.intro hz1 hz2)))
  clear hi hz0 hz1 hz2
  have HS := Lib.hid hs
  have HB := Lib.hid hb
  have HE := Lib.hid (own_empty 3 w)
  clear hs hb
  go_enter Try.func17, Try.ntmps17
  go_wp2_with fail
  go_loopw [0, 4] (fun b out wr => RAllAt w xs b out wr) (fun b _ _ => match b with | .slice _ n _ => n | _ => 0)
  case atStart =>
    have hB0 : Below w.heap.size w (w.alloc (.cells #[] 3)) := (Below.refl _ w).alloc (Nat.le_refl _) _
    exact ⟨[], xs, A, c, rfl, hc, by simp, HB.out, (HS.out.below hB0).more hB0.size, rfl, HE.out, hB0⟩
  case round =>
    obtain ⟨o, ys, A', c', rfl, hc', hlen, hby, hsl, hsq, ho, hb⟩ := hrel
    have HBy := Lib.hid hby
    have HSl := Lib.hid hsl
    have HQ := Lib.hid hsq
    have HO := Lib.hid ho
    have HBl := Lib.hid hb
    have hsz := hb.size
    clear hby hsl hsq ho hb
    by_cases hne : ys = []
    · subst hne
      go_wp2
      go_ret2
      exact RAll.mk (by rw [HQ.out, seq_nil, List.append_nil, flag_trues]) (by rw [HQ.out, seq_nil, List.append_nil, nums_trues]) HO.out HBl.out
    · have hpos : 0 < ys.length := List.length_pos_iff.2 hne
      have HNE := Lib.hid hne
      clear hne
      obtain ⟨x, s, hf⟩ : ∃ x s, first ys = (x, s) := ⟨_, _, rfl⟩
      by_cases hz : s = 0
      · subst hz
        have HT := Lib.hid (rtake_no A' c' ys wr HSl.out HBy.out hc' (by omega) (by rw [hf]))
        have HSB := Lib.hid (seq_bad HNE.out hf)
        clear hf
        go_wp2_with fail
        refine HT.out.mono ?_
        rintro e w1 ⟨rfl, hb1⟩
        have HB1 := Lib.hid hb1
        clear hb1
        go_wp2
        go_ret2
        exact RAll.mk (by rw [HQ.out, HSB.out, flag_app]; simp [flag]) (by rw [HQ.out, HSB.out, nums_app, nums_trues]; simp [nums]) (HO.out.keep HB1.out) (HBl.out.trans (HB1.out.mono hsz))
      · have HT := Lib.hid (rtake_yes A' c' ys wr HSl.out HBy.out hc' (by omega) x s hf hz)
        have HSG := Lib.hid (seq_good HBy.out hf hz)
        obtain ⟨-, -, -, hle, hs1, -⟩ := first_inv HBy.out hf hz
        clear hf hz
        go_wp2_with fail
        refine HT.out.mono ?_
        rintro e w1 ⟨v1, rfl, ho1, hb1⟩
        obtain ⟨A1, c1, rfl, hc1, -, hs1'⟩ := ho1.sl
        have hdl : (ys.drop s).length = ys.length - s := List.length_drop
        rw [hdl] at hc1
        have HDL := Lib.hid hdl
        have HS1 := Lib.hid ho1
        have HO1 := Lib.hid (HO.out.keep hb1)
        have HB1 := Lib.hid (HBl.out.trans (hb1.mono hsz))
        clear hb1 ho1 hs1' hdl HO HT
        go_wp2_with (at_builtin; refine wpList_append_own _ rfl _ _ 22 rfl w.heap.size 3 i0 (.int .i64 0) 1 8 Try.underlying22 HZ.out.1 HZ.out.2.1 HZ.out.2.2.1 HZ.out.2.2.2 rfl (by decide) _ _ _ rfl (HO1.out.row.alloc _) _ 1 1 [_] rfl rfl (cell_one_new _ _ _) (by simp [Value.oneCell']) (by unfold maxLen; omega) (by omega) (by have := HB1.out.size; simp; omega) ?_; intro v2 w2 hown' hgrow _)
        obtain ⟨ho', hb'⟩ := append_of HO1.out HB1.out.size hown' hgrow
        refine ⟨⟨o ++ [x], ys.drop s, A1, c1, by rw [HDL.out], by rw [HDL.out]; exact hc1, by rw [HDL.out]; simp; omega, HBy.out.drop s, ?_, ?_, ho', HB1.out.trans hb'⟩, by simp; omega⟩
        · exact OwnS.reads (base := wr.heap.size) ((HS1.out.row.alloc _).kept hgrow (own_apart HS1.out HO1.out (by decide)))
        · rw [HQ.out, HSG.out]; simp
end Go.Proofs.Ytopncdeafbpenaa
