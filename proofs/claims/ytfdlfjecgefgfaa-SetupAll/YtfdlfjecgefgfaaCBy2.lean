/-
  The contracts of clip.own and clip.allInside.
-/
import Derived.Test.YtfdlfjecgefgfaaCBy1
namespace Go.Proofs.Ytfdlfjecgefgfaa.C
open Go.RowKit
attribute [local go_sem ↓] Go.wp_at_zero Go.wp_at_succ

theorem setRow_heap' (w : World) (g : Nat) (cur cs : Array Value) (t : TypeId) (h : w.heap[g]? = some (.cells cur t (0, 0))) : (w.setRow g cs).heap[g]? = some (.cells cs t (0, 0)) := setRow_heap w g cur cs t (0, 0) h
theorem below_setRow' {B g : Nat} {w0 w : World} (hb : Below B w0 w) (hBg : B ≤ g) (cs : Array Value) : Below B w0 (w.setRow g cs) :=
  hb.trans ⟨rfl, rfl, rfl, by simp [World.setRow], fun k hk => setRow_other w g k cs (by omega)⟩

/-- copy of all of a slice of vertices onto a row of the call's own that is as long. -/
theorem run_copy_verts (w : World) (ty : TypeId) (base B n c : Nat) (d : Value) (A : Option Addr) (ys : List Value) (xs : List V) (hn : xs.length = n) (hrow : w.ownsRow base 25 8 d n ys) (hfull : ∃ g, d = .slice (some ⟨g, 0, none⟩) n n) (hs : Vs w B A xs) :
    ∃ w', (Builtin.copy_ #[56, 56] ty #[d, .slice A n c]).run Try.prog w = .ok (goInt n) w' ∧ OwnV w' base d xs ∧ ∀ w0, Below base w0 w → Below base w0 w' := by
  obtain ⟨g, rfl⟩ := hfull
  obtain ⟨i0, hi, hz0, hz1, hz2⟩ := info_parts Try.info25
  obtain ⟨hl, ⟨h0, _⟩ | ⟨g', cap, cur, e, hb, hh, hc, hm, hsz, ht⟩⟩ := hrow
  · cases h0
  · cases e
    by_cases hne : xs = []
    · subst hne
      obtain rfl : n = 0 := by simpa using hn.symm
      refine ⟨w, ?_, ⟨rfl, .inr ⟨g, 0, cur, rfl, hb, hh, hc, hm, hsz, by simp [flat]⟩⟩, fun _ h => h⟩
      cases A <;> simp [Builtin.copy_, run_underlying Try.underlying56, sizeOf, typeInfo, hi, Builtin.lenOf, Builtin.firstCells, storeCells, loadCells, loadCellsFrom]
    · obtain ⟨b, off, rfl, _, hcell⟩ := hs.cells hne
      have hsrc : ∀ j u, (flat xs)[j]? = some u → w.cell? ((⟨b, off, none⟩ : Addr).add j) = some u := fun j u hj => by rw [addr_add]; exact hcell j u hj
      have hL := run_loadCells_list (P := Try.prog) w ⟨b, off, none⟩ (flat xs) hsrc
      have hfl : (flat xs).length = n * 8 := by rw [flat_length, hn]
      have hst := run_storeCells_at Try.prog g 0 25 (flat xs) 0 cur w hh (by omega) (flat_one xs)
      rw [hfl] at hL
      have hdrop : cur.toList.drop (n * 8) = [] := List.drop_eq_nil_of_le (by simp; omega)
      simp only [Nat.zero_add, List.take_zero, List.nil_append, hfl, hdrop, List.append_nil] at hst
      refine ⟨w.setRow g (flat xs).toArray, ?_, ⟨by rw [flat_length], .inr ⟨g, n, (flat xs).toArray, by rw [hn], hb, setRow_heap' w g cur _ 25 hh, by omega, hm, by simp [hfl], by rw [hn, ← hfl]; simp⟩⟩, fun w0 h => below_setRow' h hb _⟩
      simp [Builtin.copy_, run_underlying Try.underlying56, Builtin.lenOf, Builtin.firstCells, sizeOf, typeInfo, hi, hz1, hL, hst]

theorem wpList_copy_verts {w : World} {ops : Array Oper} {rest : List Oper} {o : Oper} {a : Act} {Q : Exit → Act → World → Prop} (hgd : o.guard = none) (d s : Operand)
    (ho : o.op = .call { callee := .builtin .copy, args := #[d, s], argTypes := #[56, 56] }) (base B n c : Nat) (dv : Value) (A : Option Addr) (ys : List Value) (xs : List V) (hd : a.eval d = dv) (hsv : a.eval s = .slice A n c)
    (hn : xs.length = n) (hrow : w.ownsRow base 25 8 dv n ys) (hfull : ∃ g, dv = .slice (some ⟨g, 0, none⟩) n n) (hs : Vs w B A xs)
    (h : ∀ w', OwnV w' base dv xs → (∀ w0, Below base w0 w → Below base w0 w') → wpList Try.prog ops Q rest (a.put o.dst (goInt n)) w') : wpList Try.prog ops Q (o :: rest) a w := by
  refine wpList_plain hgd fun K hK => ?_
  obtain ⟨w', hr, h2, h3⟩ := run_copy_verts w o.type base B n c dv A ys xs hn hrow hfull hs
  unfold Oper.wp execOp
  simp only [ho, resolve, invoke, builtin, Sem.run_bind, Sem.run_pure, Result.andThen_ok, List.map_toArray, List.map_cons, List.map_nil, hd, hsv, hr]
  exact hK _ _ (h w' h2 h3)

theorem own_any (A : Option Addr) (c : Nat) (xs : List V) (B : Nat) (w : World) (hs : Vs w B A xs) (hB : B ≤ w.heap.size) (hl : xs.length ≤ 1000) :
    Calls Try.prog 48 #[.slice A xs.length c] w (MadeV w.heap.size w xs) := by
  obtain ⟨i0, hi, hz0, hz1, hz2⟩ := info_parts Try.info25
  have HI := Lib.hid hi
  have HZ := Lib.hid (And.intro hz0 (And.intro hz1 hz2))
  clear hi hz0 hz1 hz2
  have HS := Lib.hid hs
  clear hs
  generalize hn : xs.length = n at *
  have HN := Lib.hid hn
  clear hn
  obtain ⟨w1, hmk, hown, hgrow⟩ := run_make_full (P := Try.prog) w w.heap.size 56 25 i0 _ 8 Try.underlying56 HI.out HZ.out.1 HZ.out.2.1 .i64 .i64 n (by rw [HZ.out.2.2]; omega) (by unfold maxLen; omega) (Nat.le_refl _)
  have hb1 : Below w.heap.size w w1 := (Below.refl _ _).grown hgrow (Nat.le_refl _) (fun j e => by cases e)
  obtain ⟨w2, hcp, ho, hb⟩ := run_copy_verts w1 3 w.heap.size B n c _ A _ xs HN.out hown ⟨_, rfl⟩ (HS.out.below (hb1.mono hB))
  have HO2 := Lib.hid ho
  have H2 := Lib.hid (hb w hb1)
  clear ho hb hown hgrow hb1
  go_enter Try.func48, Try.ntmps48
  go_wp2
  go_ret
  exact ⟨_, rfl, HO2.out, H2.out⟩

set_option maxHeartbeats 1000000 in
theorem all_any (p : Int) (A : Option Addr) (c : Nat) (xs : List V) (B : Nat) (w : World) (hs : Vs w B A xs) (hB : B ≤ w.heap.size) (hl : xs.length ≤ 1000) (hm : ∀ v ∈ xs, v.sm) (b : Bool) (hb : decide (∀ v ∈ xs, 0 ≤ dist p v) = b) :
    Calls Try.prog 47 #[.int .i64 p, .slice A xs.length c] w fun e w' => e = .returned (.bool b) ∧ Below w.heap.size w w' := by
  have HS := Lib.hid hs
  have HM := Lib.hid hm
  have HB := Lib.hid hb
  clear hs hm hb
  generalize hn : xs.length = n at *
  have HN := Lib.hid hn
  clear hn
  go_enter Try.func47, Try.ntmps47
  go_wp2
  go_loopw [9] (fun i wr => ∃ k : Nat, k ≤ n ∧ i = .int .i64 k ∧ (∀ v ∈ xs.take k, 0 ≤ dist p v) ∧ Below w.heap.size w wr) (fun i _ => n - (intOf i).toNat)
  case atStart => exact ⟨0, Nat.zero_le _, rfl, by simp, Below.refl _ _⟩
  case round =>
    obtain ⟨k, hk, rfl, hin, hbel⟩ := hrel
    have HK := Lib.hid hin
    have HBE := Lib.hid hbel
    clear hin hbel
    by_cases hlt : k < n
    · obtain ⟨b', off, rfl, hbB, hcell⟩ := HS.out.open (k := k) (by rw [HN.out]; exact hlt)
      obtain ⟨u, hu, h8⟩ := hcell k (by rw [HN.out]; exact hlt)
      have hus : u.sm := HM.out u (List.mem_of_getElem? hu)
      have HU := Lib.hid hu
      have hz := HBE.out.size
      obtain ⟨e0, e1, e2, e3, e4, e5, e6, e7⟩ := (h8.below (HBE.out.mono hB) hbB)
      clear hcell hu h8
      by_cases hi : 0 ≤ dist p u
      · have IN := Lib.hid (inside_any p u hus true (by simpa using hi))
        have HI := Lib.hid hi
        clear hi hus
        go_wp2_with fail
        with_reducible refine (IN.out _).mono ?_
        rintro e w2 ⟨rfl, hb2⟩
        have H2 := Lib.hid (bstep (HBE.out.alloc HBE.out.size _) (by simp; omega) hb2)
        clear hb2 e0 e1 e2 e3 e4 e5 e6 e7
        go_wp2
        go_roundw
        case rel =>
          refine ⟨k + 1, by omega, by go_num, ?_, H2.out⟩
          rw [List.take_add_one, HU.out]
          intro v hv
          rcases List.mem_append.1 hv with h | h
          · exact HK.out v h
          · simp at h; subst h; exact HI.out
        case measure => simp [intOf]; omega
      · have IN := Lib.hid (inside_any p u hus false (by simpa using hi))
        have HI := Lib.hid hi
        clear hi hus
        go_wp2_with fail
        with_reducible refine (IN.out _).mono ?_
        rintro e w2 ⟨rfl, hb2⟩
        have H2 := Lib.hid (bstep (HBE.out.alloc HBE.out.size _) (by simp; omega) hb2)
        clear hb2 e0 e1 e2 e3 e4 e5 e6 e7
        go_wp2
        go_ret
        refine ⟨?_, H2.out⟩
        rw [← HB.out, decide_eq_false fun h => by have h1 := h u (List.mem_of_getElem? HU.out); have h2 := HI.out; omega]
        rfl
    · go_wp2
      go_ret
      refine ⟨?_, HBE.out⟩
      have e : xs.take k = xs := List.take_of_length_le (by rw [HN.out]; omega)
      have h := HK.out
      rw [e] at h
      rw [← HB.out, decide_eq_true h]
      rfl
end Go.Proofs.Ytfdlfjecgefgfaa.C
