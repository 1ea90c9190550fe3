/-
  The contract of the reference's Fit: a program that may be, of any one.
-/
import Derived.Test.YtnpcmoeleigpoaaCFit2
import Derived.Test.YtnpcmoeleigpoaaCSmp
import Derived.Lib.MinMax
namespace Go.Proofs.Ytnpcmoeleigpoaa.C
open Go.RowKit
attribute [local go_sem ↓] Go.wp_at_zero Go.wp_at_succ

def mov : In := ⟨1, 0, 0, 0, 0⟩
/-- How many instructions Fit tells of so many. -/
def fitN (n : Nat) : Nat := min n 32
def fitAt (l : List In) (i : Nat) : In := fitI (l.getD i mov) i (fitN l.length)
def fitP (l : List In) : List In := if l.length = 0 then [mov] else (List.range (fitN l.length)).map (fitAt l)
theorem mov_ok : mov.ok := by unfold mov; constructor <;> decide
theorem getD_ok {l : List In} (h : ∀ x ∈ l, x.ok) (i : Nat) : (l.getD i mov).ok := by
  rw [List.getD_eq_getElem?_getD]
  cases e : l[i]? with
  | none => exact mov_ok
  | some c => exact h c (List.mem_of_getElem? e)
theorem fitP_len (l : List In) : 1 ≤ (fitP l).length ∧ (fitP l).length ≤ 32 := by
  unfold fitP fitN
  split
  · exact ⟨Nat.le_refl _, by decide⟩
  · simp; omega
theorem fitP_one (l : List In) : ∀ (i : Nat) x, (fitP l)[i]? = some x → oneB x i (fitP l).length = true ∧ ((∀ y ∈ l, y.ok) → x.ok) := by
  unfold fitP
  intro i x hi
  split at hi
  · rename_i h0
    rw [if_pos h0]
    match i, hi with
    | 0, hi =>
      obtain rfl : mov = x := by simpa using hi
      exact ⟨by decide, fun _ => mov_ok⟩
    | i + 1, hi => simp at hi
  · rename_i h0
    rw [if_neg h0]
    rw [List.getElem?_map] at hi
    have hil : i < fitN l.length := by
      rcases Nat.lt_or_ge i (fitN l.length) with h | h
      · exact h
      · rw [List.getElem?_eq_none (by simpa using h)] at hi; cases hi
    rw [List.getElem?_range hil] at hi
    obtain rfl : fitAt l i = x := by simpa using hi
    have hN : fitN l.length ≤ 32 := by unfold fitN; omega
    rw [List.length_map, List.length_range]
    refine ⟨fitI_one _ _ _ (by omega) (by omega), fun hok => fitI_ok _ _ _ (by omega) (by omega) (by omega)⟩
theorem fitP_ok {l : List In} (hok : ∀ y ∈ l, y.ok) : ∀ x ∈ fitP l, x.ok := by
  intro x hx
  obtain ⟨i, hi⟩ := List.getElem?_of_mem hx
  exact (fitP_one l i x hi).2 hok
theorem fitP_chk (l : List In) : chk (fitP l) = 0 := chk_good (by have := fitP_len l; omega) (by have := fitP_len l; omega) fun i x hi => (fitP_one l i x hi).1
theorem new_keep {w : World} {g : Nat} {x : Obj} (o : Obj) (h : w.heap[g]? = some x) : (w.alloc o).heap[g]? = some x := by
  rw [Below.heap_alloc _ _ _ (Array.getElem?_eq_some_iff.1 h).1]
  exact h
theorem newI_at {w : World} {u : In} {g : Nat} (hg : g = w.heap.size) : ∀ j x, (EI.cells u)[j]? = some x → (w.alloc (.cells #[.int .u8 u.o, .int .u8 u.d, .int .u8 u.a, .int .u8 u.b, .int .i64 u.n] 57)).cell? ((⟨g, 0, none⟩ : Addr).add j) = some x := by
  subst hg
  exact new_el (E := EI) w u _ rfl
theorem range_snoc (f : Nat → In) (k : Nat) : (List.range (k + 1)).map f = (List.range k).map f ++ [f k] := by rw [List.range_succ, List.map_append]; rfl
theorem ownI_new (w : World) (xs : List In) (cs : Array Value) (h : cs.toList = EI.flat xs) (hl : xs.length ≤ 1000) : OwnE EI (w.alloc (.cells cs 57)) w.heap.size (.slice (some ⟨w.heap.size, 0, none⟩) xs.length xs.length) xs := by
  have hs : cs.size = xs.length * 5 := by
    have := EI.flat_length xs
    rw [← h, Array.length_toList] at this
    exact this
  exact ⟨by rw [EI.flat_length], .inr ⟨w.heap.size, xs.length, cs, rfl, Nat.le_refl _, heap_alloc_new _ _, Nat.le_refl _, by unfold maxLen; omega, hs, by rw [h]; exact List.take_of_length_le (Nat.le_of_eq (EI.flat_length xs))⟩⟩

theorem Try.info57 : (Try.prog.info? 57).map (fun i => (i.zero, i.size, i.bytes)) = some (some (.agg #[.int .u8 0, .int .u8 0, .int .u8 0, .int .u8 0, .int .i64 0]), 5, 16) := by kernel_rfl

set_option maxRecDepth 100000 in
set_option maxHeartbeats 4000000 in
theorem Fit_any (l : List In) (A : Option Addr) (c : Nat) (hok : ∀ x ∈ l, x.ok) (w : World) (he : Es EI w w.heap.size A l) :
    Calls Try.prog 22 #[.slice A l.length c, .bool false] w (MadeE EI w.heap.size w (fitP l)) := by
  by_cases h0 : l.length = 0
  · have e : fitP l = [mov] := if_pos h0
    rw [e, h0]
    have HO := Lib.hid (ownI_new w [mov] #[.int .u8 1, .int .u8 0, .int .u8 0, .int .u8 0, .int .i64 0] rfl (by decide))
    have HB := Lib.hid (new_below w (.cells #[.int .u8 1, .int .u8 0, .int .u8 0, .int .u8 0, .int .i64 0] 57))
    go_enter Try.func22, Try.ntmps22
    go_wp2_with fail
    go_ret
    exact ⟨_, rfl, HO.out, HB.out⟩
  obtain ⟨i0, hi, hz0, hz1, hz2⟩ := info_parts Try.info57
  have HI := Lib.hid hi
  have HZ := Lib.hid (And.intro hz0 (And.intro hz1 hz2))
  clear hi hz0 hz1 hz2
  have e : fitP l = (List.range (fitN l.length)).map (fitAt l) := if_neg h0
  rw [e]
  have hmin : min (l.length : Int) 32 = (fitN l.length : Int) := by unfold fitN; omega
  have hml : fitN l.length ≤ l.length := by unfold fitN; omega
  have hm32 : fitN l.length ≤ 32 := by unfold fitN; omega
  have HFA := Lib.hid (fun (k : Nat) (u : In) (h : l[k]? = some u) => show fitAt l k = fitI u k (fitN l.length) by unfold fitAt; rw [List.getD_eq_getElem?_getD, h]; rfl)
  have HL := Lib.hid (fun (k : Nat) (h : k < l.length) => get_lt h)
  have HE := Lib.hid he
  have HK := Lib.hid (fun x (h : x ∈ l) => hok x h)
  generalize fitN l.length = m at *
  generalize l.length = n at *
  have hn0 : ((n : Int) == 0) = false := by simpa using (show ¬ (n : Int) = 0 by omega)
  have HB0 := Lib.hid (new_below w (.cells #[] 57))
  have HO0 := Lib.hid (ownE_empty (E := EI) w (Nat.le_refl w.heap.size))
  clear he hok e h0
  go_enter Try.func22, Try.ntmps22
  go_wp2_with fail
  go_loopw [6, 7] (fun b i wr => ∃ k : Nat, k ≤ m ∧ i = .int .i64 k ∧ Below w.heap.size w wr ∧ OwnE EI wr w.heap.size b ((List.range k).map (fitAt l))) (fun _ i _ => m - (intOf i).toNat)
  case atStart => exact ⟨0, Nat.zero_le _, rfl, HB0.out, HO0.out⟩
  case round =>
    obtain ⟨k, hk, rfl, hb, ho⟩ := hrel
    obtain ⟨A1, c1, rfl⟩ := ho.form
    have HB := Lib.hid hb
    have HO := Lib.hid ho
    clear hb ho
    by_cases hlt : k < m
    · obtain ⟨x, hx⟩ := HL.out k (by omega)
      obtain ⟨b, off, rfl, hbB, hat⟩ := HE.out.at hx
      obtain ⟨c0, c1', c2, c3, c4⟩ := atI (show AtE EI wr b (off + k * 5) x from hat.below HB.out hbB)
      have hbw := Nat.lt_of_lt_of_le hbB HB.out.size
      have HU := Lib.hid (fun w' => fit_any x k m (HK.out x (List.mem_of_getElem? hx)) (by omega) (by omega) (by omega) w')
      have hu := HFA.out k x hx
      obtain ⟨u, hfu⟩ : ∃ u, fitI x k m = u := ⟨_, rfl⟩
      rw [hfu] at HU hu
      have HS := Lib.hid (show (List.range (k + 1)).map (fitAt l) = (List.range k).map (fitAt l) ++ [u] by rw [range_snoc, hu])
      have hcl : ((List.range k).map (fitAt l)).length = k := by simp
      generalize (List.range k).map (fitAt l) = cs at *
      have HC := Lib.hid hcl
      have hc256 : cs.length ≤ 256 := by omega
      clear hcl hat hx hu hfu
      go_wp2_with fail
      with_reducible refine (HU.out _).mono ?_
      rintro e w2 ⟨rfl, hb2⟩
      have B2 := Lib.hid (bstep HB.out HB.out.size hb2)
      have O1 := Lib.hid (HO.out.keep hb2)
      have O2 := Lib.hid (O1.out.alloc (.cells #[.int .u8 u.o, .int .u8 u.d, .int .u8 u.a, .int .u8 u.b, .int .i64 u.n] 57))
      have hz2 : w.heap.size ≤ w2.heap.size := B2.out.size
      clear hb2 HU c0 c1' c2 c3 c4
      go_wp2_with (at_builtin; refine wpList_append_own _ rfl _ _ 54 rfl w.heap.size 57 i0 _ 5 16 Try.underlying54 HI.out HZ.out.1 HZ.out.2.1 HZ.out.2.2 (by kernel_rfl) (by decide) _ _ (EI.flat cs) rfl O2.out.row _ 1 1 (EI.cells u) rfl rfl (newI_at rfl) (EI.one _) (by unfold maxLen; omega) (by omega) (by simp; omega) ?_; intro v' w6 hown' hgrow _; obtain ⟨ho6, hb6⟩ := append_ofE (E := EI) (x := u) O1.out (by omega) hown' hgrow; obtain ⟨A2, c2', rfl⟩ := ho6.form; have O6 := Lib.hid ho6; have B6 := Lib.hid hb6; clear hown' hgrow ho6 hb6)
      go_roundw
      case rel =>
        exact ⟨k + 1, by omega, by go_num, B2.out.trans B6.out, by rw [HS.out]; have h := O6.out; rw [List.length_append] at h; exact h⟩
      case measure => simp [intOf]; omega
    · obtain rfl : k = m := by omega
      go_wp2_with fail
      go_ret
      exact ⟨_, rfl, HO.out, HB.out⟩
end Go.Proofs.Ytnpcmoeleigpoaa.C
