/-
  The contracts of Samples and Target, of the program and of the reference; the statements' few.
-/
import Derived.Test.YtnpcmoeleigpoaaCChk
namespace Go.Proofs.Ytnpcmoeleigpoaa.C
open Go.RowKit
attribute [local go_sem ↓] Go.wp_at_zero Go.wp_at_succ

/-- An instruction that asks for a picture. -/
def tex (x : In) : Bool := decide (x.o = 13 ∨ x.o = 14)
theorem us_tex (o : Int) : (us o = 15 ↔ o = 13 ∨ o = 14) ∧ (us o = 0 ∨ us o = 1 ∨ us o = 2 ∨ us o = 3 ∨ us o = 7 ∨ us o = 15) := by
  unfold us
  split
  · omega
  · split
    · omega
    · split
      · omega
      · split
        · omega
        · split
          · omega
          · omega
theorem any_hit {l : List In} {k : Nat} {u : In} (h : l[k]? = some u) (ht : tex u = true) : l.any tex = true := List.any_eq_true.2 ⟨u, List.mem_of_getElem? h, ht⟩
theorem any_none {l : List In} (h : ∀ (i : Nat) x, l[i]? = some x → tex x = false) : l.any tex = false := by
  rw [List.any_eq_false]
  intro x hx
  obtain ⟨i, hi⟩ := List.getElem?_of_mem hx
  rw [h i x hi]
  simp

set_option maxRecDepth 100000 in
set_option maxHeartbeats 4000000 in
theorem samples_any (l : List In) (A : Option Addr) (c : Nat) (hlen : l.length ≤ 1000) (hok : ∀ x ∈ l, x.ok) (w : World) (he : Es EI w w.heap.size A l) :
    Calls Try.prog 73 #[.slice A l.length c] w fun e w' => e = .returned (.bool (l.any tex)) ∧ Below w.heap.size w w' := by
  have HGd := Lib.hid (any_none (l := l))
  have HBd := Lib.hid (fun (k : Nat) (u : In) (h : l[k]? = some u) (hr : tex u = true) => any_hit h hr)
  have HL := Lib.hid (fun (k : Nat) (h : k < l.length) => get_lt h)
  generalize l.any tex = R at *
  obtain ⟨n, hn⟩ : ∃ n, l.length = n := ⟨_, rfl⟩
  rw [hn] at HL hlen ⊢
  have HE := Lib.hid he
  have HO := Lib.hid (fun x (h : x ∈ l) => hok x h)
  replace hn := Lib.hid hn
  clear he hok
  go_enter Try.func73, Try.ntmps73
  go_wp2_with fail
  go_loopw [7] (fun i wr => ∃ k : Nat, k ≤ n ∧ i = .int .i64 k ∧ (∀ (j : Nat) x, j < k → l[j]? = some x → tex x = false) ∧ Below w.heap.size w wr) (fun i _ => n - (intOf i).toNat)
  case atStart => exact ⟨0, Nat.zero_le _, rfl, fun j x h => absurd h (Nat.not_lt_zero _), Below.refl _ _⟩
  case round =>
    obtain ⟨k, hk, rfl, hin, hb⟩ := hrel
    have HB := Lib.hid hb
    have HI := Lib.hid hin
    clear hin hb
    by_cases hlt : k < n
    · obtain ⟨u, hu⟩ := HL.out k hlt
      obtain ⟨b, off, rfl, hbB, hat⟩ := HE.out.at hu
      obtain ⟨c0, c1, c2, c3, c4⟩ := atI (show AtE EI wr b (off + k * 5) u from hat.below HB.out hbB)
      have hbw := Nat.lt_of_lt_of_le hbB HB.out.size
      have HU := Lib.hid (fun w' => uses_any u.o (HO.out u (List.mem_of_getElem? hu)).o.1 w')
      have B2 := Lib.hid (bstep HB.out HB.out.size (new_below wr (inB u)))
      have hT := Lib.hid (us_tex u.o)
      replace hu := Lib.hid hu
      generalize us u.o = U at *
      clear hat
      go_wp2_with fail
      with_reducible refine (HU.out _).mono ?_
      rintro e w2 ⟨rfl, rfl⟩
      clear HU c0 c1 c2 c3 c4
      obtain ⟨ht, hs⟩ := hT.out
      clear hT
      rcases hs with rfl | rfl | rfl | rfl | rfl | rfl
      case inr.inr.inr.inr.inr =>
        obtain rfl : R = true := HBd.out k u hu.out (decide_eq_true (ht.1 rfl))
        clear ht
        go_wp2_with fail
        go_ret
        exact ⟨rfl, B2.out⟩
      all_goals
        replace ht := Lib.hid (show tex u = false from decide_eq_false (fun h => by have := ht.2 h; omega))
        go_wp2_with fail
        go_roundw
        case rel =>
          refine ⟨k + 1, by omega, by go_num, fun j x hj hx => ?_, B2.out⟩
          rcases Nat.lt_or_ge j k with h | h
          · exact HI.out j x h hx
          · obtain rfl : j = k := by omega
            have h5 := hu.out
            rw [hx] at h5
            cases h5
            exact ht.out
        case measure => simp [intOf]; omega
    · obtain rfl : k = n := by omega
      obtain rfl : R = false := HGd.out fun i x hx => HI.out i x (by have := (List.getElem?_eq_some_iff.1 hx).1; rw [hn.out] at this; exact this) hx
      go_wp2_with fail
      go_ret
      exact ⟨rfl, HB.out⟩

set_option maxRecDepth 100000 in
set_option maxHeartbeats 4000000 in
theorem rsamples_any (l : List In) (A : Option Addr) (c : Nat) (hlen : l.length ≤ 1000) (w : World) (he : Es EI w w.heap.size A l) :
    Calls Try.prog 56 #[.slice A l.length c] w fun e w' => e = .returned (.bool (l.any tex)) ∧ Below w.heap.size w w' := by
  have HGd := Lib.hid (any_none (l := l))
  have HBd := Lib.hid (fun (k : Nat) (u : In) (h : l[k]? = some u) (hr : tex u = true) => any_hit h hr)
  have HL := Lib.hid (fun (k : Nat) (h : k < l.length) => get_lt h)
  generalize l.any tex = R at *
  obtain ⟨n, hn⟩ : ∃ n, l.length = n := ⟨_, rfl⟩
  rw [hn] at HL hlen ⊢
  have HE := Lib.hid he
  replace hn := Lib.hid hn
  clear he
  go_enter Try.func56, Try.ntmps56
  go_wp2_with fail
  go_loopw [3] (fun i wr => ∃ k : Nat, k ≤ n ∧ i = .int .i64 k ∧ (∀ (j : Nat) x, j < k → l[j]? = some x → tex x = false) ∧ Below w.heap.size w wr) (fun i _ => n - (intOf i).toNat)
  case atStart => exact ⟨0, Nat.zero_le _, rfl, fun j x h => absurd h (Nat.not_lt_zero _), Below.refl _ _⟩
  case round =>
    obtain ⟨k, hk, rfl, hin, hb⟩ := hrel
    have HB := Lib.hid hb
    have HI := Lib.hid hin
    clear hin hb
    by_cases hlt : k < n
    · obtain ⟨u, hu⟩ := HL.out k hlt
      obtain ⟨b, off, rfl, hbB, hat⟩ := HE.out.at hu
      obtain ⟨c0, c1, c2, c3, c4⟩ := atI (show AtE EI wr b (off + k * 5) u from hat.below HB.out hbB)
      have hbw := Nat.lt_of_lt_of_le hbB HB.out.size
      replace hu := Lib.hid hu
      clear hat c1 c2 c3 c4
      by_cases k13 : u.o = 13
      · obtain rfl : R = true := HBd.out k u hu.out (decide_eq_true (Or.inl k13))
        have f13 : (u.o == 13) = true := by simpa using k13
        go_wp2_with fail
        go_ret
        exact ⟨rfl, HB.out⟩
      have f13 : (u.o == 13) = false := by simpa using k13
      by_cases k14 : u.o = 14
      · obtain rfl : R = true := HBd.out k u hu.out (decide_eq_true (Or.inr k14))
        have f14 : (u.o == 14) = true := by simpa using k14
        go_wp2_with fail
        go_ret
        exact ⟨rfl, HB.out⟩
      have f14 : (u.o == 14) = false := by simpa using k14
      have ht := Lib.hid (show tex u = false from decide_eq_false (by omega))
      go_wp2_with fail
      go_roundw
      case rel =>
        refine ⟨k + 1, by omega, by go_num, fun j x hj hx => ?_, HB.out⟩
        rcases Nat.lt_or_ge j k with h | h
        · exact HI.out j x h hx
        · obtain rfl : j = k := by omega
          have h5 := hu.out
          rw [hx] at h5
          cases h5
          exact ht.out
      case measure => simp [intOf]; omega
    · obtain rfl : k = n := by omega
      obtain rfl : R = false := HGd.out fun i x hx => HI.out i x (by have := (List.getElem?_eq_some_iff.1 hx).1; rw [hn.out] at this; exact this) hx
      go_wp2_with fail
      go_ret
      exact ⟨rfl, HB.out⟩

theorem Es.take {w : World} {B : Nat} {A : Option Addr} {xs : List In} (h : Es EI w B A xs) (k : Nat) : Es EI w B A (xs.take k) := fun hne => by
  obtain ⟨b, off, e, hb, hc⟩ := h (by rintro rfl; simp at hne)
  refine ⟨b, off, e, hb, fun j u hj => hc j u ?_⟩
  rw [List.getElem?_take] at hj
  split at hj
  · exact hj
  · cases hj
end Go.Proofs.Ytnpcmoeleigpoaa.C
