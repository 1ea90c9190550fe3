/-
  The contract of the reference's Same.
-/
import Derived.Test.YthehpfepklmoiaaPs
namespace Go.Proofs.Ythehpfepklmoiaa
open Go.RowKit
attribute [local go_sem ↓] Go.wp_at_zero Go.wp_at_succ
attribute [local go_sem high] neqP
attribute [local go_sem] guardP

set_option maxHeartbeats 1000000 in
theorem same_any (A A' : Option Addr) (c c' : Nat) (xs ys : List P) (B B' : Nat) (w : World) (hs : Ps w B A xs) (hs' : Ps w B' A' ys) (hl : xs.length ≤ 100000) (b : Bool) (hb : decide (xs = ys) = b) :
    Calls Try.prog 15 #[.slice A xs.length c, .slice A' ys.length c'] w fun e w' => e = .returned (.bool b) ∧ Below w.heap.size w w' := by
  have HS := Lib.hid hs.sharp
  have HS' := Lib.hid hs'.sharp
  have HB := Lib.hid hb
  clear hs hs' hb
  generalize hn : xs.length = n at *
  generalize hn' : ys.length = n' at *
  have HN := Lib.hid hn
  have HN' := Lib.hid hn'
  clear hn hn'
  by_cases hnn : n = n'
  · subst hnn
    go_enter Try.func15, Try.ntmps15
    go_wp2
    go_loopw [5] (fun i wr => ∃ k : Nat, k ≤ n ∧ i = .int .i64 k ∧ xs.take k = ys.take k ∧ Below w.heap.size w wr) (fun i _ => n - (intOf i).toNat)
    case atStart => exact ⟨0, Nat.zero_le _, rfl, by simp, Below.refl _ _⟩
    case round =>
      obtain ⟨k, hk, rfl, hin, hbel⟩ := hrel
      have HK := Lib.hid hin
      have HBE := Lib.hid hbel
      clear hin hbel
      by_cases hlt : k < n
      · obtain ⟨b1, off, rfl, hbB, hcell⟩ := HS.out.open (k := k) (by rw [HN.out]; exact hlt)
        obtain ⟨b2, off', rfl, hbB', hcell'⟩ := HS'.out.open (k := k) (by rw [HN'.out]; exact hlt)
        obtain ⟨u, hu, h8⟩ := hcell k (by rw [HN.out]; exact hlt)
        obtain ⟨t, ht, t8⟩ := hcell' k (by rw [HN'.out]; exact hlt)
        have HU := Lib.hid hu
        have HT := Lib.hid ht
        obtain ⟨e0, e1, e2, e3, e4, e5, e6⟩ := h8.below HBE.out hbB
        obtain ⟨f0, f1, f2, f3, f4, f5, f6⟩ := t8.below HBE.out hbB'
        clear hcell hu h8 hcell' ht t8
        go_wp2
        go_region
        go_wp2
        · rename_i hne
          go_ret
          refine ⟨?_, HBE.out.drew⟩
          have h1 : xs ≠ ys := fun e => by
            have h2 := HU.out
            rw [e, HT.out] at h2
            have h3 : t = u := by simpa using h2
            subst h3
            rw [sameP_self] at hne
            cases hne
          rw [← HB.out, decide_eq_false h1]
          rfl
        · rename_i heq
          go_roundw
          case rel =>
            refine ⟨k + 1, by omega, by go_num, ?_, HBE.out.drew⟩
            have h3 : u = t := by
              cases hq : sameP u t
              · rw [hq] at heq; exact absurd heq (by decide)
              · simpa [sameP] using hq
            rw [List.take_add_one, List.take_add_one, HU.out, HT.out, HK.out, h3]
          case measure => simp [intOf]; omega
      · go_wp2
        go_ret
        refine ⟨?_, HBE.out⟩
        have e : xs.take k = xs := List.take_of_length_le (by rw [HN.out]; omega)
        have e' : ys.take k = ys := List.take_of_length_le (by rw [HN'.out]; omega)
        have h := HK.out
        rw [e, e'] at h
        rw [← HB.out, decide_eq_true h]
        rfl
  · have e : b = false := by
      rw [← HB.out]
      exact decide_eq_false fun e => hnn (by rw [← HN.out, ← HN'.out, e])
    subst e
    go_enter Try.func15, Try.ntmps15
    go_wp2
    go_ret
    exact ⟨rfl, Below.refl _ _⟩
end Go.Proofs.Ythehpfepklmoiaa
