/-
  The contracts of Check, Samples and Target, of the program and of the reference.
-/
import Derived.Test.YtnpcmoeleigpoaaCROne
namespace Go.Proofs.Ytnpcmoeleigpoaa.C
open Go.RowKit
attribute [local go_sem ↓] Go.wp_at_zero Go.wp_at_succ

def fine (l : List In) : Bool := (List.range l.length).all fun i => (l[i]?).all fun x => oneB x i l.length
theorem fine_iff {l : List In} : fine l = true ↔ ∀ (i : Nat) x, l[i]? = some x → oneB x i l.length = true := by
  unfold fine
  rw [List.all_eq_true]
  constructor
  · intro h i x hi
    have := h i (by rw [List.mem_range]; exact (List.getElem?_eq_some_iff.1 hi).1)
    rw [hi] at this
    simpa using this
  · intro h i _
    cases e : l[i]? with
    | none => rfl
    | some x => simpa using h i x e
def chk (l : List In) : Int := if l.length < 1 ∨ 32 < l.length then 23 else if fine l = true then 0 else 23
theorem atI {w : World} {b o : Nat} {x : In} (h : AtE EI w b o x) : w.cell? ⟨b, o, none⟩ = some (.int .u8 x.o) ∧ w.cell? ⟨b, o + 1, none⟩ = some (.int .u8 x.d) ∧ w.cell? ⟨b, o + 2, none⟩ = some (.int .u8 x.a) ∧ w.cell? ⟨b, o + 3, none⟩ = some (.int .u8 x.b) ∧ w.cell? ⟨b, o + 4, none⟩ = some (.int .i64 x.n) :=
  ⟨h 0 _ rfl, h 1 _ rfl, h 2 _ rfl, h 3 _ rfl, h 4 _ rfl⟩
theorem get_lt {l : List In} {k : Nat} (h : k < l.length) : ∃ u, l[k]? = some u := ⟨_, List.getElem?_eq_getElem h⟩
theorem chk_bad {l : List In} {k : Nat} {u : In} (h : l[k]? = some u) (hr : oneB u k l.length = false) : chk l = 23 := by
  unfold chk
  split
  · rfl
  · rw [if_neg fun hf => ?_]
    have := fine_iff.1 hf k u h
    rw [hr] at this
    cases this
theorem chk_good {l : List In} (h1 : ¬ l.length < 1) (h2 : ¬ 32 < l.length) (h : ∀ (i : Nat) x, l[i]? = some x → oneB x i l.length = true) : chk l = 0 := by
  unfold chk
  rw [if_neg (by omega), if_pos (fine_iff.2 h)]

set_option maxRecDepth 100000 in
set_option maxHeartbeats 4000000 in
theorem check_any (l : List In) (A : Option Addr) (c : Nat) (hok : ∀ x ∈ l, x.ok) (w : World) (he : Es EI w w.heap.size A l) :
    Calls Try.prog 48 #[.slice A l.length c] w fun e w' => e = .returned (.int .i64 (chk l)) ∧ Below w.heap.size w w' := by
  by_cases h1 : l.length < 1
  · have e : chk l = 23 := by unfold chk; rw [if_pos (Or.inl h1)]
    rw [e]
    generalize l.length = n at *
    have h2 : (n : Int) < 1 := by omega
    clear e h1 he
    go_enter Try.func48, Try.ntmps48
    go_wp2_with fail
    go_ret
    exact ⟨rfl, Below.refl _ _⟩
  by_cases h2 : 32 < l.length
  · have e : chk l = 23 := by unfold chk; rw [if_pos (Or.inr h2)]
    rw [e]
    generalize l.length = n at *
    have h3 : ¬ (n : Int) < 1 := by omega
    have h4 : (32 : Int) < n := by omega
    clear e h1 h2 he
    go_enter Try.func48, Try.ntmps48
    go_wp2_with fail
    go_ret
    exact ⟨rfl, Below.refl _ _⟩
  have HGd := Lib.hid (chk_good h1 h2)
  have HBd := Lib.hid (fun (k : Nat) (u : In) (h : l[k]? = some u) (hr : oneB u k l.length = false) => chk_bad h hr)
  have HL := Lib.hid (fun (k : Nat) (h : k < l.length) => get_lt h)
  generalize chk l = R at *
  obtain ⟨n, hn⟩ : ∃ n, l.length = n := ⟨_, rfl⟩
  rw [hn] at HGd HBd HL h1 h2 ⊢
  have h3 : ¬ (n : Int) < 1 := by omega
  have h4 : ¬ (32 : Int) < n := by omega
  have hn32 : n ≤ 32 := by omega
  have HE := Lib.hid he
  have HO := Lib.hid (fun x (h : x ∈ l) => hok x h)
  replace hn := Lib.hid hn
  clear h1 h2 he hok
  go_enter Try.func48, Try.ntmps48
  go_wp2_with fail
  go_loopw [15] (fun i wr => ∃ k : Nat, k ≤ n ∧ i = .int .i64 k ∧ (∀ (j : Nat) x, j < k → l[j]? = some x → oneB x j n = true) ∧ Below w.heap.size w wr) (fun i _ => n - (intOf i).toNat)
  case atStart => exact ⟨0, Nat.zero_le _, rfl, fun j x h => absurd h (Nat.not_lt_zero _), Below.refl _ _⟩
  case round =>
    obtain ⟨k, hk, rfl, hin, hb⟩ := hrel
    have HB := Lib.hid hb
    have HI := Lib.hid hin
    clear hin hb
    by_cases hlt : k < n
    · obtain ⟨u, hu⟩ := HL.out k hlt
      obtain ⟨b, off, rfl, hbB, hat⟩ := HE.out.at hu
      obtain ⟨c0, c1, c2, c3, c4⟩ := atI (show AtE EI wr b (off + k * 5) u from hat.below HB.out hbB)
      have hbw := Nat.lt_of_lt_of_le hbB HB.out.size
      have HU := Lib.hid (show ∀ w', Calls Try.prog 60 #[.agg #[.int .u8 u.o, .int .u8 u.d, .int .u8 u.a, .int .u8 u.b, .int .i64 u.n], .int .i64 k, .int .i64 n] w' fun e w'' => e = .returned (.bool (oneB u k n)) ∧ Below w'.heap.size w' w'' from fun w' => one_any u k n (HO.out u (List.mem_of_getElem? hu)) ⟨by omega, by omega⟩ ⟨by omega, by omega⟩ w')
      replace hu := Lib.hid hu
      obtain ⟨r, hr⟩ : ∃ r, oneB u k n = r := ⟨_, rfl⟩
      rw [hr] at HU
      replace hr := Lib.hid hr
      clear hat
      go_wp2_with fail
      have hs := new_below wr (inB u)
      have B2 := Lib.hid (bstep HB.out HB.out.size hs)
      clear hs
      with_reducible refine (HU.out _).mono ?_
      rintro e w2 ⟨rfl, hb2⟩
      have B3 := Lib.hid (bstep B2.out B2.out.size hb2)
      clear hb2 B2 HU c0 c1 c2 c3 c4
      cases r
      · obtain rfl : R = 23 := HBd.out k u hu.out hr.out
        go_wp2_with fail
        go_ret
        exact ⟨rfl, B3.out⟩
      · go_wp2_with fail
        go_roundw
        case rel =>
          refine ⟨k + 1, by omega, by go_num, fun j x hj hx => ?_, B3.out⟩
          rcases Nat.lt_or_ge j k with h | h
          · exact HI.out j x h hx
          · obtain rfl : j = k := by omega
            have h5 := hu.out
            rw [hx] at h5
            cases h5
            exact hr.out
        case measure => simp [intOf]; omega
    · obtain rfl : k = n := by omega
      obtain rfl : R = 0 := HGd.out fun i x hx => HI.out i x (by have := (List.getElem?_eq_some_iff.1 hx).1; rw [hn.out] at this; exact this) hx
      go_wp2_with fail
      go_ret
      exact ⟨rfl, HB.out⟩
set_option maxRecDepth 100000 in
set_option maxHeartbeats 4000000 in
theorem rcheck_any (l : List In) (A : Option Addr) (c : Nat) (hok : ∀ x ∈ l, x.ok) (w : World) (he : Es EI w w.heap.size A l) :
    Calls Try.prog 37 #[.slice A l.length c] w fun e w' => e = .returned (.int .i64 (chk l)) ∧ Below w.heap.size w w' := by
  by_cases h1 : l.length < 1
  · have e : chk l = 23 := by unfold chk; rw [if_pos (Or.inl h1)]
    rw [e]
    generalize l.length = n at *
    have h2 : (n : Int) < 1 := by omega
    clear e h1 he
    go_enter Try.func37, Try.ntmps37
    go_wp2_with fail
    go_ret
    exact ⟨rfl, Below.refl _ _⟩
  by_cases h2 : 32 < l.length
  · have e : chk l = 23 := by unfold chk; rw [if_pos (Or.inr h2)]
    rw [e]
    generalize l.length = n at *
    have h3 : ¬ (n : Int) < 1 := by omega
    have h4 : (32 : Int) < n := by omega
    clear e h1 h2 he
    go_enter Try.func37, Try.ntmps37
    go_wp2_with fail
    go_ret
    exact ⟨rfl, Below.refl _ _⟩
  have HGd := Lib.hid (chk_good h1 h2)
  have HBd := Lib.hid (fun (k : Nat) (u : In) (h : l[k]? = some u) (hr : oneB u k l.length = false) => chk_bad h hr)
  have HL := Lib.hid (fun (k : Nat) (h : k < l.length) => get_lt h)
  generalize chk l = R at *
  obtain ⟨n, hn⟩ : ∃ n, l.length = n := ⟨_, rfl⟩
  rw [hn] at HGd HBd HL h1 h2 ⊢
  have h3 : ¬ (n : Int) < 1 := by omega
  have h4 : ¬ (32 : Int) < n := by omega
  have hn32 : n ≤ 32 := by omega
  have HE := Lib.hid he
  have HO := Lib.hid (fun x (h : x ∈ l) => hok x h)
  replace hn := Lib.hid hn
  clear h1 h2 he hok
  go_enter Try.func37, Try.ntmps37
  go_wp2_with fail
  go_loopw [3] (fun i wr => ∃ k : Nat, k ≤ n ∧ i = .int .i64 k ∧ (∀ (j : Nat) x, j < k → l[j]? = some x → oneB x j n = true) ∧ Below w.heap.size w wr) (fun i _ => n - (intOf i).toNat)
  case atStart => exact ⟨0, Nat.zero_le _, rfl, fun j x h => absurd h (Nat.not_lt_zero _), Below.refl _ _⟩
  case round =>
    obtain ⟨k, hk, rfl, hin, hb⟩ := hrel
    have HB := Lib.hid hb
    have HI := Lib.hid hin
    clear hin hb
    by_cases hlt : k < n
    · obtain ⟨u, hu⟩ := HL.out k hlt
      obtain ⟨b, off, rfl, hbB, hat⟩ := HE.out.at hu
      obtain ⟨c0, c1, c2, c3, c4⟩ := atI (show AtE EI wr b (off + k * 5) u from hat.below HB.out hbB)
      have hbw := Nat.lt_of_lt_of_le hbB HB.out.size
      have HU := Lib.hid (show ∀ w', Calls Try.prog 55 #[.agg #[.int .u8 u.o, .int .u8 u.d, .int .u8 u.a, .int .u8 u.b, .int .i64 u.n], .int .i64 k, .int .i64 n] w' fun e w'' => e = .returned (.bool (oneB u k n)) ∧ Below w'.heap.size w' w'' from fun w' => rone_any u k n (HO.out u (List.mem_of_getElem? hu)) ⟨by omega, by omega⟩ ⟨by omega, by omega⟩ w')
      replace hu := Lib.hid hu
      obtain ⟨r, hr⟩ : ∃ r, oneB u k n = r := ⟨_, rfl⟩
      rw [hr] at HU
      replace hr := Lib.hid hr
      clear hat
      go_wp2_with fail
      have B2 := Lib.hid HB.out
      with_reducible refine (HU.out _).mono ?_
      rintro e w2 ⟨rfl, hb2⟩
      have B3 := Lib.hid (bstep B2.out B2.out.size hb2)
      clear hb2 B2 HU c0 c1 c2 c3 c4
      cases r
      · obtain rfl : R = 23 := HBd.out k u hu.out hr.out
        go_wp2_with fail
        go_ret
        exact ⟨rfl, B3.out⟩
      · go_wp2_with fail
        go_roundw
        case rel =>
          refine ⟨k + 1, by omega, by go_num, fun j x hj hx => ?_, B3.out⟩
          rcases Nat.lt_or_ge j k with h | h
          · exact HI.out j x h hx
          · obtain rfl : j = k := by omega
            have h5 := hu.out
            rw [hx] at h5
            cases h5
            exact hr.out
        case measure => simp [intOf]; omega
    · obtain rfl : k = n := by omega
      obtain rfl : R = 0 := HGd.out fun i x hx => HI.out i x (by have := (List.getElem?_eq_some_iff.1 hx).1; rw [hn.out] at this; exact this) hx
      go_wp2_with fail
      go_ret
      exact ⟨rfl, HB.out⟩
end Go.Proofs.Ytnpcmoeleigpoaa.C
