/-
  The contracts of scene.all, at each type that it is called at.
-/
import Derived.Test.YtnpcmoeleigpoaaSmall
namespace Go.Proofs.Ytnpcmoeleigpoaa
open Go.RowKit
attribute [local go_sem ↓] Go.wp_at_zero Go.wp_at_succ

theorem all_no {α : Type} {f : α → Bool} {l : List α} {k : Nat} {u : α} (h : l[k]? = some u) (hr : f u = false) : l.all f = false := by
  rw [List.all_eq_false]
  exact ⟨u, List.mem_of_getElem? h, by rw [hr]; decide⟩
theorem all_yes {α : Type} {f : α → Bool} {l : List α} (h : ∀ (i : Nat) x, l[i]? = some x → f x = true) : l.all f = true := by
  rw [List.all_eq_true]
  intro x hx
  obtain ⟨i, hi⟩ := List.mem_iff_getElem?.1 hx
  exact h i x hi

set_option maxRecDepth 100000 in
set_option maxHeartbeats 2000000 in
theorem all26_any (f : U.V → Bool) (k : FuncId) (caps : Array Value) (eg : ∀ (args : Array Value) (w : World), (callFunc k args).run Try.prog w = .ok (.enter k args) w) (l : List (U.V)) (A : Option Addr) (c : Nat) (hl : l.length ≤ 1000) (w : World) (he : Es EV w w.heap.size A l)
    (H : ∀ x ∈ l, ∀ W, Below w.heap.size w W → Calls Try.prog k (#[.agg #[.int .i64 x.x, .int .i64 x.y, .int .i64 x.z, .int .i64 x.w, .int .i64 x.a, .int .i64 x.b, .int .i64 x.c, .int .i64 x.d]] ++ caps) W fun e w' => e = .returned (.bool (f x)) ∧ Below W.heap.size W w') :
    Calls Try.prog 26 #[.slice A l.length c, .func (.func k) #[] caps] w fun e w' => e = .returned (.bool (l.all f)) ∧ Below w.heap.size w w' := by
  have HGd := Lib.hid (fun h => all_yes (f := f) (l := l) h)
  have HBd := Lib.hid (fun (k : Nat) (u : U.V) (h : l[k]? = some u) (hr : f u = false) => all_no h hr)
  have HL := Lib.hid (fun (k : Nat) (h : k < l.length) => get_lt h)
  generalize l.all f = R at *
  obtain ⟨n, hn⟩ : ∃ n, l.length = n := ⟨_, rfl⟩
  rw [hn] at HL hl ⊢
  have HE := Lib.hid he
  have HH := Lib.hid H
  replace hn := Lib.hid hn
  clear he H
  go_enter Try.func26, Try.ntmps26
  go_wp2_with fail
  go_loopw [9] (fun i wr => ∃ j : Nat, j ≤ n ∧ i = .int .i64 j ∧ (∀ (i : Nat) x, i < j → l[i]? = some x → f x = true) ∧ Below w.heap.size w wr) (fun i _ => n - (intOf i).toNat)
  case atStart => exact ⟨0, Nat.zero_le _, rfl, fun j x h => absurd h (Nat.not_lt_zero _), Below.refl _ _⟩
  case round =>
    obtain ⟨j, hk, rfl, hin, hb⟩ := hrel
    have HB := Lib.hid hb
    have HI := Lib.hid hin
    clear hin hb
    by_cases hlt : j < n
    · obtain ⟨u, hu⟩ := HL.out j hlt
      obtain ⟨b, off, rfl, hbB, hat⟩ := HE.out.at hu
      have hc := atV (show AtE EV wr b (off + j * 8) u from hat.below HB.out hbB)
      obtain ⟨c0, c1, c2, c3, c4, c5, c6, c7⟩ := hc
      have hbw := Nat.lt_of_lt_of_le hbB HB.out.size
      have hu' := List.mem_of_getElem? hu
      have HU := Lib.hid (fun W hW => HH.out u hu' W hW)
      replace hu := Lib.hid hu
      obtain ⟨r, hr⟩ : ∃ r, f u = r := ⟨_, rfl⟩
      rw [hr] at HU
      replace hr := Lib.hid hr
      clear hat hu'
      go_wp2_with fail
      have B2 := Lib.hid (bstep HB.out HB.out.size (new_below wr (.cells #[.int .i64 u.x, .int .i64 u.y, .int .i64 u.z, .int .i64 u.w, .int .i64 u.a, .int .i64 u.b, .int .i64 u.c, .int .i64 u.d] 50)))
      with_reducible refine (HU.out _ B2.out).mono ?_
      rintro e w2 ⟨rfl, hb2⟩
      have B3 := Lib.hid (bstep B2.out B2.out.size hb2)
      clear hb2 B2 HU c0 c1 c2 c3 c4 c5 c6 c7
      cases r
      · obtain rfl : R = false := HBd.out j u hu.out hr.out
        go_wp2_with fail
        go_ret
        exact ⟨rfl, B3.out⟩
      · go_wp2_with fail
        go_roundw
        case rel =>
          refine ⟨j + 1, by omega, by go_num, fun i x hj hx => ?_, B3.out⟩
          rcases Nat.lt_or_ge i j with h | h
          · exact HI.out i x h hx
          · obtain rfl : i = j := by omega
            have h5 := hu.out
            rw [hx] at h5
            cases h5
            exact hr.out
        case measure => simp [intOf]; omega
    · obtain rfl : j = n := by omega
      obtain rfl : R = true := HGd.out fun i x hx => HI.out i x (by have := (List.getElem?_eq_some_iff.1 hx).1; rw [hn.out] at this; exact this) hx
      go_wp2_with fail
      go_ret
      exact ⟨rfl, HB.out⟩

set_option maxRecDepth 100000 in
set_option maxHeartbeats 2000000 in
theorem all28_any (f : Lo Tx → Bool) (k : FuncId) (caps : Array Value) (eg : ∀ (args : Array Value) (w : World), (callFunc k args).run Try.prog w = .ok (.enter k args) w) (l : List (Lo Tx)) (A : Option Addr) (c : Nat) (hl : l.length ≤ 1000) (w : World) (he : Es ET w w.heap.size A l)
    (H : ∀ x ∈ l, ∀ W, Below w.heap.size w W → Calls Try.prog k (#[.agg #[.int .i64 x.x.w, .int .i64 x.x.h, .slice x.A x.x.px.length x.c]] ++ caps) W fun e w' => e = .returned (.bool (f x)) ∧ Below W.heap.size W w') :
    Calls Try.prog 28 #[.slice A l.length c, .func (.func k) #[] caps] w fun e w' => e = .returned (.bool (l.all f)) ∧ Below w.heap.size w w' := by
  have HGd := Lib.hid (fun h => all_yes (f := f) (l := l) h)
  have HBd := Lib.hid (fun (k : Nat) (u : Lo Tx) (h : l[k]? = some u) (hr : f u = false) => all_no h hr)
  have HL := Lib.hid (fun (k : Nat) (h : k < l.length) => get_lt h)
  generalize l.all f = R at *
  obtain ⟨n, hn⟩ : ∃ n, l.length = n := ⟨_, rfl⟩
  rw [hn] at HL hl ⊢
  have HE := Lib.hid he
  have HH := Lib.hid H
  replace hn := Lib.hid hn
  clear he H
  go_enter Try.func28, Try.ntmps28
  go_wp2_with fail
  go_loopw [9] (fun i wr => ∃ j : Nat, j ≤ n ∧ i = .int .i64 j ∧ (∀ (i : Nat) x, i < j → l[i]? = some x → f x = true) ∧ Below w.heap.size w wr) (fun i _ => n - (intOf i).toNat)
  case atStart => exact ⟨0, Nat.zero_le _, rfl, fun j x h => absurd h (Nat.not_lt_zero _), Below.refl _ _⟩
  case round =>
    obtain ⟨j, hk, rfl, hin, hb⟩ := hrel
    have HB := Lib.hid hb
    have HI := Lib.hid hin
    clear hin hb
    by_cases hlt : j < n
    · obtain ⟨u, hu⟩ := HL.out j hlt
      obtain ⟨b, off, rfl, hbB, hat⟩ := HE.out.at hu
      have hc := atT (show AtE ET wr b (off + j * 3) u from hat.below HB.out hbB)
      obtain ⟨c0, c1, c2⟩ := hc
      have hbw := Nat.lt_of_lt_of_le hbB HB.out.size
      have hu' := List.mem_of_getElem? hu
      have HU := Lib.hid (fun W hW => HH.out u hu' W hW)
      replace hu := Lib.hid hu
      obtain ⟨r, hr⟩ : ∃ r, f u = r := ⟨_, rfl⟩
      rw [hr] at HU
      replace hr := Lib.hid hr
      clear hat hu'
      go_wp2_with fail
      have B2 := Lib.hid (bstep HB.out HB.out.size (new_below wr (.cells #[.int .i64 u.x.w, .int .i64 u.x.h, .slice u.A u.x.px.length u.c] 53)))
      with_reducible refine (HU.out _ B2.out).mono ?_
      rintro e w2 ⟨rfl, hb2⟩
      have B3 := Lib.hid (bstep B2.out B2.out.size hb2)
      clear hb2 B2 HU c0 c1 c2
      cases r
      · obtain rfl : R = false := HBd.out j u hu.out hr.out
        go_wp2_with fail
        go_ret
        exact ⟨rfl, B3.out⟩
      · go_wp2_with fail
        go_roundw
        case rel =>
          refine ⟨j + 1, by omega, by go_num, fun i x hj hx => ?_, B3.out⟩
          rcases Nat.lt_or_ge i j with h | h
          · exact HI.out i x h hx
          · obtain rfl : i = j := by omega
            have h5 := hu.out
            rw [hx] at h5
            cases h5
            exact hr.out
        case measure => simp [intOf]; omega
    · obtain rfl : j = n := by omega
      obtain rfl : R = true := HGd.out fun i x hx => HI.out i x (by have := (List.getElem?_eq_some_iff.1 hx).1; rw [hn.out] at this; exact this) hx
      go_wp2_with fail
      go_ret
      exact ⟨rfl, HB.out⟩

set_option maxRecDepth 100000 in
set_option maxHeartbeats 2000000 in
theorem all30_any (f : Lo (List C.In) → Bool) (k : FuncId) (caps : Array Value) (eg : ∀ (args : Array Value) (w : World), (callFunc k args).run Try.prog w = .ok (.enter k args) w) (l : List (Lo (List C.In))) (A : Option Addr) (c : Nat) (hl : l.length ≤ 1000) (w : World) (he : Es EP w w.heap.size A l)
    (H : ∀ x ∈ l, ∀ W, Below w.heap.size w W → Calls Try.prog k (#[.slice x.A x.x.length x.c] ++ caps) W fun e w' => e = .returned (.bool (f x)) ∧ Below W.heap.size W w') :
    Calls Try.prog 30 #[.slice A l.length c, .func (.func k) #[] caps] w fun e w' => e = .returned (.bool (l.all f)) ∧ Below w.heap.size w w' := by
  have HGd := Lib.hid (fun h => all_yes (f := f) (l := l) h)
  have HBd := Lib.hid (fun (k : Nat) (u : Lo (List C.In)) (h : l[k]? = some u) (hr : f u = false) => all_no h hr)
  have HL := Lib.hid (fun (k : Nat) (h : k < l.length) => get_lt h)
  generalize l.all f = R at *
  obtain ⟨n, hn⟩ : ∃ n, l.length = n := ⟨_, rfl⟩
  rw [hn] at HL hl ⊢
  have HE := Lib.hid he
  have HH := Lib.hid H
  replace hn := Lib.hid hn
  clear he H
  go_enter Try.func30, Try.ntmps30
  go_wp2_with fail
  go_loopw [9] (fun i wr => ∃ j : Nat, j ≤ n ∧ i = .int .i64 j ∧ (∀ (i : Nat) x, i < j → l[i]? = some x → f x = true) ∧ Below w.heap.size w wr) (fun i _ => n - (intOf i).toNat)
  case atStart => exact ⟨0, Nat.zero_le _, rfl, fun j x h => absurd h (Nat.not_lt_zero _), Below.refl _ _⟩
  case round =>
    obtain ⟨j, hk, rfl, hin, hb⟩ := hrel
    have HB := Lib.hid hb
    have HI := Lib.hid hin
    clear hin hb
    by_cases hlt : j < n
    · obtain ⟨u, hu⟩ := HL.out j hlt
      obtain ⟨b, off, rfl, hbB, hat⟩ := HE.out.at hu
      have hc := atP (show AtE EP wr b (off + j * 1) u from hat.below HB.out hbB)
      have c0 : wr.cell? ⟨b, off + j, none⟩ = some (.slice u.A u.x.length u.c) := by simpa using hc
      have hbw := Nat.lt_of_lt_of_le hbB HB.out.size
      have hu' := List.mem_of_getElem? hu
      have HU := Lib.hid (fun W hW => HH.out u hu' W hW)
      replace hu := Lib.hid hu
      obtain ⟨r, hr⟩ : ∃ r, f u = r := ⟨_, rfl⟩
      rw [hr] at HU
      replace hr := Lib.hid hr
      clear hat hu' hc
      go_wp2_with fail
      have B2 := HB
      with_reducible refine (HU.out _ B2.out).mono ?_
      rintro e w2 ⟨rfl, hb2⟩
      have B3 := Lib.hid (bstep B2.out B2.out.size hb2)
      clear hb2 B2 HU c0
      cases r
      · obtain rfl : R = false := HBd.out j u hu.out hr.out
        go_wp2_with fail
        go_ret
        exact ⟨rfl, B3.out⟩
      · go_wp2_with fail
        go_roundw
        case rel =>
          refine ⟨j + 1, by omega, by go_num, fun i x hj hx => ?_, B3.out⟩
          rcases Nat.lt_or_ge i j with h | h
          · exact HI.out i x h hx
          · obtain rfl : i = j := by omega
            have h5 := hu.out
            rw [hx] at h5
            cases h5
            exact hr.out
        case measure => simp [intOf]; omega
    · obtain rfl : j = n := by omega
      obtain rfl : R = true := HGd.out fun i x hx => HI.out i x (by have := (List.getElem?_eq_some_iff.1 hx).1; rw [hn.out] at this; exact this) hx
      go_wp2_with fail
      go_ret
      exact ⟨rfl, HB.out⟩

set_option maxRecDepth 100000 in
set_option maxHeartbeats 2000000 in
theorem all43_any (f : Lo Dr → Bool) (k : FuncId) (caps : Array Value) (eg : ∀ (args : Array Value) (w : World), (callFunc k args).run Try.prog w = .ok (.enter k args) w) (l : List (Lo Dr)) (A : Option Addr) (c : Nat) (hl : l.length ≤ 1000) (w : World) (he : Es ED w w.heap.size A l)
    (H : ∀ x ∈ l, ∀ W, Below w.heap.size w W → Calls Try.prog k (#[.agg #[.int .i64 x.x.id, .int .i64 x.x.prog, .int .i64 x.x.tex, .bool x.x.op, .slice x.A x.x.tris.length x.c]] ++ caps) W fun e w' => e = .returned (.bool (f x)) ∧ Below W.heap.size W w') :
    Calls Try.prog 43 #[.slice A l.length c, .func (.func k) #[] caps] w fun e w' => e = .returned (.bool (l.all f)) ∧ Below w.heap.size w w' := by
  have HGd := Lib.hid (fun h => all_yes (f := f) (l := l) h)
  have HBd := Lib.hid (fun (k : Nat) (u : Lo Dr) (h : l[k]? = some u) (hr : f u = false) => all_no h hr)
  have HL := Lib.hid (fun (k : Nat) (h : k < l.length) => get_lt h)
  generalize l.all f = R at *
  obtain ⟨n, hn⟩ : ∃ n, l.length = n := ⟨_, rfl⟩
  rw [hn] at HL hl ⊢
  have HE := Lib.hid he
  have HH := Lib.hid H
  replace hn := Lib.hid hn
  clear he H
  go_enter Try.func43, Try.ntmps43
  go_wp2_with fail
  go_loopw [9] (fun i wr => ∃ j : Nat, j ≤ n ∧ i = .int .i64 j ∧ (∀ (i : Nat) x, i < j → l[i]? = some x → f x = true) ∧ Below w.heap.size w wr) (fun i _ => n - (intOf i).toNat)
  case atStart => exact ⟨0, Nat.zero_le _, rfl, fun j x h => absurd h (Nat.not_lt_zero _), Below.refl _ _⟩
  case round =>
    obtain ⟨j, hk, rfl, hin, hb⟩ := hrel
    have HB := Lib.hid hb
    have HI := Lib.hid hin
    clear hin hb
    by_cases hlt : j < n
    · obtain ⟨u, hu⟩ := HL.out j hlt
      obtain ⟨b, off, rfl, hbB, hat⟩ := HE.out.at hu
      have hc := atD (show AtE ED wr b (off + j * 5) u from hat.below HB.out hbB)
      obtain ⟨c0, c1, c2, c3, c4⟩ := hc
      have hbw := Nat.lt_of_lt_of_le hbB HB.out.size
      have hu' := List.mem_of_getElem? hu
      have HU := Lib.hid (fun W hW => HH.out u hu' W hW)
      replace hu := Lib.hid hu
      obtain ⟨r, hr⟩ : ∃ r, f u = r := ⟨_, rfl⟩
      rw [hr] at HU
      replace hr := Lib.hid hr
      clear hat hu'
      go_wp2_with fail
      have B2 := Lib.hid (bstep HB.out HB.out.size (new_below wr (.cells #[.int .i64 u.x.id, .int .i64 u.x.prog, .int .i64 u.x.tex, .bool u.x.op, .slice u.A u.x.tris.length u.c] 42)))
      with_reducible refine (HU.out _ B2.out).mono ?_
      rintro e w2 ⟨rfl, hb2⟩
      have B3 := Lib.hid (bstep B2.out B2.out.size hb2)
      clear hb2 B2 HU c0 c1 c2 c3 c4
      cases r
      · obtain rfl : R = false := HBd.out j u hu.out hr.out
        go_wp2_with fail
        go_ret
        exact ⟨rfl, B3.out⟩
      · go_wp2_with fail
        go_roundw
        case rel =>
          refine ⟨j + 1, by omega, by go_num, fun i x hj hx => ?_, B3.out⟩
          rcases Nat.lt_or_ge i j with h | h
          · exact HI.out i x h hx
          · obtain rfl : i = j := by omega
            have h5 := hu.out
            rw [hx] at h5
            cases h5
            exact hr.out
        case measure => simp [intOf]; omega
    · obtain rfl : j = n := by omega
      obtain rfl : R = true := HGd.out fun i x hx => HI.out i x (by have := (List.getElem?_eq_some_iff.1 hx).1; rw [hn.out] at this; exact this) hx
      go_wp2_with fail
      go_ret
      exact ⟨rfl, HB.out⟩

set_option maxRecDepth 100000 in
set_option maxHeartbeats 2000000 in
theorem all65_any (f : Int → Bool) (k : FuncId) (caps : Array Value) (eg : ∀ (args : Array Value) (w : World), (callFunc k args).run Try.prog w = .ok (.enter k args) w) (l : List (Int)) (A : Option Addr) (c : Nat) (hl : l.length ≤ 1000) (w : World) (he : Es EN w w.heap.size A l)
    (H : ∀ x ∈ l, ∀ W, Below w.heap.size w W → Calls Try.prog k (#[.int .i64 x] ++ caps) W fun e w' => e = .returned (.bool (f x)) ∧ Below W.heap.size W w') :
    Calls Try.prog 65 #[.slice A l.length c, .func (.func k) #[] caps] w fun e w' => e = .returned (.bool (l.all f)) ∧ Below w.heap.size w w' := by
  have HGd := Lib.hid (fun h => all_yes (f := f) (l := l) h)
  have HBd := Lib.hid (fun (k : Nat) (u : Int) (h : l[k]? = some u) (hr : f u = false) => all_no h hr)
  have HL := Lib.hid (fun (k : Nat) (h : k < l.length) => get_lt h)
  generalize l.all f = R at *
  obtain ⟨n, hn⟩ : ∃ n, l.length = n := ⟨_, rfl⟩
  rw [hn] at HL hl ⊢
  have HE := Lib.hid he
  have HH := Lib.hid H
  replace hn := Lib.hid hn
  clear he H
  go_enter Try.func65, Try.ntmps65
  go_wp2_with fail
  go_loopw [9] (fun i wr => ∃ j : Nat, j ≤ n ∧ i = .int .i64 j ∧ (∀ (i : Nat) x, i < j → l[i]? = some x → f x = true) ∧ Below w.heap.size w wr) (fun i _ => n - (intOf i).toNat)
  case atStart => exact ⟨0, Nat.zero_le _, rfl, fun j x h => absurd h (Nat.not_lt_zero _), Below.refl _ _⟩
  case round =>
    obtain ⟨j, hk, rfl, hin, hb⟩ := hrel
    have HB := Lib.hid hb
    have HI := Lib.hid hin
    clear hin hb
    by_cases hlt : j < n
    · obtain ⟨u, hu⟩ := HL.out j hlt
      obtain ⟨b, off, rfl, hbB, hat⟩ := HE.out.at hu
      have hc := atN (show AtE EN wr b (off + j * 1) u from hat.below HB.out hbB)
      have c0 : wr.cell? ⟨b, off + j, none⟩ = some (.int .i64 u) := by simpa using hc
      have hbw := Nat.lt_of_lt_of_le hbB HB.out.size
      have hu' := List.mem_of_getElem? hu
      have HU := Lib.hid (fun W hW => HH.out u hu' W hW)
      replace hu := Lib.hid hu
      obtain ⟨r, hr⟩ : ∃ r, f u = r := ⟨_, rfl⟩
      rw [hr] at HU
      replace hr := Lib.hid hr
      clear hat hu' hc
      go_wp2_with fail
      have B2 := HB
      with_reducible refine (HU.out _ B2.out).mono ?_
      rintro e w2 ⟨rfl, hb2⟩
      have B3 := Lib.hid (bstep B2.out B2.out.size hb2)
      clear hb2 B2 HU c0
      cases r
      · obtain rfl : R = false := HBd.out j u hu.out hr.out
        go_wp2_with fail
        go_ret
        exact ⟨rfl, B3.out⟩
      · go_wp2_with fail
        go_roundw
        case rel =>
          refine ⟨j + 1, by omega, by go_num, fun i x hj hx => ?_, B3.out⟩
          rcases Nat.lt_or_ge i j with h | h
          · exact HI.out i x h hx
          · obtain rfl : i = j := by omega
            have h5 := hu.out
            rw [hx] at h5
            cases h5
            exact hr.out
        case measure => simp [intOf]; omega
    · obtain rfl : j = n := by omega
      obtain rfl : R = true := HGd.out fun i x hx => HI.out i x (by have := (List.getElem?_eq_some_iff.1 hx).1; rw [hn.out] at this; exact this) hx
      go_wp2_with fail
      go_ret
      exact ⟨rfl, HB.out⟩

set_option maxRecDepth 100000 in
set_option maxHeartbeats 2000000 in
theorem all68_any (f : Tr → Bool) (k : FuncId) (caps : Array Value) (eg : ∀ (args : Array Value) (w : World), (callFunc k args).run Try.prog w = .ok (.enter k args) w) (l : List (Tr)) (A : Option Addr) (c : Nat) (hl : l.length ≤ 1000) (w : World) (he : Es ER w w.heap.size A l)
    (H : ∀ x ∈ l, ∀ W, Below w.heap.size w W → Calls Try.prog k (#[.agg #[.int .i64 x.i, .int .i64 x.a, .int .i64 x.b, .int .i64 x.c]] ++ caps) W fun e w' => e = .returned (.bool (f x)) ∧ Below W.heap.size W w') :
    Calls Try.prog 68 #[.slice A l.length c, .func (.func k) #[] caps] w fun e w' => e = .returned (.bool (l.all f)) ∧ Below w.heap.size w w' := by
  have HGd := Lib.hid (fun h => all_yes (f := f) (l := l) h)
  have HBd := Lib.hid (fun (k : Nat) (u : Tr) (h : l[k]? = some u) (hr : f u = false) => all_no h hr)
  have HL := Lib.hid (fun (k : Nat) (h : k < l.length) => get_lt h)
  generalize l.all f = R at *
  obtain ⟨n, hn⟩ : ∃ n, l.length = n := ⟨_, rfl⟩
  rw [hn] at HL hl ⊢
  have HE := Lib.hid he
  have HH := Lib.hid H
  replace hn := Lib.hid hn
  clear he H
  go_enter Try.func68, Try.ntmps68
  go_wp2_with fail
  go_loopw [9] (fun i wr => ∃ j : Nat, j ≤ n ∧ i = .int .i64 j ∧ (∀ (i : Nat) x, i < j → l[i]? = some x → f x = true) ∧ Below w.heap.size w wr) (fun i _ => n - (intOf i).toNat)
  case atStart => exact ⟨0, Nat.zero_le _, rfl, fun j x h => absurd h (Nat.not_lt_zero _), Below.refl _ _⟩
  case round =>
    obtain ⟨j, hk, rfl, hin, hb⟩ := hrel
    have HB := Lib.hid hb
    have HI := Lib.hid hin
    clear hin hb
    by_cases hlt : j < n
    · obtain ⟨u, hu⟩ := HL.out j hlt
      obtain ⟨b, off, rfl, hbB, hat⟩ := HE.out.at hu
      have hc := atR (show AtE ER wr b (off + j * 4) u from hat.below HB.out hbB)
      obtain ⟨c0, c1, c2, c3⟩ := hc
      have hbw := Nat.lt_of_lt_of_le hbB HB.out.size
      have hu' := List.mem_of_getElem? hu
      have HU := Lib.hid (fun W hW => HH.out u hu' W hW)
      replace hu := Lib.hid hu
      obtain ⟨r, hr⟩ : ∃ r, f u = r := ⟨_, rfl⟩
      rw [hr] at HU
      replace hr := Lib.hid hr
      clear hat hu'
      go_wp2_with fail
      have B2 := Lib.hid (bstep HB.out HB.out.size (new_below wr (.cells #[.int .i64 u.i, .int .i64 u.a, .int .i64 u.b, .int .i64 u.c] 47)))
      with_reducible refine (HU.out _ B2.out).mono ?_
      rintro e w2 ⟨rfl, hb2⟩
      have B3 := Lib.hid (bstep B2.out B2.out.size hb2)
      clear hb2 B2 HU c0 c1 c2 c3
      cases r
      · obtain rfl : R = false := HBd.out j u hu.out hr.out
        go_wp2_with fail
        go_ret
        exact ⟨rfl, B3.out⟩
      · go_wp2_with fail
        go_roundw
        case rel =>
          refine ⟨j + 1, by omega, by go_num, fun i x hj hx => ?_, B3.out⟩
          rcases Nat.lt_or_ge i j with h | h
          · exact HI.out i x h hx
          · obtain rfl : i = j := by omega
            have h5 := hu.out
            rw [hx] at h5
            cases h5
            exact hr.out
        case measure => simp [intOf]; omega
    · obtain rfl : j = n := by omega
      obtain rfl : R = true := HGd.out fun i x hx => HI.out i x (by have := (List.getElem?_eq_some_iff.1 hx).1; rw [hn.out] at this; exact this) hx
      go_wp2_with fail
      go_ret
      exact ⟨rfl, HB.out⟩
end Go.Proofs.Ytnpcmoeleigpoaa
