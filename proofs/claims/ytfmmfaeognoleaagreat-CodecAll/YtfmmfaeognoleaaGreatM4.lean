/-
  The contracts of scene.all, at each type that it is called at.
-/
import Derived.Test.YtfmmfaeognoleaaGreatM3
import Derived.Maps.OwnSet
namespace Go.Proofs.YtfmmfaeognoleaaGreat
open Go.RowKit
attribute [local go_sem ↓] Go.wp_at_zero Go.wp_at_succ

theorem all_no {α : Type} {f : α → Bool} {l : List α} {k : Nat} {u : α} (h : l[k]? = some u) (hr : f u = false) : l.all f = false := by
  rw [List.all_eq_false]
  exact ⟨u, List.mem_of_getElem? h, by rw [hr]; decide⟩
theorem all_yes {α : Type} {f : α → Bool} {l : List α} (h : ∀ (i : Nat) x, l[i]? = some x → f x = true) : l.all f = true := by
  rw [List.all_eq_true]
  intro x hx
  obtain ⟨i, hi⟩ := List.mem_iff_getElem?.1 hx
  exact h i x hi

set_option maxRecDepth 100000 in
set_option maxHeartbeats 2000000 in
theorem all26_any (f : U.V → Bool) (k : FuncId) (caps : Array Value) (eg : ∀ (args : Array Value) (w : World), (callFunc k args).run Tryz.prog w = .ok (.enter k args) w) (l : List (U.V)) (A : Option Addr) (c : Nat) (hl : l.length ≤ 100000) (w : World) (he : Es EV w w.heap.size A l)
    (H : ∀ x ∈ l, ∀ W, Below w.heap.size w W → Calls Tryz.prog k (#[.agg #[.int .i64 x.x, .int .i64 x.y, .int .i64 x.z, .int .i64 x.w, .int .i64 x.a, .int .i64 x.b, .int .i64 x.c, .int .i64 x.d]] ++ caps) W fun e w' => e = .returned (.bool (f x)) ∧ Below W.heap.size W w') :
    Calls Tryz.prog 45 #[.slice A l.length c, .func (.func k) #[] caps] w fun e w' => e = .returned (.bool (l.all f)) ∧ Below w.heap.size w w' := by
  have HGd := Lib.hid (fun h => all_yes (f := f) (l := l) h)
  have HBd := Lib.hid (fun (k : Nat) (u : U.V) (h : l[k]? = some u) (hr : f u = false) => all_no h hr)
  have HL := Lib.hid (fun (k : Nat) (h : k < l.length) => get_lt h)
  generalize l.all f = R at *
  obtain ⟨n, hn⟩ : ∃ n, l.length = n := ⟨_, rfl⟩
  rw [hn] at HL hl ⊢
  have HE := Lib.hid he
  have HH := Lib.hid H
  replace hn := Lib.hid hn
  clear he H
  go_enter Tryz.func45, Tryz.ntmps45
  go_wp2_with fail
  go_loopw [9] (fun i wr => ∃ j : Nat, j ≤ n ∧ i = .int .i64 j ∧ (∀ (i : Nat) x, i < j → l[i]? = some x → f x = true) ∧ Below w.heap.size w wr) (fun i _ => n - (intOf i).toNat)
  case atStart => exact ⟨0, Nat.zero_le _, rfl, fun j x h => absurd h (Nat.not_lt_zero _), Below.refl _ _⟩
  case round =>
    obtain ⟨j, hk, rfl, hin, hb⟩ := hrel
    have HB := Lib.hid hb
    have HI := Lib.hid hin
    clear hin hb
    by_cases hlt : j < n
    · obtain ⟨u, hu⟩ := HL.out j hlt
      obtain ⟨b, off, rfl, hbB, hat⟩ := HE.out.at hu
      have hc := atV (show AtE EV wr b (off + j * 8) u from hat.below HB.out hbB)
      obtain ⟨c0, c1, c2, c3, c4, c5, c6, c7⟩ := hc
      have hbw := Nat.lt_of_lt_of_le hbB HB.out.size
      have hu' := List.mem_of_getElem? hu
      have HU := Lib.hid (fun W hW => HH.out u hu' W hW)
      replace hu := Lib.hid hu
      obtain ⟨r, hr⟩ : ∃ r, f u = r := ⟨_, rfl⟩
      rw [hr] at HU
      replace hr := Lib.hid hr
      clear hat hu'
      go_wp2_with fail
      have B2 := Lib.hid (bstep HB.out HB.out.size (new_below wr (.cells #[.int .i64 u.x, .int .i64 u.y, .int .i64 u.z, .int .i64 u.w, .int .i64 u.a, .int .i64 u.b, .int .i64 u.c, .int .i64 u.d] 74)))
      with_reducible refine (HU.out _ B2.out).mono ?_
      rintro e w2 ⟨rfl, hb2⟩
      have B3 := Lib.hid (bstep B2.out B2.out.size hb2)
      clear hb2 B2 HU c0 c1 c2 c3 c4 c5 c6 c7
      cases r
      · obtain rfl : R = false := HBd.out j u hu.out hr.out
        go_wp2_with fail
        go_ret
        exact ⟨rfl, B3.out⟩
      · go_wp2_with fail
        go_roundw
        case rel =>
          refine ⟨j + 1, by omega, by go_num, fun i x hj hx => ?_, B3.out⟩
          rcases Nat.lt_or_ge i j with h | h
          · exact HI.out i x h hx
          · obtain rfl : i = j := by omega
            have h5 := hu.out
            rw [hx] at h5
            cases h5
            exact hr.out
        case measure => simp [intOf]; omega
    · obtain rfl : j = n := by omega
      obtain rfl : R = true := HGd.out fun i x hx => HI.out i x (by have := (List.getElem?_eq_some_iff.1 hx).1; rw [hn.out] at this; exact this) hx
      go_wp2_with fail
      go_ret
      exact ⟨rfl, HB.out⟩

set_option maxRecDepth 100000 in
set_option maxHeartbeats 2000000 in
theorem all28_any (f : Lo Tx → Bool) (k : FuncId) (caps : Array Value) (eg : ∀ (args : Array Value) (w : World), (callFunc k args).run Tryz.prog w = .ok (.enter k args) w) (l : List (Lo Tx)) (A : Option Addr) (c : Nat) (hl : l.length ≤ 100000) (w : World) (he : Es ET w w.heap.size A l)
    (H : ∀ x ∈ l, ∀ W, Below w.heap.size w W → Calls Tryz.prog k (#[.agg #[.int .i64 x.x.w, .int .i64 x.x.h, .slice x.A x.x.px.length x.c]] ++ caps) W fun e w' => e = .returned (.bool (f x)) ∧ Below W.heap.size W w') :
    Calls Tryz.prog 47 #[.slice A l.length c, .func (.func k) #[] caps] w fun e w' => e = .returned (.bool (l.all f)) ∧ Below w.heap.size w w' := by
  have HGd := Lib.hid (fun h => all_yes (f := f) (l := l) h)
  have HBd := Lib.hid (fun (k : Nat) (u : Lo Tx) (h : l[k]? = some u) (hr : f u = false) => all_no h hr)
  have HL := Lib.hid (fun (k : Nat) (h : k < l.length) => get_lt h)
  generalize l.all f = R at *
  obtain ⟨n, hn⟩ : ∃ n, l.length = n := ⟨_, rfl⟩
  rw [hn] at HL hl ⊢
  have HE := Lib.hid he
  have HH := Lib.hid H
  replace hn := Lib.hid hn
  clear he H
  go_enter Tryz.func47, Tryz.ntmps47
  go_wp2_with fail
  go_loopw [9] (fun i wr => ∃ j : Nat, j ≤ n ∧ i = .int .i64 j ∧ (∀ (i : Nat) x, i < j → l[i]? = some x → f x = true) ∧ Below w.heap.size w wr) (fun i _ => n - (intOf i).toNat)
  case atStart => exact ⟨0, Nat.zero_le _, rfl, fun j x h => absurd h (Nat.not_lt_zero _), Below.refl _ _⟩
  case round =>
    obtain ⟨j, hk, rfl, hin, hb⟩ := hrel
    have HB := Lib.hid hb
    have HI := Lib.hid hin
    clear hin hb
    by_cases hlt : j < n
    · obtain ⟨u, hu⟩ := HL.out j hlt
      obtain ⟨b, off, rfl, hbB, hat⟩ := HE.out.at hu
      have hc := atT (show AtE ET wr b (off + j * 3) u from hat.below HB.out hbB)
      obtain ⟨c0, c1, c2⟩ := hc
      have hbw := Nat.lt_of_lt_of_le hbB HB.out.size
      have hu' := List.mem_of_getElem? hu
      have HU := Lib.hid (fun W hW => HH.out u hu' W hW)
      replace hu := Lib.hid hu
      obtain ⟨r, hr⟩ : ∃ r, f u = r := ⟨_, rfl⟩
      rw [hr] at HU
      replace hr := Lib.hid hr
      clear hat hu'
      go_wp2_with fail
      have B2 := Lib.hid (bstep HB.out HB.out.size (new_below wr (.cells #[.int .i64 u.x.w, .int .i64 u.x.h, .slice u.A u.x.px.length u.c] 47)))
      with_reducible refine (HU.out _ B2.out).mono ?_
      rintro e w2 ⟨rfl, hb2⟩
      have B3 := Lib.hid (bstep B2.out B2.out.size hb2)
      clear hb2 B2 HU c0 c1 c2
      cases r
      · obtain rfl : R = false := HBd.out j u hu.out hr.out
        go_wp2_with fail
        go_ret
        exact ⟨rfl, B3.out⟩
      · go_wp2_with fail
        go_roundw
        case rel =>
          refine ⟨j + 1, by omega, by go_num, fun i x hj hx => ?_, B3.out⟩
          rcases Nat.lt_or_ge i j with h | h
          · exact HI.out i x h hx
          · obtain rfl : i = j := by omega
            have h5 := hu.out
            rw [hx] at h5
            cases h5
            exact hr.out
        case measure => simp [intOf]; omega
    · obtain rfl : j = n := by omega
      obtain rfl : R = true := HGd.out fun i x hx => HI.out i x (by have := (List.getElem?_eq_some_iff.1 hx).1; rw [hn.out] at this; exact this) hx
      go_wp2_with fail
      go_ret
      exact ⟨rfl, HB.out⟩

set_option maxRecDepth 100000 in
set_option maxHeartbeats 2000000 in
theorem all30_any (f : Lo (List C.In) → Bool) (k : FuncId) (caps : Array Value) (eg : ∀ (args : Array Value) (w : World), (callFunc k args).run Tryz.prog w = .ok (.enter k args) w) (l : List (Lo (List C.In))) (A : Option Addr) (c : Nat) (hl : l.length ≤ 100000) (w : World) (he : Es EP w w.heap.size A l)
    (H : ∀ x ∈ l, ∀ W, Below w.heap.size w W → Calls Tryz.prog k (#[.slice x.A x.x.length x.c] ++ caps) W fun e w' => e = .returned (.bool (f x)) ∧ Below W.heap.size W w') :
    Calls Tryz.prog 49 #[.slice A l.length c, .func (.func k) #[] caps] w fun e w' => e = .returned (.bool (l.all f)) ∧ Below w.heap.size w w' := by
  have HGd := Lib.hid (fun h => all_yes (f := f) (l := l) h)
  have HBd := Lib.hid (fun (k : Nat) (u : Lo (List C.In)) (h : l[k]? = some u) (hr : f u = false) => all_no h hr)
  have HL := Lib.hid (fun (k : Nat) (h : k < l.length) => get_lt h)
  generalize l.all f = R at *
  obtain ⟨n, hn⟩ : ∃ n, l.length = n := ⟨_, rfl⟩
  rw [hn] at HL hl ⊢
  have HE := Lib.hid he
  have HH := Lib.hid H
  replace hn := Lib.hid hn
  clear he H
  go_enter Tryz.func49, Tryz.ntmps49
  go_wp2_with fail
  go_loopw [9] (fun i wr => ∃ j : Nat, j ≤ n ∧ i = .int .i64 j ∧ (∀ (i : Nat) x, i < j → l[i]? = some x → f x = true) ∧ Below w.heap.size w wr) (fun i _ => n - (intOf i).toNat)
  case atStart => exact ⟨0, Nat.zero_le _, rfl, fun j x h => absurd h (Nat.not_lt_zero _), Below.refl _ _⟩
  case round =>
    obtain ⟨j, hk, rfl, hin, hb⟩ := hrel
    have HB := Lib.hid hb
    have HI := Lib.hid hin
    clear hin hb
    by_cases hlt : j < n
    · obtain ⟨u, hu⟩ := HL.out j hlt
      obtain ⟨b, off, rfl, hbB, hat⟩ := HE.out.at hu
      have hc := atP (show AtE EP wr b (off + j * 1) u from hat.below HB.out hbB)
      have c0 : wr.cell? ⟨b, off + j, none⟩ = some (.slice u.A u.x.length u.c) := by simpa using hc
      have hbw := Nat.lt_of_lt_of_le hbB HB.out.size
      have hu' := List.mem_of_getElem? hu
      have HU := Lib.hid (fun W hW => HH.out u hu' W hW)
      replace hu := Lib.hid hu
      obtain ⟨r, hr⟩ : ∃ r, f u = r := ⟨_, rfl⟩
      rw [hr] at HU
      replace hr := Lib.hid hr
      clear hat hu' hc
      go_wp2_with fail
      have B2 := HB
      with_reducible refine (HU.out _ B2.out).mono ?_
      rintro e w2 ⟨rfl, hb2⟩
      have B3 := Lib.hid (bstep B2.out B2.out.size hb2)
      clear hb2 B2 HU c0
      cases r
      · obtain rfl : R = false := HBd.out j u hu.out hr.out
        go_wp2_with fail
        go_ret
        exact ⟨rfl, B3.out⟩
      · go_wp2_with fail
        go_roundw
        case rel =>
          refine ⟨j + 1, by omega, by go_num, fun i x hj hx => ?_, B3.out⟩
          rcases Nat.lt_or_ge i j with h | h
          · exact HI.out i x h hx
          · obtain rfl : i = j := by omega
            have h5 := hu.out
            rw [hx] at h5
            cases h5
            exact hr.out
        case measure => simp [intOf]; omega
    · obtain rfl : j = n := by omega
      obtain rfl : R = true := HGd.out fun i x hx => HI.out i x (by have := (List.getElem?_eq_some_iff.1 hx).1; rw [hn.out] at this; exact this) hx
      go_wp2_with fail
      go_ret
      exact ⟨rfl, HB.out⟩

set_option maxRecDepth 100000 in
set_option maxHeartbeats 2000000 in
theorem all43_any (f : Lo Dr → Bool) (k : FuncId) (caps : Array Value) (eg : ∀ (args : Array Value) (w : World), (callFunc k args).run Tryz.prog w = .ok (.enter k args) w) (l : List (Lo Dr)) (A : Option Addr) (c : Nat) (hl : l.length ≤ 100000) (w : World) (he : Es ED w w.heap.size A l)
    (H : ∀ x ∈ l, ∀ W, Below w.heap.size w W → Calls Tryz.prog k (#[.agg #[.int .i64 x.x.id, .int .i64 x.x.prog, .int .i64 x.x.tex, .bool x.x.op, .slice x.A x.x.tris.length x.c]] ++ caps) W fun e w' => e = .returned (.bool (f x)) ∧ Below W.heap.size W w') :
    Calls Tryz.prog 80 #[.slice A l.length c, .func (.func k) #[] caps] w fun e w' => e = .returned (.bool (l.all f)) ∧ Below w.heap.size w w' := by
  have HGd := Lib.hid (fun h => all_yes (f := f) (l := l) h)
  have HBd := Lib.hid (fun (k : Nat) (u : Lo Dr) (h : l[k]? = some u) (hr : f u = false) => all_no h hr)
  have HL := Lib.hid (fun (k : Nat) (h : k < l.length) => get_lt h)
  generalize l.all f = R at *
  obtain ⟨n, hn⟩ : ∃ n, l.length = n := ⟨_, rfl⟩
  rw [hn] at HL hl ⊢
  have HE := Lib.hid he
  have HH := Lib.hid H
  replace hn := Lib.hid hn
  clear he H
  go_enter Tryz.func80, Tryz.ntmps80
  go_wp2_with fail
  go_loopw [9] (fun i wr => ∃ j : Nat, j ≤ n ∧ i = .int .i64 j ∧ (∀ (i : Nat) x, i < j → l[i]? = some x → f x = true) ∧ Below w.heap.size w wr) (fun i _ => n - (intOf i).toNat)
  case atStart => exact ⟨0, Nat.zero_le _, rfl, fun j x h => absurd h (Nat.not_lt_zero _), Below.refl _ _⟩
  case round =>
    obtain ⟨j, hk, rfl, hin, hb⟩ := hrel
    have HB := Lib.hid hb
    have HI := Lib.hid hin
    clear hin hb
    by_cases hlt : j < n
    · obtain ⟨u, hu⟩ := HL.out j hlt
      obtain ⟨b, off, rfl, hbB, hat⟩ := HE.out.at hu
      have hc := atD (show AtE ED wr b (off + j * 5) u from hat.below HB.out hbB)
      obtain ⟨c0, c1, c2, c3, c4⟩ := hc
      have hbw := Nat.lt_of_lt_of_le hbB HB.out.size
      have hu' := List.mem_of_getElem? hu
      have HU := Lib.hid (fun W hW => HH.out u hu' W hW)
      replace hu := Lib.hid hu
      obtain ⟨r, hr⟩ : ∃ r, f u = r := ⟨_, rfl⟩
      rw [hr] at HU
      replace hr := Lib.hid hr
      clear hat hu'
      go_wp2_with fail
      have B2 := Lib.hid (bstep HB.out HB.out.size (new_below wr (.cells #[.int .i64 u.x.id, .int .i64 u.x.prog, .int .i64 u.x.tex, .bool u.x.op, .slice u.A u.x.tris.length u.c] 51)))
      with_reducible refine (HU.out _ B2.out).mono ?_
      rintro e w2 ⟨rfl, hb2⟩
      have B3 := Lib.hid (bstep B2.out B2.out.size hb2)
      clear hb2 B2 HU c0 c1 c2 c3 c4
      cases r
      · obtain rfl : R = false := HBd.out j u hu.out hr.out
        go_wp2_with fail
        go_ret
        exact ⟨rfl, B3.out⟩
      · go_wp2_with fail
        go_roundw
        case rel =>
          refine ⟨j + 1, by omega, by go_num, fun i x hj hx => ?_, B3.out⟩
          rcases Nat.lt_or_ge i j with h | h
          · exact HI.out i x h hx
          · obtain rfl : i = j := by omega
            have h5 := hu.out
            rw [hx] at h5
            cases h5
            exact hr.out
        case measure => simp [intOf]; omega
    · obtain rfl : j = n := by omega
      obtain rfl : R = true := HGd.out fun i x hx => HI.out i x (by have := (List.getElem?_eq_some_iff.1 hx).1; rw [hn.out] at this; exact this) hx
      go_wp2_with fail
      go_ret
      exact ⟨rfl, HB.out⟩

set_option maxRecDepth 100000 in
set_option maxHeartbeats 2000000 in
theorem all65_any (f : Int → Bool) (k : FuncId) (caps : Array Value) (eg : ∀ (args : Array Value) (w : World), (callFunc k args).run Tryz.prog w = .ok (.enter k args) w) (l : List (Int)) (A : Option Addr) (c : Nat) (hl : l.length ≤ 100000) (w : World) (he : Es EN w w.heap.size A l)
    (H : ∀ x ∈ l, ∀ W, Below w.heap.size w W → Calls Tryz.prog k (#[.int .i64 x] ++ caps) W fun e w' => e = .returned (.bool (f x)) ∧ Below W.heap.size W w') :
    Calls Tryz.prog 117 #[.slice A l.length c, .func (.func k) #[] caps] w fun e w' => e = .returned (.bool (l.all f)) ∧ Below w.heap.size w w' := by
  have HGd := Lib.hid (fun h => all_yes (f := f) (l := l) h)
  have HBd := Lib.hid (fun (k : Nat) (u : Int) (h : l[k]? = some u) (hr : f u = false) => all_no h hr)
  have HL := Lib.hid (fun (k : Nat) (h : k < l.length) => get_lt h)
  generalize l.all f = R at *
  obtain ⟨n, hn⟩ : ∃ n, l.length = n := ⟨_, rfl⟩
  rw [hn] at HL hl ⊢
  have HE := Lib.hid he
  have HH := Lib.hid H
  replace hn := Lib.hid hn
  clear he H
  go_enter Tryz.func117, Tryz.ntmps117
  go_wp2_with fail
  go_loopw [9] (fun i wr => ∃ j : Nat, j ≤ n ∧ i = .int .i64 j ∧ (∀ (i : Nat) x, i < j → l[i]? = some x → f x = true) ∧ Below w.heap.size w wr) (fun i _ => n - (intOf i).toNat)
  case atStart => exact ⟨0, Nat.zero_le _, rfl, fun j x h => absurd h (Nat.not_lt_zero _), Below.refl _ _⟩
  case round =>
    obtain ⟨j, hk, rfl, hin, hb⟩ := hrel
    have HB := Lib.hid hb
    have HI := Lib.hid hin
    clear hin hb
    by_cases hlt : j < n
    · obtain ⟨u, hu⟩ := HL.out j hlt
      obtain ⟨b, off, rfl, hbB, hat⟩ := HE.out.at hu
      have hc := atN (show AtE EN wr b (off + j * 1) u from hat.below HB.out hbB)
      have c0 : wr.cell? ⟨b, off + j, none⟩ = some (.int .i64 u) := by simpa using hc
      have hbw := Nat.lt_of_lt_of_le hbB HB.out.size
      have hu' := List.mem_of_getElem? hu
      have HU := Lib.hid (fun W hW => HH.out u hu' W hW)
      replace hu := Lib.hid hu
      obtain ⟨r, hr⟩ : ∃ r, f u = r := ⟨_, rfl⟩
      rw [hr] at HU
      replace hr := Lib.hid hr
      clear hat hu' hc
      go_wp2_with fail
      have B2 := HB
      with_reducible refine (HU.out _ B2.out).mono ?_
      rintro e w2 ⟨rfl, hb2⟩
      have B3 := Lib.hid (bstep B2.out B2.out.size hb2)
      clear hb2 B2 HU c0
      cases r
      · obtain rfl : R = false := HBd.out j u hu.out hr.out
        go_wp2_with fail
        go_ret
        exact ⟨rfl, B3.out⟩
      · go_wp2_with fail
        go_roundw
        case rel =>
          refine ⟨j + 1, by omega, by go_num, fun i x hj hx => ?_, B3.out⟩
          rcases Nat.lt_or_ge i j with h | h
          · exact HI.out i x h hx
          · obtain rfl : i = j := by omega
            have h5 := hu.out
            rw [hx] at h5
            cases h5
            exact hr.out
        case measure => simp [intOf]; omega
    · obtain rfl : j = n := by omega
      obtain rfl : R = true := HGd.out fun i x hx => HI.out i x (by have := (List.getElem?_eq_some_iff.1 hx).1; rw [hn.out] at this; exact this) hx
      go_wp2_with fail
      go_ret
      exact ⟨rfl, HB.out⟩

set_option maxRecDepth 100000 in
set_option maxHeartbeats 2000000 in
theorem all68_any (f : Tr → Bool) (k : FuncId) (caps : Array Value) (eg : ∀ (args : Array Value) (w : World), (callFunc k args).run Tryz.prog w = .ok (.enter k args) w) (l : List (Tr)) (A : Option Addr) (c : Nat) (hl : l.length ≤ 100000) (w : World) (he : Es ER w w.heap.size A l)
    (H : ∀ x ∈ l, ∀ W, Below w.heap.size w W → Calls Tryz.prog k (#[.agg #[.int .i64 x.i, .int .i64 x.a, .int .i64 x.b, .int .i64 x.c]] ++ caps) W fun e w' => e = .returned (.bool (f x)) ∧ Below W.heap.size W w') :
    Calls Tryz.prog 120 #[.slice A l.length c, .func (.func k) #[] caps] w fun e w' => e = .returned (.bool (l.all f)) ∧ Below w.heap.size w w' := by
  have HGd := Lib.hid (fun h => all_yes (f := f) (l := l) h)
  have HBd := Lib.hid (fun (k : Nat) (u : Tr) (h : l[k]? = some u) (hr : f u = false) => all_no h hr)
  have HL := Lib.hid (fun (k : Nat) (h : k < l.length) => get_lt h)
  generalize l.all f = R at *
  obtain ⟨n, hn⟩ : ∃ n, l.length = n := ⟨_, rfl⟩
  rw [hn] at HL hl ⊢
  have HE := Lib.hid he
  have HH := Lib.hid H
  replace hn := Lib.hid hn
  clear he H
  go_enter Tryz.func120, Tryz.ntmps120
  go_wp2_with fail
  go_loopw [9] (fun i wr => ∃ j : Nat, j ≤ n ∧ i = .int .i64 j ∧ (∀ (i : Nat) x, i < j → l[i]? = some x → f x = true) ∧ Below w.heap.size w wr) (fun i _ => n - (intOf i).toNat)
  case atStart => exact ⟨0, Nat.zero_le _, rfl, fun j x h => absurd h (Nat.not_lt_zero _), Below.refl _ _⟩
  case round =>
    obtain ⟨j, hk, rfl, hin, hb⟩ := hrel
    have HB := Lib.hid hb
    have HI := Lib.hid hin
    clear hin hb
    by_cases hlt : j < n
    · obtain ⟨u, hu⟩ := HL.out j hlt
      obtain ⟨b, off, rfl, hbB, hat⟩ := HE.out.at hu
      have hc := atR (show AtE ER wr b (off + j * 4) u from hat.below HB.out hbB)
      obtain ⟨c0, c1, c2, c3⟩ := hc
      have hbw := Nat.lt_of_lt_of_le hbB HB.out.size
      have hu' := List.mem_of_getElem? hu
      have HU := Lib.hid (fun W hW => HH.out u hu' W hW)
      replace hu := Lib.hid hu
      obtain ⟨r, hr⟩ : ∃ r, f u = r := ⟨_, rfl⟩
      rw [hr] at HU
      replace hr := Lib.hid hr
      clear hat hu'
      go_wp2_with fail
      have B2 := Lib.hid (bstep HB.out HB.out.size (new_below wr (.cells #[.int .i64 u.i, .int .i64 u.a, .int .i64 u.b, .int .i64 u.c] 86)))
      with_reducible refine (HU.out _ B2.out).mono ?_
      rintro e w2 ⟨rfl, hb2⟩
      have B3 := Lib.hid (bstep B2.out B2.out.size hb2)
      clear hb2 B2 HU c0 c1 c2 c3
      cases r
      · obtain rfl : R = false := HBd.out j u hu.out hr.out
        go_wp2_with fail
        go_ret
        exact ⟨rfl, B3.out⟩
      · go_wp2_with fail
        go_roundw
        case rel =>
          refine ⟨j + 1, by omega, by go_num, fun i x hj hx => ?_, B3.out⟩
          rcases Nat.lt_or_ge i j with h | h
          · exact HI.out i x h hx
          · obtain rfl : i = j := by omega
            have h5 := hu.out
            rw [hx] at h5
            cases h5
            exact hr.out
        case measure => simp [intOf]; omega
    · obtain rfl : j = n := by omega
      obtain rfl : R = true := HGd.out fun i x hx => HI.out i x (by have := (List.getElem?_eq_some_iff.1 hx).1; rw [hn.out] at this; exact this) hx
      go_wp2_with fail
      go_ret
      exact ⟨rfl, HB.out⟩
end Go.Proofs.YtfmmfaeognoleaaGreat
/-
  How many different numbers a list has (pure), and the contracts of scene.twice, at both types that it is called at: a set that never leaves the call.
-/
namespace Go.Proofs.YtfmmfaeognoleaaGreat
open Go.RowKit Go.Maps Go.WideMaps
attribute [local go_sem ↓] Go.wp_at_zero Go.wp_at_succ

def addI (l : List Int) (x : Int) : List Int := if l.contains x then l else l ++ [x]
/-- How many different ones. -/
def dis (l : List Int) : Nat := (l.foldl addI []).length
/-- Some number stands twice. -/
def twiceB (l : List Int) : Bool := decide (dis l < l.length)
theorem fold_no : ∀ (l L : List Int), (L ++ l).Nodup → l.foldl addI L = L ++ l
  | [], L, _ => by simp
  | x :: l, L, h => by
    have hx : L.contains x = false := by
      rw [List.contains_eq_mem]
      simp only [decide_eq_false_iff_not]
      intro hm
      rw [List.nodup_append] at h
      exact (h.2.2 x hm x (by simp)) rfl
    rw [List.foldl_cons, addI, hx, if_neg (by simp), fold_no l (L ++ [x]) (by simpa using h)]
    simp
theorem fold_nodup : ∀ (l L : List Int), L.Nodup → (l.foldl addI L).Nodup
  | [], L, h => h
  | x :: l, L, h => by
    rw [List.foldl_cons]
    refine fold_nodup l _ ?_
    unfold addI
    split
    · exact h
    · rename_i hx
      rw [List.nodup_append]
      refine ⟨h, by simp, fun a ha b hb e => ?_⟩
      simp only [List.mem_singleton] at hb
      subst hb e
      exact hx (by rw [List.contains_eq_mem]; simpa using ha)
theorem fold_mem : ∀ (l L : List Int) (a : Int), a ∈ l.foldl addI L ↔ a ∈ L ∨ a ∈ l
  | [], L, a => by simp
  | x :: l, L, a => by
    rw [List.foldl_cons, fold_mem l, List.mem_cons]
    unfold addI
    split
    · rename_i hx
      rw [List.contains_eq_mem] at hx
      constructor
      · rintro (h | h)
        · exact .inl h
        · exact .inr (.inr h)
      · rintro (h | rfl | h)
        · exact .inl h
        · exact .inl (by simpa using hx)
        · exact .inr h
    · rw [List.mem_append, List.mem_singleton, or_assoc]
theorem fold_le : ∀ (l L : List Int), (l.foldl addI L).length ≤ L.length + l.length
  | [], L => by simp
  | x :: l, L => by
    have h := fold_le l (addI L x)
    rw [List.foldl_cons]
    have : (addI L x).length ≤ L.length + 1 := by unfold addI; split <;> simp
    rw [List.length_cons]
    omega
theorem dis_nodup {l : List Int} (h : l.Nodup) : dis l = l.length := by
  unfold dis
  rw [fold_no l [] (by simpa using h)]
  rfl
theorem nodup_of_dis : ∀ (l : List Int), dis l = l.length → l.Nodup
  | l, h => by
    have h2 : ∀ (l L : List Int), L.Nodup → (l.foldl addI L).length = L.length + l.length → (L ++ l).Nodup := by
      intro l
      induction l with
      | nil => intro L hL _; simpa using hL
      | cons x l ih =>
        intro L hL hl
        rw [List.foldl_cons, List.length_cons] at hl
        have hb := fold_le l (addI L x)
        by_cases hx : L.contains x = true
        · have : addI L x = L := by unfold addI; rw [if_pos hx]
          rw [this] at hb hl
          omega
        · have e : addI L x = L ++ [x] := by unfold addI; rw [if_neg hx]
          rw [e] at hl
          have hn : (L ++ [x]).Nodup := by
            rw [List.nodup_append]
            refine ⟨hL, by simp, fun a ha y hy e2 => ?_⟩
            simp only [List.mem_singleton] at hy
            subst hy e2
            exact hx (by rw [List.contains_eq_mem]; simpa using ha)
          have := ih (L ++ [x]) hn (by rw [hl]; simp; omega)
          simpa using this
    have := h2 l [] (by simp) (by unfold dis at h; simpa using h)
    simpa using this
theorem twiceB_no {l : List Int} : twiceB l = false ↔ l.Nodup := by
  unfold twiceB
  constructor
  · intro h
    have := fold_le l []
    simp only [List.length_nil, Nat.zero_add] at this
    refine nodup_of_dis l ?_
    unfold dis at h ⊢
    simp only [decide_eq_false_iff_not] at h
    omega
  · intro h
    rw [dis_nodup h]
    simp
theorem any_int (x : Int) : ∀ l : List Int, (l.map (Lit.int .i64)).any (fun y : Lit => y.sameKey (.int .i64 x)) = l.contains x
  | [] => rfl
  | a :: r => by
    rw [List.map_cons, List.any_cons, List.contains_cons, any_int x r]
    congr 1
    show decide (IntKind.i64 = IntKind.i64 ∧ a = x) = (x == a)
    by_cases e : a = x
    · subst e
      simp
    · have e' : ¬ x = a := fun h => e h.symm
      simp [e, e']
theorem fold_lits : ∀ (l L : List Int), (l.map (Lit.int .i64)).foldl addKey (L.map (Lit.int .i64)) = (l.foldl addI L).map (Lit.int .i64)
  | [], L => rfl
  | x :: l, L => by
    rw [List.map_cons, List.foldl_cons, List.foldl_cons, ← fold_lits l]
    congr 1
    unfold addKey addI
    rw [any_int]
    split <;> simp
/-- The set of the first j numbers. -/
def Dn (l : List Int) (j : Nat) : DataW Unit := setOf (.agg []) ((l.take j).map (Lit.int .i64))
theorem Dn_zero (l : List Int) : Dn l 0 = .map [] := by simp [Dn, setOf]
theorem Dn_succ {l : List Int} {j : Nat} {x : Int} (h : l[j]? = some x) : Dn l (j + 1) = (Dn l j).put (.int .i64 x) (.agg []) := by
  unfold Dn
  rw [List.take_add_one, List.map_append, h]
  exact setOf_snoc _ _ _
theorem Dn_size (l : List Int) : Maps.size (Dn l l.length) = dis l := by
  unfold Dn dis
  rw [List.take_length, size_setOf _ _ (fun y hy => by obtain ⟨_, _, rfl⟩ := List.mem_map.1 hy; trivial)]
  have := fold_lits l []
  simp only [List.map_nil] at this
  rw [this, List.length_map]
theorem law3 : Keyed Tryz.prog 3 := int_keyed Tryz.underlying3
theorem key3 {n : Int} (h : I64 n) : keyOf Tryz.prog 3 (.int .i64 n) = some (.int .i64 n) := keyOf_int_mk Tryz.underlying3 (WalkArith.wf_i64 (by unfold I64 at h; omega))
theorem owns_below {w w' : World} {b n : Nat} {D : DataW Unit} (h : w.ownsMap Tryz.prog 3 unitElem b n D) (hb : Below w.heap.size w w') : w'.ownsMap Tryz.prog 3 unitElem b n D := by
  have hlt := h.lt
  obtain ⟨es, clock, hh, F, hs, hD⟩ := h
  exact ⟨es, clock, (hb.block b hlt).trans hh, F, hs, hD⟩

set_option maxRecDepth 100000 in
set_option maxHeartbeats 2000000 in
theorem twice50_any (l : List (Lo Dr)) (A : Option Addr) (c : Nat) (hl : l.length ≤ 100000) (hok : ∀ x ∈ l, I64 (x.x.id)) (w : World) (he : Es ED w w.heap.size A l) :
    Calls Tryz.prog 87 #[.slice A l.length c, .func (.func 88) #[] #[]] w fun e w' => e = .returned (.bool (twiceB (l.map (fun x => x.x.id)))) ∧ Below w.heap.size w w' := by
  have hmm := @run_makeMap Tryz.prog
  have hB : twiceB (l.map (fun x => x.x.id)) = decide (Maps.size (Dn (l.map (fun x => x.x.id)) l.length) < l.length) := by
    have := Dn_size (l.map (fun x => x.x.id))
    rw [List.length_map] at this
    rw [this]
    unfold twiceB
    rw [List.length_map]
  rw [hB]
  clear hB
  have HL := Lib.hid (fun (k : Nat) (h : k < l.length) => get_lt h)
  have HS := Lib.hid (fun (k : Nat) (u : Lo Dr) (h : l[k]? = some u) => Dn_succ (l := l.map (fun x => x.x.id)) (j := k) (x := u.x.id) (by rw [List.getElem?_map, h]; rfl))
  have hz := Dn_zero (l.map (fun x => x.x.id))
  have HO := Lib.hid (fun x (h : x ∈ l) => key3 (hok x h))
  obtain ⟨n, hn⟩ : ∃ n, l.length = n := ⟨_, rfl⟩
  rw [hn] at HL hl ⊢
  replace hn := Lib.hid hn
  have HE := Lib.hid he
  generalize Dn (l.map (fun x => x.x.id)) = D at *
  replace hz := Lib.hid hz
  clear he hok
  go_enter Tryz.func87, Tryz.ntmps87
  go_wp2_with fail
  go_loopw [11] (fun i wr => ∃ j : Nat, j ≤ n ∧ i = .int .i64 j ∧ wr.ownsMap Tryz.prog 3 unitElem w.heap.size j (D j) ∧ Below w.heap.size w wr) (fun i _ => n - (intOf i).toNat)
  case atStart => exact ⟨0, Nat.zero_le _, rfl, by rw [hz.out]; exact World.ownsMap_made _ _ _ _, (Below.refl _ _).alloc (Nat.le_refl _) _⟩
  case round =>
    obtain ⟨j, hk, rfl, hown, hb⟩ := hrel
    have HB := Lib.hid hb
    have HM := Lib.hid hown
    clear hb hown
    by_cases hlt : j < n
    · obtain ⟨u, hu⟩ := HL.out j hlt
      obtain ⟨b, off, rfl, hbB, hat⟩ := HE.out.at hu
      have hc := atD (show AtE ED wr b (off + j * 5) u from hat.below HB.out hbB)
      obtain ⟨c0, c1, c2, c3, c4⟩ := hc
      have hbw := Nat.lt_of_lt_of_le hbB HB.out.size
      have hkey := HO.out u (List.mem_of_getElem? hu)
      have hs := HS.out j u hu
      replace hs := Lib.hid hs
      clear hat hu
      go_wp2_with fail
      have B2 := Lib.hid (bstep HB.out HB.out.size (new_below wr (.cells #[.int .i64 u.x.id, .int .i64 u.x.prog, .int .i64 u.x.tex, .bool u.x.op, .slice u.A u.x.tris.length u.c] 51)))
      have M2 := Lib.hid (HM.out.alloc (.cells #[.int .i64 u.x.id, .int .i64 u.x.prog, .int .i64 u.x.tex, .bool u.x.op, .slice u.A u.x.tris.length u.c] 51))
      with_reducible refine (drawId_any u _).mono ?_
      rintro e w2 ⟨rfl, hb2⟩
      have B3 := Lib.hid (bstep B2.out B2.out.size hb2)
      have M3 := Lib.hid (owns_below M2.out hb2)
      clear hb2 B2 M2 HM c0 c1 c2 c3 c4
      have hlt2 : j < maxLen := by unfold maxLen; omega
      go_wp2_with (at_mapUpdate; refine wpList_mapUpdate_own _ rfl _ _ _ 164 rfl 3 165 law3 Tryz.underlying164 (unitElem (H := Unit)) w.heap.size j _ rfl M3.out hlt2 _ _ _ rfl rfl hkey _ [] unitElem_mk ?_; intro w3 hown3 hgrow3)
      have M4 := Lib.hid hown3
      have B4 := Lib.hid (B3.out.grown hgrow3 B3.out.size (fun k hk => by cases hk; exact Nat.le_refl _))
      clear hown3 hgrow3
      go_roundw
      case rel => exact ⟨j + 1, by omega, by go_num, hs.out.symm ▸ M4.out, B4.out⟩
      case measure => simp [intOf]; omega
    · obtain rfl : j = n := by omega
      have hsz := HM.out.size_le
      have hd : decide ((Maps.size (D j) : Int) < j) = decide (Maps.size (D j) < j) := by
        by_cases h : Maps.size (D j) < j
        · have : (Maps.size (D j) : Int) < j := by omega
          simp [h, this]
        · have : ¬ (Maps.size (D j) : Int) < j := by omega
          simp [h, this]
      have hm := HM.out
      have hrun := hm.len Tryz.underlying164 3
      go_wp2_with fail
      go_ret
      exact ⟨rfl, HB.out⟩

set_option maxRecDepth 100000 in
set_option maxHeartbeats 2000000 in
theorem twice52_any (l : List (Tr)) (A : Option Addr) (c : Nat) (hl : l.length ≤ 100000) (hok : ∀ x ∈ l, I64 (x.i)) (w : World) (he : Es ER w w.heap.size A l) :
    Calls Tryz.prog 89 #[.slice A l.length c, .func (.func 90) #[] #[]] w fun e w' => e = .returned (.bool (twiceB (l.map (fun x => x.i)))) ∧ Below w.heap.size w w' := by
  have hmm := @run_makeMap Tryz.prog
  have hB : twiceB (l.map (fun x => x.i)) = decide (Maps.size (Dn (l.map (fun x => x.i)) l.length) < l.length) := by
    have := Dn_size (l.map (fun x => x.i))
    rw [List.length_map] at this
    rw [this]
    unfold twiceB
    rw [List.length_map]
  rw [hB]
  clear hB
  have HL := Lib.hid (fun (k : Nat) (h : k < l.length) => get_lt h)
  have HS := Lib.hid (fun (k : Nat) (u : Tr) (h : l[k]? = some u) => Dn_succ (l := l.map (fun x => x.i)) (j := k) (x := u.i) (by rw [List.getElem?_map, h]; rfl))
  have hz := Dn_zero (l.map (fun x => x.i))
  have HO := Lib.hid (fun x (h : x ∈ l) => key3 (hok x h))
  obtain ⟨n, hn⟩ : ∃ n, l.length = n := ⟨_, rfl⟩
  rw [hn] at HL hl ⊢
  replace hn := Lib.hid hn
  have HE := Lib.hid he
  generalize Dn (l.map (fun x => x.i)) = D at *
  replace hz := Lib.hid hz
  clear he hok
  go_enter Tryz.func89, Tryz.ntmps89
  go_wp2_with fail
  go_loopw [11] (fun i wr => ∃ j : Nat, j ≤ n ∧ i = .int .i64 j ∧ wr.ownsMap Tryz.prog 3 unitElem w.heap.size j (D j) ∧ Below w.heap.size w wr) (fun i _ => n - (intOf i).toNat)
  case atStart => exact ⟨0, Nat.zero_le _, rfl, by rw [hz.out]; exact World.ownsMap_made _ _ _ _, (Below.refl _ _).alloc (Nat.le_refl _) _⟩
  case round =>
    obtain ⟨j, hk, rfl, hown, hb⟩ := hrel
    have HB := Lib.hid hb
    have HM := Lib.hid hown
    clear hb hown
    by_cases hlt : j < n
    · obtain ⟨u, hu⟩ := HL.out j hlt
      obtain ⟨b, off, rfl, hbB, hat⟩ := HE.out.at hu
      have hc := atR (show AtE ER wr b (off + j * 4) u from hat.below HB.out hbB)
      obtain ⟨c0, c1, c2, c3⟩ := hc
      have hbw := Nat.lt_of_lt_of_le hbB HB.out.size
      have hkey := HO.out u (List.mem_of_getElem? hu)
      have hs := HS.out j u hu
      replace hs := Lib.hid hs
      clear hat hu
      go_wp2_with fail
      have B2 := Lib.hid (bstep HB.out HB.out.size (new_below wr (.cells #[.int .i64 u.i, .int .i64 u.a, .int .i64 u.b, .int .i64 u.c] 86)))
      have M2 := Lib.hid (HM.out.alloc (.cells #[.int .i64 u.i, .int .i64 u.a, .int .i64 u.b, .int .i64 u.c] 86))
      with_reducible refine (triId_any u _).mono ?_
      rintro e w2 ⟨rfl, hb2⟩
      have B3 := Lib.hid (bstep B2.out B2.out.size hb2)
      have M3 := Lib.hid (owns_below M2.out hb2)
      clear hb2 B2 M2 HM c0 c1 c2 c3
      have hlt2 : j < maxLen := by unfold maxLen; omega
      go_wp2_with (at_mapUpdate; refine wpList_mapUpdate_own _ rfl _ _ _ 164 rfl 3 165 law3 Tryz.underlying164 (unitElem (H := Unit)) w.heap.size j _ rfl M3.out hlt2 _ _ _ rfl rfl hkey _ [] unitElem_mk ?_; intro w3 hown3 hgrow3)
      have M4 := Lib.hid hown3
      have B4 := Lib.hid (B3.out.grown hgrow3 B3.out.size (fun k hk => by cases hk; exact Nat.le_refl _))
      clear hown3 hgrow3
      go_roundw
      case rel => exact ⟨j + 1, by omega, by go_num, hs.out.symm ▸ M4.out, B4.out⟩
      case measure => simp [intOf]; omega
    · obtain rfl : j = n := by omega
      have hsz := HM.out.size_le
      have hd : decide ((Maps.size (D j) : Int) < j) = decide (Maps.size (D j) < j) := by
        by_cases h : Maps.size (D j) < j
        · have : (Maps.size (D j) : Int) < j := by omega
          simp [h, this]
        · have : ¬ (Maps.size (D j) : Int) < j := by omega
          simp [h, this]
      have hm := HM.out
      have hrun := hm.len Tryz.underlying164 3
      go_wp2_with fail
      go_ret
      exact ⟨rfl, HB.out⟩
end Go.Proofs.YtfmmfaeognoleaaGreat
/-
  Which scenes may be, or why not (pure): as both package scene and the reference tell it.
-/
namespace Go.Proofs.YtfmmfaeognoleaaGreat

structure PS where
  w : Int
  h : Int
  k : Col
  vs : List U.V
  ts : List Tx
  ps : List (List C.In)
  ds : List Dr
def Sc.p (s : Sc) : PS := ⟨s.w, s.h, s.k, s.vs, s.ts.map Lo.x, s.ps.map Lo.x, s.ds.map Lo.x⟩
def triB (m : Nat) (t : Tr) : Bool := inB t.i 0 9999 && [t.a, t.b, t.c].all (fun v => inB v 0 (m - 1))
def texB (s : PS) (d : Dr) : Bool := if d.tex = -1 then !((s.ps.getD d.prog.toNat []).any C.tex) else inB d.tex 0 (s.ts.length - 1)
def ptsB (s : PS) (d : Dr) : Bool := inB d.id 0 9999 && (inB d.prog 0 (s.ps.length - 1) && (texB s d && d.tris.all (triB s.vs.length)))
/-- What is wrong with a draw, of which those ahead of it are told. -/
def drawE (s : PS) (pre : List Dr) (d : Dr) : Int := if ptsB s d = false then 24 else if (pre.map Dr.id).contains d.id || twiceB (d.tris.map Tr.i) then 25 else 0
def errAt (s : PS) (k : Nat) : Int := match s.ds[k]? with
  | some d => drawE s (s.ds.take k) d
  | none => 0
/-- The first that is not 0, from k on, of n. -/
def firstE (f : Nat → Int) : Nat → Nat → Int
  | _, 0 => 0
  | k, n + 1 => if f k = 0 then firstE f (k + 1) n else f k
def manyB (s : PS) : Bool := decide (64 < s.vs.length) || (decide (4 < s.ts.length) || (decide (4 < s.ps.length) || (decide (8 < s.ds.length) || !(s.ds.all fun d => decide (d.tris.length ≤ 32)))))
def headE (s : PS) : Int :=
  if (inB s.w 1 64 && inB s.h 1 64) = false then 20
  else if rightB s.k = false then 1
  else if manyB s = true then 26
  else if s.vs.all U.rightB = false then 21
  else if s.ts.all Tx.right = false then 22
  else if s.ps.all (fun l => decide (C.chk l = 0)) = false then 23
  else 0
def check (s : PS) : Int := if headE s = 0 then firstE (errAt s) 0 s.ds.length else headE s
def count (s : PS) : Nat := (s.ds.map fun d => d.tris.length).sum

theorem firstE_good (f : Nat → Int) : ∀ (n k : Nat), (∀ j, k ≤ j → j < k + n → f j = 0) → firstE f k n = 0
  | 0, _, _ => rfl
  | n + 1, k, h => by
    unfold firstE
    rw [if_pos (h k (by omega) (by omega))]
    exact firstE_good f n (k + 1) fun j h1 h2 => h j (by omega) (by omega)
theorem firstE_bad (f : Nat → Int) : ∀ (n k j : Nat), k ≤ j → j < k + n → (∀ i, k ≤ i → i < j → f i = 0) → f j ≠ 0 → firstE f k n = f j
  | 0, k, j, h1, h2, _, _ => by omega
  | n + 1, k, j, h1, h2, h3, h4 => by
    unfold firstE
    by_cases e : k = j
    · subst e
      rw [if_neg h4]
    · rw [if_pos (h3 k (by omega) (by omega))]
      exact firstE_bad f n (k + 1) j (by omega) (by omega) (fun i a b => h3 i (by omega) b) h4
theorem errs_good {s : PS} {n : Nat} (h : ∀ j, j < n → errAt s j = 0) : firstE (errAt s) 0 n = 0 := firstE_good _ _ _ fun j _ hj => h j (by omega)
theorem errs_bad {s : PS} {n j : Nat} (hj : j < n) (h : ∀ i, i < j → errAt s i = 0) (he : errAt s j ≠ 0) : firstE (errAt s) 0 n = errAt s j := firstE_bad _ _ _ _ (by omega) (by omega) (fun i _ hi => h i hi) he
theorem errAt_eq {s : PS} {k : Nat} {d : Dr} (h : s.ds[k]? = some d) : errAt s k = drawE s (s.ds.take k) d := by
  unfold errAt
  rw [h]
theorem drawE_zero {s : PS} {pre : List Dr} {d : Dr} : drawE s pre d = 0 ↔ ptsB s d = true ∧ d.id ∉ pre.map Dr.id ∧ (d.tris.map Tr.i).Nodup := by
  unfold drawE
  rw [← twiceB_no]
  cases h1 : ptsB s d
  · simp
  · rw [if_neg (by simp), List.contains_eq_mem]
    cases h3 : twiceB (d.tris.map Tr.i)
    · by_cases h2 : d.id ∈ pre.map Dr.id
      · simp [h2]
      · simp [h2]
    · simp
theorem take_snoc {α : Type} {l : List α} {k : Nat} {u : α} (h : l[k]? = some u) : l.take (k + 1) = l.take k ++ [u] := by
  rw [List.take_add_one, h]
  rfl
theorem nodup_snoc {l : List Int} {x : Int} : (l ++ [x]).Nodup ↔ l.Nodup ∧ x ∉ l := by
  rw [List.nodup_append]
  constructor
  · rintro ⟨h1, _, h3⟩
    exact ⟨h1, fun hx => h3 x hx x (by simp) rfl⟩
  · rintro ⟨h1, h2⟩
    refine ⟨h1, by simp, fun a ha b hb e => ?_⟩
    simp only [List.mem_singleton] at hb
    subst hb e
    exact h2 ha
/-- Of draws that are right so far no two have one id. -/
theorem errs_nodup {s : PS} : ∀ {k : Nat}, k ≤ s.ds.length → (∀ j, j < k → errAt s j = 0) → ((s.ds.take k).map Dr.id).Nodup
  | 0, _, _ => by simp
  | k + 1, hk, h => by
    obtain ⟨d, hd⟩ := get_lt (l := s.ds) (k := k) (by omega)
    have h0 := h k (by omega)
    rw [errAt_eq hd, drawE_zero] at h0
    rw [take_snoc hd, List.map_append]
    exact nodup_snoc.2 ⟨errs_nodup (by omega) fun j hj => h j (by omega), h0.2.1⟩
theorem twice_last {l : List Int} {x : Int} (h : l.Nodup) : twiceB (l ++ [x]) = l.contains x := by
  rw [List.contains_eq_mem]
  by_cases hx : x ∈ l
  · have : ¬ twiceB (l ++ [x]) = false := fun e => (nodup_snoc.1 (twiceB_no.1 e)).2 hx
    simpa [hx] using this
  · have := twiceB_no.2 (nodup_snoc.2 ⟨h, hx⟩)
    simpa [hx] using this
theorem nodup_apart {l : List Int} (h : l.Nodup) {i j : Nat} {x : Int} (hij : i < j) (hi : l[i]? = some x) (hj : l[j]? = some x) : False := by
  obtain ⟨i1, i2⟩ := List.getElem?_eq_some_iff.1 hi
  obtain ⟨j1, j2⟩ := List.getElem?_eq_some_iff.1 hj
  exact List.pairwise_iff_getElem.1 h i j i1 j1 hij (i2.trans j2.symm)
theorem check_zero {s : PS} : check s = 0 ↔ headE s = 0 ∧ (∀ d ∈ s.ds, ptsB s d = true ∧ (d.tris.map Tr.i).Nodup) ∧ (s.ds.map Dr.id).Nodup := by
  unfold check
  by_cases h0 : headE s = 0
  · rw [if_pos h0]
    constructor
    · intro h
      have hall : ∀ j, j < s.ds.length → errAt s j = 0 := by
        intro j
        induction j using Nat.strongRecOn with
        | _ j ih =>
          intro hj
          by_cases e : errAt s j = 0
          · exact e
          · rw [errs_bad hj (fun i hi => ih i hi (by omega)) e] at h
            exact absurd h e
      refine ⟨h0, fun d hd => ?_, ?_⟩
      · obtain ⟨j, hj⟩ := List.mem_iff_getElem?.1 hd
        have := hall j (List.getElem?_eq_some_iff.1 hj).1
        rw [errAt_eq hj, drawE_zero] at this
        exact ⟨this.1, this.2.2⟩
      · have := errs_nodup (Nat.le_refl _) hall
        rwa [List.take_length] at this
    · rintro ⟨-, h1, h2⟩
      refine errs_good fun j hj => ?_
      obtain ⟨d, hd⟩ := get_lt hj
      rw [errAt_eq hd, drawE_zero]
      obtain ⟨a, b⟩ := h1 d (List.mem_of_getElem? hd)
      refine ⟨a, fun hm => ?_, b⟩
      obtain ⟨e, he, hid⟩ := List.mem_map.1 hm
      obtain ⟨i, hi⟩ := List.mem_iff_getElem?.1 he
      rw [List.getElem?_take] at hi
      split at hi
      · rename_i hij
        have hl := (List.getElem?_eq_some_iff.1 hi).1
        have h3 : (s.ds.map Dr.id)[i]? = some d.id := by rw [List.getElem?_map, hi, ← hid]; rfl
        have h4 : (s.ds.map Dr.id)[j]? = some d.id := by rw [List.getElem?_map, hd]; rfl
        exact nodup_apart h2 hij h3 h4
      · cases hi
  · rw [if_neg h0]
    exact ⟨fun h => absurd h h0, fun h => absurd h.1 h0⟩
end Go.Proofs.YtfmmfaeognoleaaGreat
/-
  The contracts of pointsRight, with its closures, and of texRight.
-/
namespace Go.Proofs.YtfmmfaeognoleaaGreat
open Go.RowKit
attribute [local go_sem ↓] Go.wp_at_zero Go.wp_at_succ

theorem mk_func (fn : Fn) (first cap : Array Value) (w : World) : (Instr.makeFunc fn first cap).run Tryz.prog w = .ok (.func fn first cap) w := rfl
theorem enters62 (args : Array Value) (w : World) : (callFunc 114 args).run Tryz.prog w = .ok (.enter 114 args) w := by
  go_simp
theorem enters61 (args : Array Value) (w : World) : (callFunc 113 args).run Tryz.prog w = .ok (.enter 113 args) w := by
  go_simp
theorem onVerts_any (s : Sc) (g : Nat) (v : Int) (hm : s.vs.length ≤ 100000) (w : World) (hg : w.heap[g]? = some (scB s)) :
    Calls Tryz.prog 114 #[.int .i64 v, .pointer (some ⟨g, 0, none⟩)] w fun e w' => e = .returned (.bool (inB v 0 (s.vs.length - 1))) ∧ Below w.heap.size w w' := by
  have HP := Lib.hid (isPlace63 v s.vA s.vs.length s.vc hm)
  obtain ⟨c0, c1, c2, c3, c4, c5, c6, c7, c8, c9⟩ := scB_cell hg
  generalize inB v 0 (s.vs.length - 1) = r at *
  clear hg c0 c1 c2 c3 c4 c5 c7 c8 c9
  go_enter Tryz.func114, Tryz.ntmps114
  go_wp2_with fail
  with_reducible refine (HP.out _).mono ?_
  rintro e w' ⟨rfl, rfl⟩
  go_wp2
  go_ret
  exact ⟨rfl, Below.refl _ _⟩
def trB (t : Tr) : Obj := .cells #[.int .i64 t.i, .int .i64 t.a, .int .i64 t.b, .int .i64 t.c] 86 (0, 0)
theorem trB_cell {w : World} {g : Nat} {t : Tr} (h : w.heap[g]? = some (trB t)) : w.cell? ⟨g, 0, none⟩ = some (.int .i64 t.i) ∧ w.cell? ⟨g, 1, none⟩ = some (.int .i64 t.a) ∧ w.cell? ⟨g, 2, none⟩ = some (.int .i64 t.b) ∧ w.cell? ⟨g, 3, none⟩ = some (.int .i64 t.c) := by
  unfold trB at h
  exact ⟨Joins.cell_of_block h 0, Joins.cell_of_block h 1, Joins.cell_of_block h 2, Joins.cell_of_block h 3⟩
theorem three_es {w : World} {g : Nat} {t : Tr} (h : w.heap[g]? = some (trB t)) : Es EN w w.heap.size (some ⟨g, 1, none⟩) [t.a, t.b, t.c] := fun _ => by
  obtain ⟨c0, c1, c2, c3⟩ := trB_cell h
  refine ⟨g, 1, rfl, (Array.getElem?_eq_some_iff.1 h).1, fun j u hj i v hv => ?_⟩
  have hi : i = 0 := by
    rcases Nat.eq_zero_or_pos i with h | h
    · exact h
    · rw [List.getElem?_eq_none (by simp [EN]; omega)] at hv; cases hv
  subst hi
  obtain rfl : Value.int .i64 u = v := by simpa [EN] using hv
  rcases (show j = 0 ∨ j = 1 ∨ j = 2 ∨ 3 ≤ j by omega) with rfl | rfl | rfl | h3
  · obtain rfl : t.a = u := by simpa using hj
    exact c1
  · obtain rfl : t.b = u := by simpa using hj
    exact c2
  · obtain rfl : t.c = u := by simpa using hj
    exact c3
  · rw [List.getElem?_eq_none (by simpa using h3)] at hj; cases hj
set_option maxRecDepth 100000 in
set_option maxHeartbeats 2000000 in
theorem triRight_any (s : Sc) (g : Nat) (t : Tr) (hm : s.vs.length ≤ 100000) (w : World) (hg : w.heap[g]? = some (scB s)) :
    Calls Tryz.prog 113 #[.agg #[.int .i64 t.i, .int .i64 t.a, .int .i64 t.b, .int .i64 t.c], .pointer (some ⟨g, 0, none⟩)] w fun e w' => e = .returned (.bool (triB s.vs.length t)) ∧ Below w.heap.size w w' := by
  have hmf := mk_func
  have HI := Lib.hid (isId_any t.i)
  have HV := Lib.hid (fun v W (hb : Below w.heap.size w W) => onVerts_any s g v hm W (scB_keep hg hb (scB_lt hg)))
  have HA := Lib.hid (show ∀ W, Below w.heap.size w W → W.heap[w.heap.size]? = some (trB t) → Calls Tryz.prog 117 #[.slice (some ⟨w.heap.size, 1, none⟩) 3 3, .func (.func 114) #[] #[.pointer (some ⟨g, 0, none⟩)]] W fun e w' => e = .returned (.bool ([t.a, t.b, t.c].all (fun v => inB v 0 (s.vs.length - 1)))) ∧ Below W.heap.size W w' from fun W (hb : Below w.heap.size w W) (hW : W.heap[w.heap.size]? = some (trB t)) => all65_any (fun v => inB v 0 (s.vs.length - 1)) 114 #[.pointer (some ⟨g, 0, none⟩)] enters62 [t.a, t.b, t.c] (some ⟨w.heap.size, 1, none⟩) 3 (by simp) W (three_es hW) (fun x _ W2 h2 => HV.out x W2 (hb.trans (h2.mono hb.size))))
  have HB := Lib.hid (new_below w (.cells #[.int .i64 t.i, .int .i64 t.a, .int .i64 t.b, .int .i64 t.c] 86))
  have HT := Lib.hid (show (w.alloc (.cells #[.int .i64 t.i, .int .i64 t.a, .int .i64 t.b, .int .i64 t.c] 86)).heap[w.heap.size]? = some (trB t) from heap_alloc_new _ _)
  have hgw := scB_lt hg
  unfold triB
  generalize ([t.a, t.b, t.c].all fun v => inB v 0 (s.vs.length - 1)) = r at *
  cases hi : inB t.i 0 9999
  · rw [hi] at HI
    clear hi hg HA HV
    go_enter Tryz.func113, Tryz.ntmps113
    go_wp2_with fail
    with_reducible refine (HI.out _).mono ?_
    rintro e w' ⟨rfl, rfl⟩
    go_wp2
    go_ret
    exact ⟨rfl, HB.out⟩
  · rw [hi] at HI
    clear hi hg HV
    go_enter Tryz.func113, Tryz.ntmps113
    go_wp2_with fail
    with_reducible refine (HI.out _).mono ?_
    rintro e w' ⟨rfl, rfl⟩
    go_wp2_with fail
    with_reducible refine (HA.out _ HB.out HT.out).mono ?_
    rintro e w2 ⟨rfl, hb⟩
    have B2 := Lib.hid (bstep HB.out HB.out.size hb)
    clear hb
    go_wp2
    go_ret
    exact ⟨by simp, B2.out⟩
set_option maxRecDepth 100000 in
set_option maxHeartbeats 2000000 in
theorem texRight_any (s : Sc) (l : Lo Dr) (w : World) (ha : s.at w w.heap.size) (hok : s.ok) (hf : s.few) (h0 : 0 ≤ l.x.prog) (h1 : l.x.prog ≤ s.ps.length - 1) :
    Calls Tryz.prog 119 #[.agg #[.int .i64 s.w, .int .i64 s.h, .int .u8 s.k.r, .int .u8 s.k.g, .int .u8 s.k.b, .int .u8 s.k.a, .slice s.vA s.vs.length s.vc, .slice s.tA s.ts.length s.tc, .slice s.pA s.ps.length s.pc, .slice s.dA s.ds.length s.dc], .agg #[.int .i64 l.x.id, .int .i64 l.x.prog, .int .i64 l.x.tex, .bool l.x.op, .slice l.A l.x.tris.length l.c]] w fun e w' => e = .returned (.bool (texB s.p l.x)) ∧ Below w.heap.size w w' := by
  have hk : l.x.prog.toNat < s.ps.length := by omega
  obtain ⟨u, hu⟩ := get_lt hk
  obtain ⟨b, off, hA, hbB, hat⟩ := ha.p.at hu
  have hc := atP hat
  have hmu := List.mem_of_getElem? hu
  have HP := Lib.hid (isPlace74 l.x.tex s.tA s.ts.length s.tc hf.ts)
  have HK := Lib.hid (fun o o' => bstep (new_below w o) (by simp) (new_below _ o'))
  have HS := Lib.hid (fun W (hb : Below w.heap.size w W) => C.samples_any u.x u.A u.c (hf.px u hmu) (hok.ps u hmu).1 W (((ha.px u hmu).below hb).sharp))
  have e1 : texB s.p l.x = if l.x.tex = -1 then !(u.x.any C.tex) else inB l.x.tex 0 (s.ts.length - 1) := by
    unfold texB Sc.p
    dsimp only
    rw [List.length_map, List.getD_eq_getElem?_getD, List.getElem?_map, hu]
    rfl
  rw [e1]
  obtain ⟨j, hj⟩ : ∃ j, l.x.prog.toNat = j := ⟨_, rfl⟩
  rw [hj] at hk hc
  have hp : l.x.prog = j := by omega
  have c0 : w.cell? ⟨b, off + j, none⟩ = some (.slice u.A u.x.length u.c) := by simpa [EP] using hc
  rw [hA, hp]
  generalize s.ps.length = n at *
  have hjn : (j : Int) < n := by omega
  clear ha hok hf e1 hu hat hc hmu h0 h1 hj hp hA
  by_cases ht : l.x.tex = -1
  · rw [if_pos ht]
    have d1 : (l.x.tex == -1) = true := by simp [ht]
    have d2 : decide (l.x.tex = -1) = true := by simp [ht]
    clear ht HP
    go_enter Tryz.func119, Tryz.ntmps119
    go_wp2_with fail
    with_reducible refine (HS.out _ (HK.out _ _)).mono ?_
    rintro e w2 ⟨rfl, hb⟩
    have B3 := Lib.hid (bstep (HK.out _ _) (HK.out _ _).size hb)
    clear hb
    go_wp2
    go_ret
    exact ⟨rfl, B3.out⟩
  · rw [if_neg ht]
    have d1 : (l.x.tex == -1) = false := by simp [ht]
    have d2 : decide (l.x.tex = -1) = false := by simp [ht]
    clear ht HS
    go_enter Tryz.func119, Tryz.ntmps119
    go_wp2_with fail
    with_reducible refine (HP.out _).mono ?_
    rintro e w2 ⟨rfl, rfl⟩
    go_wp2
    go_ret
    exact ⟨rfl, HK.out _ _⟩
end Go.Proofs.YtfmmfaeognoleaaGreat
/-
  The contracts of pointsRight, tooMany and checkLast.
-/
namespace Go.Proofs.YtfmmfaeognoleaaGreat
open Go.RowKit
attribute [local go_sem ↓] Go.wp_at_zero Go.wp_at_succ

theorem ptsB_eq (s : Sc) (d : Dr) : ptsB s.p d = (inB d.id 0 9999 && (inB d.prog 0 (s.ps.length - 1) && (texB s.p d && d.tris.all (triB s.vs.length)))) := by
  unfold ptsB Sc.p
  simp
set_option maxRecDepth 100000 in
set_option maxHeartbeats 4000000 in
theorem pts_any (s : Sc) (l : Lo Dr) (w : World) (ha : s.at w w.heap.size) (hok : s.ok) (hf : s.few) (hl : l.x.tris.length ≤ 100000) (he : Es ER w w.heap.size l.A l.x.tris) :
    Calls Tryz.prog 86 #[.agg #[.int .i64 s.w, .int .i64 s.h, .int .u8 s.k.r, .int .u8 s.k.g, .int .u8 s.k.b, .int .u8 s.k.a, .slice s.vA s.vs.length s.vc, .slice s.tA s.ts.length s.tc, .slice s.pA s.ps.length s.pc, .slice s.dA s.ds.length s.dc], .agg #[.int .i64 l.x.id, .int .i64 l.x.prog, .int .i64 l.x.tex, .bool l.x.op, .slice l.A l.x.tris.length l.c]] w fun e w' => e = .returned (.bool (ptsB s.p l.x)) ∧ Below w.heap.size w w' := by
  have hmf := mk_func
  have HK := Lib.hid (bstep (new_below w (.cells #[.int .i64 s.w, .int .i64 s.h, .int .u8 s.k.r, .int .u8 s.k.g, .int .u8 s.k.b, .int .u8 s.k.a, .slice s.vA s.vs.length s.vc, .slice s.tA s.ts.length s.tc, .slice s.pA s.ps.length s.pc, .slice s.dA s.ds.length s.dc] 29)) (by simp) (new_below _ (.cells #[.int .i64 l.x.id, .int .i64 l.x.prog, .int .i64 l.x.tex, .bool l.x.op, .slice l.A l.x.tris.length l.c] 51)))
  have HG := Lib.hid (show ((w.alloc (.cells #[.int .i64 s.w, .int .i64 s.h, .int .u8 s.k.r, .int .u8 s.k.g, .int .u8 s.k.b, .int .u8 s.k.a, .slice s.vA s.vs.length s.vc, .slice s.tA s.ts.length s.tc, .slice s.pA s.ps.length s.pc, .slice s.dA s.ds.length s.dc] 29)).alloc (.cells #[.int .i64 l.x.id, .int .i64 l.x.prog, .int .i64 l.x.tex, .bool l.x.op, .slice l.A l.x.tris.length l.c] 51)).heap[w.heap.size]? = some (scB s) from new_at20 _ _ _)
  have HD := Lib.hid (show ((w.alloc (.cells #[.int .i64 s.w, .int .i64 s.h, .int .u8 s.k.r, .int .u8 s.k.g, .int .u8 s.k.b, .int .u8 s.k.a, .slice s.vA s.vs.length s.vc, .slice s.tA s.ts.length s.tc, .slice s.pA s.ps.length s.pc, .slice s.dA s.ds.length s.dc] 29)).alloc (.cells #[.int .i64 l.x.id, .int .i64 l.x.prog, .int .i64 l.x.tex, .bool l.x.op, .slice l.A l.x.tris.length l.c] 51)).heap[w.heap.size + 1]? = some (drB l) from new_at2 _ _ _)
  have H1 := Lib.hid (isId_any l.x.id)
  have H2 := Lib.hid (isPlace66 l.x.prog s.pA s.ps.length s.pc hf.ps)
  have H3 := Lib.hid (fun W (hb : Below w.heap.size w W) (h0 : 0 ≤ l.x.prog) (h1 : l.x.prog ≤ s.ps.length - 1) => texRight_any s l W ((ha.below hb).sharp) hok hf h0 h1)
  have H4 := Lib.hid (fun W (hb : Below w.heap.size w W) (hg : W.heap[w.heap.size]? = some (scB s)) => all68_any (triB s.vs.length) 113 #[.pointer (some ⟨w.heap.size, 0, none⟩)] enters61 l.x.tris l.A l.c hl W ((he.below hb).sharp) (fun t _ W2 h2 => triRight_any s w.heap.size t hf.vs W2 (scB_keep hg h2 (scB_lt hg))))
  rw [ptsB_eq]
  have hr2 : inB l.x.prog 0 (s.ps.length - 1) = true → 0 ≤ l.x.prog ∧ l.x.prog ≤ s.ps.length - 1 := fun h => by unfold inB at h; exact of_decide_eq_true h
  replace hr2 := Lib.hid hr2
  generalize l.x.tris.all (triB s.vs.length) = r4 at *
  generalize texB s.p l.x = r3 at *
  clear ha hok hf hl he
  cases h1 : inB l.x.id 0 9999
  · rw [h1] at H1
    clear h1 H2 H3 H4 hr2
    go_enter Tryz.func86, Tryz.ntmps86
    go_wp2_with fail
    with_reducible refine (H1.out _).mono ?_
    rintro e w2 ⟨rfl, rfl⟩
    go_wp2
    go_ret
    exact ⟨rfl, HK.out⟩
  rw [h1] at H1
  clear h1
  cases h2 : inB l.x.prog 0 (s.ps.length - 1)
  · rw [h2] at H2
    clear h2 H3 H4 hr2
    go_enter Tryz.func86, Tryz.ntmps86
    go_wp2_with fail
    with_reducible refine (H1.out _).mono ?_
    rintro e w2 ⟨rfl, rfl⟩
    go_wp2_with fail
    with_reducible refine (H2.out _).mono ?_
    rintro e w2 ⟨rfl, rfl⟩
    go_wp2
    go_ret
    exact ⟨rfl, HK.out⟩
  rw [h2] at H2
  obtain ⟨b0, b1⟩ := hr2.out h2
  have H3' := Lib.hid (fun W hW => H3.out W hW b0 b1)
  clear h2 H3 hr2 b0 b1
  go_enter Tryz.func86, Tryz.ntmps86
  go_wp2_with fail
  with_reducible refine (H1.out _).mono ?_
  rintro e w2 ⟨rfl, rfl⟩
  go_wp2_with fail
  with_reducible refine (H2.out _).mono ?_
  rintro e w2 ⟨rfl, rfl⟩
  go_wp2_with fail
  with_reducible refine (H3'.out _ HK.out).mono ?_
  rintro e w2 ⟨rfl, hb⟩
  have B2 := Lib.hid (bstep HK.out HK.out.size hb)
  have G2 := Lib.hid (scB_keep HG.out hb (scB_lt HG.out))
  have hd : w2.heap[w.heap.size + 1]? = some (drB l) := (hb.block _ (drB_lt HD.out)).trans HD.out
  obtain ⟨-, -, -, -, c4⟩ := drB_cell hd
  have hlt := drB_lt hd
  clear hb hd
  cases r3
  · go_wp2
    go_ret
    exact ⟨rfl, B2.out⟩
  · go_wp2_with fail
    with_reducible refine (H4.out _ B2.out G2.out).mono ?_
    rintro e w3 ⟨rfl, hb⟩
    have B3 := Lib.hid (bstep B2.out B2.out.size hb)
    clear hb
    go_wp2
    go_ret
    exact ⟨by simp, B3.out⟩
set_option maxRecDepth 100000 in
set_option maxHeartbeats 4000000 in
theorem tooMany_any (s : Sc) (w : World) (ha : s.at w w.heap.size) :
    Calls Tryz.prog 44 #[.agg #[.int .i64 s.w, .int .i64 s.h, .int .u8 s.k.r, .int .u8 s.k.g, .int .u8 s.k.b, .int .u8 s.k.a, .slice s.vA s.vs.length s.vc, .slice s.tA s.ts.length s.tc, .slice s.pA s.ps.length s.pc, .slice s.dA s.ds.length s.dc]] w fun e w' => e = .returned (.bool (manyB s.p)) ∧ Below w.heap.size w w' := by
  have HK := Lib.hid (new_below w (.cells #[.int .i64 s.w, .int .i64 s.h, .int .u8 s.k.r, .int .u8 s.k.g, .int .u8 s.k.b, .int .u8 s.k.a, .slice s.vA s.vs.length s.vc, .slice s.tA s.ts.length s.tc, .slice s.pA s.ps.length s.pc, .slice s.dA s.ds.length s.dc] 29))
  have HF := Lib.hid (show ∀ W, Below w.heap.size w W → s.ds.length ≤ 8 → Calls Tryz.prog 80 #[.slice s.dA s.ds.length s.dc, .func (.func 81) #[] #[]] W fun e w' => e = .returned (.bool (s.ds.all fun l => decide (l.x.tris.length ≤ 32))) ∧ Below W.heap.size W w' from
    fun W hb h8 => all43_any (fun l => decide (l.x.tris.length ≤ 32)) 81 #[] (fun args w => by go_simp) s.ds s.dA s.dc (by omega) W ((ha.d.below hb).sharp) (fun x _ W2 _ => fewTris_any x W2))
  have e : manyB s.p = (decide (64 < s.vs.length) || (decide (4 < s.ts.length) || (decide (4 < s.ps.length) || (decide (8 < s.ds.length) || !(s.ds.all fun l => decide (l.x.tris.length ≤ 32)))))) := by
    unfold manyB Sc.p
    simp [Function.comp_def]
  rw [e]
  generalize (s.ds.all fun l => decide (l.x.tris.length ≤ 32)) = r at *
  generalize s.vs.length = a at *
  generalize s.ts.length = b at *
  generalize s.ps.length = c at *
  generalize s.ds.length = d at *
  clear ha e
  by_cases h1 : 64 < a
  · have k1 : (64 : Int) < a := by omega
    have e1 : decide (64 < a) = true := by simp [h1]
    rw [e1]
    clear e1 h1
    go_enter Tryz.func44, Tryz.ntmps44
    go_wp2
    go_ret
    exact ⟨rfl, HK.out⟩
  have k1 : ¬ (64 : Int) < a := by omega
  have e1 : decide (64 < a) = false := by simp; omega
  rw [e1]
  clear e1 h1
  by_cases h2 : 4 < b
  · have k2 : (4 : Int) < b := by omega
    have e2 : decide (4 < b) = true := by simp [h2]
    rw [e2]
    clear e2 h2
    go_enter Tryz.func44, Tryz.ntmps44
    go_wp2
    go_ret
    exact ⟨rfl, HK.out⟩
  have k2 : ¬ (4 : Int) < b := by omega
  have e2 : decide (4 < b) = false := by simp; omega
  rw [e2]
  clear e2 h2
  by_cases h3 : 4 < c
  · have k3 : (4 : Int) < c := by omega
    have e3 : decide (4 < c) = true := by simp [h3]
    rw [e3]
    clear e3 h3
    go_enter Tryz.func44, Tryz.ntmps44
    go_wp2
    go_ret
    exact ⟨rfl, HK.out⟩
  have k3 : ¬ (4 : Int) < c := by omega
  have e3 : decide (4 < c) = false := by simp; omega
  rw [e3]
  clear e3 h3
  by_cases h4 : 8 < d
  · have k4 : (8 : Int) < d := by omega
    have e4 : decide (8 < d) = true := by simp [h4]
    rw [e4]
    clear e4 h4
    go_enter Tryz.func44, Tryz.ntmps44
    go_wp2
    go_ret
    exact ⟨rfl, HK.out⟩
  have k4 : ¬ (8 : Int) < d := by omega
  have e4 : decide (8 < d) = false := by simp; omega
  have HF' := Lib.hid (fun W hW => HF.out W hW (by omega))
  rw [e4]
  clear e4 h4 HF
  go_enter Tryz.func44, Tryz.ntmps44
  go_wp2_with fail
  with_reducible refine (HF'.out _ HK.out).mono ?_
  rintro e w3 ⟨rfl, hb⟩
  have B3 := Lib.hid (bstep HK.out HK.out.size hb)
  clear hb
  go_wp2
  go_ret
  exact ⟨by simp, B3.out⟩
set_option maxRecDepth 100000 in
set_option maxHeartbeats 4000000 in
/-- Of some draws, of which those ahead of the last are right. -/
theorem checkLast_any (s : Sc) (A : Option Addr) (c : Nat) (pre : List (Lo Dr)) (l : Lo Dr) (w : World) (ha : s.at w w.heap.size) (hok : s.ok) (hf : s.few)
    (hn : pre.length ≤ 99999) (hp : ∀ x ∈ pre ++ [l], I64 x.x.id) (ho : ∀ t ∈ l.x.tris, I64 t.i) (hl : l.x.tris.length ≤ 100000) (he : Es ER w w.heap.size l.A l.x.tris) (hA : Es ED w w.heap.size A (pre ++ [l])) (hnd : (pre.map fun x => x.x.id).Nodup) :
    Calls Tryz.prog 51 #[.agg #[.int .i64 s.w, .int .i64 s.h, .int .u8 s.k.r, .int .u8 s.k.g, .int .u8 s.k.b, .int .u8 s.k.a, .slice s.vA s.vs.length s.vc, .slice s.tA s.ts.length s.tc, .slice s.pA s.ps.length s.pc, .slice s.dA s.ds.length s.dc], .slice A (pre.length + 1) c] w fun e w' => e = .returned (.int .i64 (drawE s.p (pre.map Lo.x) l.x)) ∧ Below w.heap.size w w' := by
  have HK := Lib.hid (fun o o' => bstep (new_below w o) (by simp) (new_below _ o'))
  have HP := Lib.hid (fun W (hb : Below w.heap.size w W) => pts_any s l W ((ha.below hb).sharp) hok hf hl ((he.below hb).sharp))
  have HT := Lib.hid (show ∀ W, Below w.heap.size w W → Calls Tryz.prog 87 #[.slice A (pre.length + 1) c, .func (.func 88) #[] #[]] W fun e w' => e = .returned (.bool (((pre.map Lo.x).map Dr.id).contains l.x.id)) ∧ Below W.heap.size W w' from fun W hb => by
    have h := twice50_any (pre ++ [l]) A c (by simp; omega) hp W ((hA.below hb).sharp)
    rw [List.length_append, List.map_append, List.map_singleton, twice_last hnd] at h
    rw [List.map_map]
    exact h)
  have HR := Lib.hid (fun W (hb : Below w.heap.size w W) => twice52_any l.x.tris l.A l.c hl ho W ((he.below hb).sharp))
  obtain ⟨b, off, rfl, hbB, hat⟩ := hA.at (k := pre.length) (u := l) (by simp)
  obtain ⟨c0, c1, c2, c3, c4⟩ := atD hat
  have hD : drawE s.p (pre.map Lo.x) l.x = if ptsB s.p l.x = false then 24 else if ((pre.map Lo.x).map Dr.id).contains l.x.id || twiceB (l.x.tris.map (fun x => x.i)) then 25 else 0 := rfl
  rw [hD]
  have hw : IntKind.i64.wrap ((pre.length : Int) + 1 - 1) = pre.length := by rw [IntKind.wrap_i64]; omega
  generalize ((pre.map Lo.x).map Dr.id).contains l.x.id = r2 at *
  generalize twiceB (l.x.tris.map (fun x => x.i)) = r3 at *
  generalize ptsB s.p l.x = r1 at *
  generalize pre.length = n at *
  have hsz : ED.size = 5 := rfl
  rw [hsz] at c0 c1 c2 c3 c4
  have hw2 : wrap64 (n : Int) = n := by unfold wrap64; omega
  clear ha hok hf hp ho hl he hA hnd hat hD hsz
  go_enter Tryz.func51, Tryz.ntmps51
  go_wp2_with fail
  with_reducible refine (HP.out _ (HK.out _ _)).mono ?_
  rintro e w2 ⟨rfl, hb⟩
  have B2 := Lib.hid (bstep (HK.out _ _) (HK.out _ _).size hb)
  have hd : w2.heap[w.heap.size + 1]? = some (drB l) := (hb.block _ (by simp)).trans (new_at2 _ _ _)
  obtain ⟨-, -, -, -, c5⟩ := drB_cell hd
  have hlt := drB_lt hd
  clear hb hd c0 c1 c2 c3 c4
  cases r1
  · go_wp2
    go_ret
    exact ⟨rfl, B2.out⟩
  go_wp2_with fail
  with_reducible refine (HT.out _ B2.out).mono ?_
  rintro e w3 ⟨rfl, hb⟩
  have B3 := Lib.hid (bstep B2.out B2.out.size hb)
  have c6 : w3.cell? ⟨w.heap.size + 1, 4, none⟩ = some (.slice l.A l.x.tris.length l.c) := (hb.cell hlt).trans c5
  have hlt2 : w.heap.size + 1 < w3.heap.size := Nat.lt_of_lt_of_le hlt hb.size
  clear hb c5
  cases r2
  · go_wp2_with fail
    with_reducible refine (HR.out _ B3.out).mono ?_
    rintro e w4 ⟨rfl, hb⟩
    have B4 := Lib.hid (bstep B3.out B3.out.size hb)
    clear hb
    cases r3
    · go_wp2
      go_ret
      exact ⟨rfl, B4.out⟩
    · go_wp2
      go_ret
      exact ⟨rfl, B4.out⟩
  · go_wp2
    go_ret
    exact ⟨rfl, B3.out⟩
end Go.Proofs.YtfmmfaeognoleaaGreat
/-
  The contract of scene.Check.
-/
namespace Go.Proofs.YtfmmfaeognoleaaGreat
open Go.RowKit
attribute [local go_sem ↓] Go.wp_at_zero Go.wp_at_succ

theorem Es.pre {α : Type} {E : Elem α} {w : World} {B : Nat} {A : Option Addr} {xs ys : List α} (h : Es E w B A (xs ++ ys)) : Es E w B A xs := fun hne => by
  obtain ⟨b, off, e, hb, hc⟩ := h (by intro h; exact hne (List.append_eq_nil_iff.1 h).1)
  refine ⟨b, off, e, hb, fun j u hj => hc j u ?_⟩
  rw [List.getElem?_append_left (List.getElem?_eq_some_iff.1 hj).1]
  exact hj
theorem Es.takes {α : Type} {E : Elem α} {w : World} {B : Nat} {A : Option Addr} {xs : List α} (h : Es E w B A xs) (k : Nat) : Es E w B A (xs.take k) := by
  rw [← List.take_append_drop k xs] at h
  exact h.pre
theorem check_ways (s : Sc) :
    (inB s.w 1 64 = false → check s.p = 20) ∧ (inB s.w 1 64 = true → inB s.h 1 64 = false → check s.p = 20)
    ∧ (inB s.w 1 64 = true → inB s.h 1 64 = true → (rightB s.k = false → check s.p = 1)
      ∧ (rightB s.k = true → (manyB s.p = true → check s.p = 26)
        ∧ (manyB s.p = false → (s.vs.all U.rightB = false → check s.p = 21)
          ∧ (s.vs.all U.rightB = true → ((s.ts.all fun l => l.x.right) = false → check s.p = 22)
            ∧ ((s.ts.all fun l => l.x.right) = true → ((s.ps.all fun l => decide (C.chk l.x = 0)) = false → check s.p = 23)
              ∧ ((s.ps.all fun l => decide (C.chk l.x = 0)) = true → check s.p = firstE (errAt s.p) 0 s.ds.length)))))) := by
  have e1 : s.p.w = s.w := rfl
  have e2 : s.p.h = s.h := rfl
  have e3 : s.p.k = s.k := rfl
  have e4 : s.p.vs = s.vs := rfl
  have e5 : s.p.ts.all Tx.right = s.ts.all fun l => l.x.right := by show (s.ts.map Lo.x).all _ = _; rw [List.all_map]; rfl
  have e6 : (s.p.ps.all fun l => decide (C.chk l = 0)) = s.ps.all fun l => decide (C.chk l.x = 0) := by show (s.ps.map Lo.x).all _ = _; rw [List.all_map]; rfl
  have e7 : s.p.ds.length = s.ds.length := by show (s.ds.map Lo.x).length = _; rw [List.length_map]
  unfold check headE
  rw [e1, e2, e3, e4, e5, e6, e7]
  generalize inB s.w 1 64 = r1
  generalize inB s.h 1 64 = r2
  generalize rightB s.k = r3
  generalize manyB s.p = r4
  generalize s.vs.all U.rightB = r5
  generalize (s.ts.all fun l => l.x.right) = r6
  generalize (s.ps.all fun l => decide (C.chk l.x = 0)) = r7
  refine ⟨fun a => ?_, fun a b => ?_, fun a b => ⟨fun c => ?_, fun c => ⟨fun d => ?_, fun d => ⟨fun e => ?_, fun e => ⟨fun f => ?_, fun f => ⟨fun g => ?_, fun g => ?_⟩⟩⟩⟩⟩⟩ <;> subst_vars <;> simp
theorem errAt_sc {s : Sc} {j : Nat} {u : Lo Dr} (h : s.ds[j]? = some u) : errAt s.p j = drawE s.p ((s.ds.take j).map Lo.x) u.x := by
  have : s.p.ds[j]? = some u.x := by show (s.ds.map Lo.x)[j]? = _; rw [List.getElem?_map, h]; rfl
  rw [errAt_eq this]
  show drawE s.p ((s.ds.map Lo.x).take j) u.x = _
  rw [List.map_take]
theorem errs_sc {s : Sc} {j : Nat} (hj : j ≤ s.ds.length) (h : ∀ i, i < j → errAt s.p i = 0) : ((s.ds.take j).map fun x => x.x.id).Nodup := by
  have e : s.p.ds = s.ds.map Lo.x := rfl
  have := errs_nodup (s := s.p) (k := j) (by rw [e, List.length_map]; exact hj) h
  rw [e, ← List.map_take, List.map_map] at this
  exact this
/-- One draw, with those ahead of it. -/
theorem one_last (s : Sc) (hok : s.ok) (hf : s.few) {j : Nat} {u : Lo Dr} (hu : s.ds[j]? = some u) (herr : ∀ i, i < j → errAt s.p i = 0) (W : World) (ha : s.at W W.heap.size) :
    Calls Tryz.prog 51 #[.agg #[.int .i64 s.w, .int .i64 s.h, .int .u8 s.k.r, .int .u8 s.k.g, .int .u8 s.k.b, .int .u8 s.k.a, .slice s.vA s.vs.length s.vc, .slice s.tA s.ts.length s.tc, .slice s.pA s.ps.length s.pc, .slice s.dA s.ds.length s.dc], .slice s.dA (j + 1) (j + 1)] W fun e w' => e = .returned (.int .i64 (errAt s.p j)) ∧ Below W.heap.size W w' := by
  have hj := (List.getElem?_eq_some_iff.1 hu).1
  have hm := List.mem_of_getElem? hu
  have hl : (s.ds.take j).length = j := by rw [List.length_take]; omega
  have h := checkLast_any s s.dA (j + 1) (s.ds.take j) u W ha hok hf (by have := hf.ds; omega) (fun x hx => by rw [← take_snoc hu] at hx; exact (hok.ds x (List.mem_of_mem_take hx)).1.id) (fun t ht => ((hok.ds u hm).1.tris t ht).i) (hf.dx u hm) (ha.dx u hm) (by rw [← take_snoc hu]; exact ha.d.takes _) (errs_sc (by omega) herr)
  rw [hl, ← errAt_sc hu] at h
  exact h
set_option maxRecDepth 100000 in
set_option maxHeartbeats 8000000 in
theorem check_scene (s : Sc) (w : World) (ha : s.at w w.heap.size) (hok : s.ok) (hf : s.few) :
    Calls Tryz.prog 17 #[.agg #[.int .i64 s.w, .int .i64 s.h, .int .u8 s.k.r, .int .u8 s.k.g, .int .u8 s.k.b, .int .u8 s.k.a, .slice s.vA s.vs.length s.vc, .slice s.tA s.ts.length s.tc, .slice s.pA s.ps.length s.pc, .slice s.dA s.ds.length s.dc]] w fun e w' => e = .returned (.int .i64 (check s.p)) ∧ Below w.heap.size w w' := by
  have HK := Lib.hid (new_below w (.cells #[.int .i64 s.w, .int .i64 s.h, .int .u8 s.k.r, .int .u8 s.k.g, .int .u8 s.k.b, .int .u8 s.k.a, .slice s.vA s.vs.length s.vc, .slice s.tA s.ts.length s.tc, .slice s.pA s.ps.length s.pc, .slice s.dA s.ds.length s.dc] 29))
  have HG := Lib.hid (show (w.alloc (.cells #[.int .i64 s.w, .int .i64 s.h, .int .u8 s.k.r, .int .u8 s.k.g, .int .u8 s.k.b, .int .u8 s.k.a, .slice s.vA s.vs.length s.vc, .slice s.tA s.ts.length s.tc, .slice s.pA s.ps.length s.pc, .slice s.dA s.ds.length s.dc] 29)).heap[w.heap.size]? = some (scB s) from heap_alloc_new _ _)
  have H1 := Lib.hid (within_any s.w 1 64)
  have H2 := Lib.hid (within_any s.h 1 64)
  have H3 := Lib.hid (cright_any s.k)
  have H4 := Lib.hid (fun W (hb : Below w.heap.size w W) => tooMany_any s W ((ha.below hb).sharp))
  have H5 := Lib.hid (fun W (hb : Below w.heap.size w W) => all26_any U.rightB 46 #[] (fun args w => by go_simp) s.vs s.vA s.vc hf.vs W ((ha.v.below hb).sharp) (fun x _ W2 _ => U.right_any x W2))
  have H6 := Lib.hid (fun W (hb : Below w.heap.size w W) => all28_any (fun l => l.x.right) 48 #[] (fun args w => by go_simp) s.ts s.tA s.tc hf.ts W ((ha.t.below hb).sharp) (fun x _ W2 _ => right_any x.x x.A x.c W2))
  have H7 := Lib.hid (fun W (hb : Below w.heap.size w W) => all30_any (fun l => decide (C.chk l.x = 0)) 50 #[] (fun args w => by go_simp) s.ps s.pA s.pc hf.ps W ((ha.p.below hb).sharp) (fun x hx W2 hb2 => mayRun_any x.x x.A x.c (hok.ps x hx).1 W2 ((((ha.px x hx).below hb).sharp.below hb2).sharp)))
  have H8 := Lib.hid (fun (j : Nat) (u : Lo Dr) (hu : s.ds[j]? = some u) (herr : ∀ i, i < j → errAt s.p i = 0) W (hb : Below w.heap.size w W) => one_last s hok hf hu herr W ((ha.below hb).sharp))
  have HS := Lib.hid (fun (j : Nat) (u : Lo Dr) (hu : s.ds[j]? = some u) => ha.d.at hu)
  have HL := Lib.hid (fun (k : Nat) (h : k < s.ds.length) => get_lt (l := s.ds) h)
  have HGd := Lib.hid (fun h => errs_good (s := s.p) (n := s.ds.length) h)
  have HBd := Lib.hid (fun (j : Nat) (hj : j < s.ds.length) h1 h2 => errs_bad (s := s.p) (n := s.ds.length) (j := j) hj h1 h2)
  have HW := Lib.hid (check_ways s)
  have hdc := hok.dc
  have hds := hf.ds
  generalize check s.p = R at *
  generalize errAt s.p = er at *
  generalize firstE er 0 s.ds.length = F at *
  generalize inB s.w 1 64 = r1 at *
  generalize inB s.h 1 64 = r2 at *
  generalize rightB s.k = r3 at *
  generalize manyB s.p = r4 at *
  generalize s.vs.all U.rightB = r5 at *
  generalize (s.ts.all fun l => l.x.right) = r6 at *
  generalize (s.ps.all fun l => decide (C.chk l.x = 0)) = r7 at *
  obtain ⟨dA, hdA⟩ : ∃ a, s.dA = a := ⟨_, rfl⟩
  rw [hdA] at HK HG HS H8 ⊢
  replace hdA := Lib.hid hdA
  clear ha hok hf
  go_enter Tryz.func17, Tryz.ntmps17
  go_wp2_with fail
  with_reducible refine (H1.out _).mono ?_
  rintro e w2 ⟨rfl, rfl⟩
  cases r1
  · obtain rfl : R = 20 := HW.out.1 (by simp)
    go_wp2
    go_ret
    exact ⟨rfl, HK.out⟩
  go_wp2_with fail
  with_reducible refine (H2.out _).mono ?_
  rintro e w2 ⟨rfl, rfl⟩
  cases r2
  · obtain rfl : R = 20 := HW.out.2.1 (by simp) (by simp)
    go_wp2
    go_ret
    exact ⟨rfl, HK.out⟩
  have HW2 := Lib.hid (HW.out.2.2 (by simp) (by simp))
  clear HW H1 H2
  go_wp2_with fail
  with_reducible refine (H3.out _).mono ?_
  rintro e w3 ⟨rfl, hb⟩
  have B3 := Lib.hid (bstep HK.out HK.out.size hb)
  have G3 := Lib.hid (scB_keep HG.out hb (scB_lt HG.out))
  clear hb HK HG H3
  cases r3
  · obtain rfl : R = 1 := HW2.out.1 (by simp)
    go_wp2
    go_ret
    exact ⟨rfl, B3.out⟩
  have HW3 := Lib.hid (HW2.out.2 (by simp))
  clear HW2
  obtain ⟨c0, c1, c2, c3, c4, c5, c6, c7, c8, c9⟩ := scB_cell G3.out
  have hg3 := scB_lt G3.out
  go_wp2_with fail
  with_reducible refine (H4.out _ B3.out).mono ?_
  rintro e w4 ⟨rfl, hb⟩
  have B4 := Lib.hid (bstep B3.out B3.out.size hb)
  have G4 := Lib.hid (scB_keep G3.out hb (scB_lt G3.out))
  clear hb B3 G3 H4 c0 c1 c2 c3 c4 c5 c6 c7 c8 c9 hg3
  cases r4
  case true =>
    obtain rfl : R = 26 := HW3.out.1 (by simp)
    go_wp2
    go_ret
    exact ⟨rfl, B4.out⟩
  have HW4 := Lib.hid (HW3.out.2 (by simp))
  clear HW3
  obtain ⟨c0, c1, c2, c3, c4, c5, c6, c7, c8, c9⟩ := scB_cell G4.out
  have hg4 := scB_lt G4.out
  go_wp2_with fail
  with_reducible refine (H5.out _ B4.out).mono ?_
  rintro e w5 ⟨rfl, hb⟩
  have B5 := Lib.hid (bstep B4.out B4.out.size hb)
  have G5 := Lib.hid (scB_keep G4.out hb (scB_lt G4.out))
  clear hb B4 G4 H5 c0 c1 c2 c3 c4 c5 c6 c7 c8 c9 hg4
  cases r5
  · obtain rfl : R = 21 := HW4.out.1 (by simp)
    go_wp2
    go_ret
    exact ⟨rfl, B5.out⟩
  have HW5 := Lib.hid (HW4.out.2 (by simp))
  clear HW4
  obtain ⟨c0, c1, c2, c3, c4, c5, c6, c7, c8, c9⟩ := scB_cell G5.out
  have hg5 := scB_lt G5.out
  go_wp2_with fail
  with_reducible refine (H6.out _ B5.out).mono ?_
  rintro e w6 ⟨rfl, hb⟩
  have B6 := Lib.hid (bstep B5.out B5.out.size hb)
  have G6 := Lib.hid (scB_keep G5.out hb (scB_lt G5.out))
  clear hb B5 G5 H6 c0 c1 c2 c3 c4 c5 c6 c7 c8 c9 hg5
  cases r6
  · obtain rfl : R = 22 := HW5.out.1 (by simp)
    go_wp2
    go_ret
    exact ⟨rfl, B6.out⟩
  have HW6 := Lib.hid (HW5.out.2 (by simp))
  clear HW5
  obtain ⟨c0, c1, c2, c3, c4, c5, c6, c7, c8, c9⟩ := scB_cell G6.out
  have hg6 := scB_lt G6.out
  go_wp2_with fail
  with_reducible refine (H7.out _ B6.out).mono ?_
  rintro e w7 ⟨rfl, hb⟩
  have B7 := Lib.hid (bstep B6.out B6.out.size hb)
  have G7 := Lib.hid (scB_keep G6.out hb (scB_lt G6.out))
  clear hb B6 G6 H7 c0 c1 c2 c3 c4 c5 c6 c7 c8 c9 hg6
  cases r7
  · obtain rfl : R = 23 := HW6.out.1 (by simp)
    go_wp2
    go_ret
    exact ⟨rfl, B7.out⟩
  obtain rfl : R = F := HW6.out.2 (by simp)
  clear HW6
  obtain ⟨c0, c1, c2, c3, c4, c5, c6, c7, c8, c9⟩ := scB_cell G7.out
  have hg7 := scB_lt G7.out
  obtain ⟨n, hn⟩ : ∃ n, s.ds.length = n := ⟨_, rfl⟩
  rw [hn, hdA.out] at c9
  rw [hn] at HL HGd HBd hdc hds
  go_wp2_with fail
  clear c0 c1 c2 c3 c4 c5 c6 c7 c8 c9 hg7
  replace hn := Lib.hid hn
  go_loopw [42] (fun i wr => ∃ j : Nat, j ≤ n ∧ i = .int .i64 j ∧ (∀ i, i < j → er i = 0) ∧ Below w.heap.size w wr ∧ wr.heap[w.heap.size]? = some (scB s)) (fun i _ => n - (intOf i).toNat)
  case atStart => exact ⟨0, Nat.zero_le _, rfl, fun i h => absurd h (Nat.not_lt_zero _), B7.out, G7.out⟩
  case round =>
    obtain ⟨j, hk, rfl, hin, hb, hg⟩ := hrel
    have HB := Lib.hid hb
    have HI := Lib.hid hin
    have HG := Lib.hid hg
    clear hin hb hg
    by_cases hlt : j < n
    · obtain ⟨u, hu⟩ := HL.out j hlt
      obtain ⟨b, off, rfl, -, -⟩ := HS.out j u hu
      obtain ⟨c0, c1, c2, c3, c4, c5, c6, c7, c8, c9⟩ := scB_cell HG.out
      have HC := Lib.hid (fun W hW => H8.out j u hu HI.out W hW)
      rw [hn.out, hdA.out] at c9
      rw [hn.out] at HC
      have hg := scB_lt HG.out
      obtain ⟨x, hx⟩ : ∃ x, er j = x := ⟨_, rfl⟩
      rw [hx] at HC
      have HX := Lib.hid hx
      have w1 : IntKind.i64.wrap ((j : Int) + 1) = j + 1 := by rw [IntKind.wrap_i64]; omega
      clear hu hx
      go_wp2_with fail
      have k1 : (0 : Int) ≤ (j : Int) + 1 := by omega
      have k2 : (j : Int) + 1 ≤ s.dc := by omega
      have y0 : ∀ x : Grow wr, x.w.cell? ⟨w.heap.size, 0, none⟩ = _ := fun x => x.cell c0
      have y1 : ∀ x : Grow wr, x.w.cell? ⟨w.heap.size, 1, none⟩ = _ := fun x => x.cell c1
      have y2 : ∀ x : Grow wr, x.w.cell? ⟨w.heap.size, 2, none⟩ = _ := fun x => x.cell c2
      have y3 : ∀ x : Grow wr, x.w.cell? ⟨w.heap.size, 3, none⟩ = _ := fun x => x.cell c3
      have y4 : ∀ x : Grow wr, x.w.cell? ⟨w.heap.size, 4, none⟩ = _ := fun x => x.cell c4
      have y5 : ∀ x : Grow wr, x.w.cell? ⟨w.heap.size, 5, none⟩ = _ := fun x => x.cell c5
      have y6 : ∀ x : Grow wr, x.w.cell? ⟨w.heap.size, 6, none⟩ = _ := fun x => x.cell c6
      have y7 : ∀ x : Grow wr, x.w.cell? ⟨w.heap.size, 7, none⟩ = _ := fun x => x.cell c7
      have y8 : ∀ x : Grow wr, x.w.cell? ⟨w.heap.size, 8, none⟩ = _ := fun x => x.cell c8
      have y9 : ∀ x : Grow wr, x.w.cell? ⟨w.heap.size, 9, none⟩ = _ := fun x => x.cell c9
      refine wp_region_held_drew (S := fun w' => ∃ x : Grow wr, w' = x.w) (by kernel_rfl) ⟨⟨_, (Below.refl _ _).drew⟩, rfl⟩ (fun hS => ?_)
      have BD := Lib.hid (show Below w.heap.size w wr.drew from HB.out.drew)
      have GD := Lib.hid (show wr.drew.heap[w.heap.size]? = some (scB s) from HG.out)
      have DW := Lib.hid (show Below wr.heap.size wr wr.drew from (Below.refl _ _).drew)
      generalize wr.drew = Y at *
      refine wpAnyH_take (i := 0) (v := .agg #[.int .i64 s.w, .int .i64 s.h, .int .u8 s.k.r, .int .u8 s.k.g, .int .u8 s.k.b, .int .u8 s.k.a, .slice s.vA s.vs.length s.vc, .slice s.tA s.ts.length s.tc, .slice s.pA s.ps.length s.pc, .slice (some ⟨b, off, none⟩) n s.dc]) rfl (by kernel_rfl) (by kernel_rfl) (by kernel_rfl) (fun _ _ _ h => h) (Or.inl ⟨by rfl, fun w hw => by obtain ⟨x, rfl⟩ := hw; go_simp⟩) hS ?_
      try simp only [Act.put, List.setIfInBounds_toArray, List.set_cons_zero, List.set_cons_succ, List.getElem_toArray, List.getElem_cons_zero]
      refine wpAnyH_take (i := 1) (v := .pointer (some ⟨w.heap.size, 9, none⟩)) rfl (by kernel_rfl) (by kernel_rfl) (by kernel_rfl) (fun _ _ _ h => h) (Or.inl ⟨by rfl, fun w hw => by obtain ⟨x, rfl⟩ := hw; go_simp⟩) hS ?_
      try simp only [Act.put, List.setIfInBounds_toArray, List.set_cons_zero, List.set_cons_succ, List.getElem_toArray, List.getElem_cons_zero, List.getElem_cons_succ]
      refine wpAnyH_take (i := 2) (v := .slice (some ⟨b, off, none⟩) n s.dc) rfl (by kernel_rfl) (by kernel_rfl) (by kernel_rfl) (fun _ _ _ h => h) (Or.inl ⟨by rfl, fun w hw => by obtain ⟨x, rfl⟩ := hw; go_simp⟩) hS ?_
      try simp only [Act.put, List.setIfInBounds_toArray, List.set_cons_zero, List.set_cons_succ, List.getElem_toArray, List.getElem_cons_zero, List.getElem_cons_succ]
      refine wpAnyH_take (i := 3) (v := .int .i64 j) rfl (by kernel_rfl) (by kernel_rfl) (by kernel_rfl) (fun _ _ _ h => h) (Or.inl ⟨by rfl, fun w hw => by obtain ⟨x, rfl⟩ := hw; go_simp⟩) hS ?_
      try simp only [Act.put, List.setIfInBounds_toArray, List.set_cons_zero, List.set_cons_succ, List.getElem_toArray, List.getElem_cons_zero, List.getElem_cons_succ]
      refine wpAnyH_take (i := 4) (v := .int .i64 (j + 1)) rfl (by kernel_rfl) (by kernel_rfl) (by kernel_rfl) (fun _ _ _ h => h) (Or.inl ⟨by rfl, fun w hw => by obtain ⟨x, rfl⟩ := hw; go_simp⟩) hS ?_
      try simp only [Act.put, List.setIfInBounds_toArray, List.set_cons_zero, List.set_cons_succ, List.getElem_toArray, List.getElem_cons_zero, List.getElem_cons_succ]
      refine wpAnyH_take (i := 5) (v := .int .i64 j) rfl (by kernel_rfl) (by kernel_rfl) (by kernel_rfl) (fun _ _ _ h => h) (Or.inl ⟨by rfl, fun w hw => by obtain ⟨x, rfl⟩ := hw; go_simp⟩) hS ?_
      try simp only [Act.put, List.setIfInBounds_toArray, List.set_cons_zero, List.set_cons_succ, List.getElem_toArray, List.getElem_cons_zero, List.getElem_cons_succ]
      refine wpAnyH_take (i := 6) (v := .int .i64 (j + 1)) rfl (by kernel_rfl) (by kernel_rfl) (by kernel_rfl) (fun _ _ _ h => h) (Or.inl ⟨by rfl, fun w hw => by obtain ⟨x, rfl⟩ := hw; go_simp⟩) hS ?_
      try simp only [Act.put, List.setIfInBounds_toArray, List.set_cons_zero, List.set_cons_succ, List.getElem_toArray, List.getElem_cons_zero, List.getElem_cons_succ]
      refine wpAnyH_take (i := 7) (v := .slice (some ⟨b, off, none⟩) (j + 1) (j + 1)) rfl (by kernel_rfl) (by kernel_rfl) (by kernel_rfl) (fun _ _ _ h => h) (Or.inl ⟨by rfl, fun w hw => by obtain ⟨x, rfl⟩ := hw; go_simp⟩) hS ?_
      try simp only [Act.put, List.setIfInBounds_toArray, List.set_cons_zero, List.set_cons_succ, List.getElem_toArray, List.getElem_cons_zero, List.getElem_cons_succ]
      refine wpAnyH_ready (rs := [8]) (by kernel_rfl) (by simp) ?_
      refine AllReadyH.cons rfl (fun K hK => ?_) AllReadyH.nil
      go_simp
      with_reducible refine (HC.out _ BD.out).mono ?_
      rintro e w8 ⟨rfl, hb⟩
      have DW8 := Lib.hid (bstep DW.out DW.out.size hb)
      refine hK.out _ _ ⟨⟨_, DW8.out⟩, rfl⟩ (fun hS => ?_)
      clear hK K
      try simp only [Act.put, List.setIfInBounds_toArray, List.set_cons_zero, List.set_cons_succ, List.getElem_toArray, List.getElem_cons_zero, List.getElem_cons_succ]
      refine wpAnyH_take (i := 9) (v := .int .i64 x) rfl (by kernel_rfl) (by kernel_rfl) (by kernel_rfl) (fun _ _ _ h => h) (Or.inl ⟨by rfl, fun w hw => by obtain ⟨x, rfl⟩ := hw; go_simp⟩) hS ?_
      try simp only [Act.put, List.setIfInBounds_toArray, List.set_cons_zero, List.set_cons_succ, List.getElem_toArray, List.getElem_cons_zero, List.getElem_cons_succ]
      refine wpAnyH_done (by kernel_rfl) ?_ _
      have B8 := Lib.hid (bstep BD.out BD.out.size hb)
      have G8 := Lib.hid (scB_keep GD.out hb (scB_lt GD.out))
      clear hb BD GD HC c0 c1 c2 c3 c4 c5 c6 c7 c8 c9 hg y0 y1 y2 y3 y4 y5 y6 y7 y8 y9 DW DW8 hS
      by_cases x0 : x = 0
      · have d1 : (x == 0) = true := by simp [x0]
        have d2 : decide (x = 0) = true := by simp [x0]
        go_wp2_with fail
        go_roundw
        case rel =>
          refine ⟨j + 1, by omega, by go_num, fun i hi => ?_, B8.out, G8.out⟩
          rcases Nat.lt_or_ge i j with h | h
          · exact HI.out i h
          · obtain rfl : i = j := by omega
            rw [HX.out]
            exact x0
        case measure => simp [intOf]; omega
      · have d1 : (x == 0) = false := by simp [x0]
        have d2 : decide (x = 0) = false := by simp [x0]
        obtain rfl : R = x := by rw [HBd.out j hlt HI.out (by rw [HX.out]; exact x0), HX.out]
        go_wp2_with fail
        go_ret
        exact ⟨rfl, B8.out⟩
    · obtain rfl : j = n := by omega
      obtain rfl : R = 0 := HGd.out HI.out
      go_wp2
      go_ret
      exact ⟨rfl, HB.out⟩
end Go.Proofs.YtfmmfaeognoleaaGreat
