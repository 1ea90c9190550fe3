/-
  What a writer says of a list: how many there are, and each.
-/
import Derived.Test.YtfmmfaeognoleaaM5
namespace Go.Proofs.Ytfmmfaeognoleaa
open Go.RowKit
attribute [local go_sem ↓] Go.wp_at_zero Go.wp_at_succ

theorem said_steps {α : Type} (xs : List Int) (G : α → List Int) (l : List α) {N : Nat} (hn : xs.length + (nAll G l).length ≤ N) :
    ∃ Y : Nat → List Int, Y 0 = xs ++ [(l.length : Int)] ∧ Y l.length = xs ++ nAll G l ∧ (∀ j u, l[j]? = some u → Y (j + 1) = Y j ++ G u ∧ (Y j).length + (G u).length ≤ N) ∧ xs.length + 1 ≤ N := by
  have hn2 : xs.length + ((l.flatMap G).length + 1) ≤ N := hn
  refine ⟨fun j => xs ++ ((l.length : Int) :: (l.take j).flatMap G), rfl, by simp [nAll], fun j u hu => ?_, by omega⟩
  have e : l.take (j + 1) = l.take j ++ [u] := take_snoc hu
  have e2 : (l.take (j + 1)).flatMap G = (l.take j).flatMap G ++ G u := by rw [e, List.flatMap_append]; simp
  refine ⟨by simp only [e2]; simp, ?_⟩
  have h3 : (l.flatMap G).length = ((l.take (j + 1)).flatMap G).length + ((l.drop (j + 1)).flatMap G).length := by rw [← List.length_append, ← List.flatMap_append, List.take_append_drop]
  rw [e2, List.length_append] at h3
  simp only [List.length_append, List.length_cons]
  omega
theorem nAll_map {α β : Type} (f : β → α) (g : α → List Int) (l : List β) : nAll (fun x => g (f x)) l = nAll g (l.map f) := by
  unfold nAll
  rw [List.length_map, List.flatMap_map]

set_option maxRecDepth 100000 in
set_option maxHeartbeats 2000000 in
theorem sayV_any {q : Nat} {v : Value} {xs : List Int} (l : List (U.V)) (A : Option Addr) (c : Nat) (w : World) (h : Wr w q xs v) (he : Es EV w q A l) (hl : l.length ≤ 100000) (hn : xs.length + (nAll nV l).length ≤ 100000000)
    (H : ∀ u ∈ l, ∀ (W : World) (v' : Value) (ys : List Int), Below q w W → Wr W q ys v' → ys.length + (nV u).length ≤ 100000000 → Calls Try.prog 47 #[.pointer (some ⟨q, 0, none⟩), .agg #[.int .i64 u.x, .int .i64 u.y, .int .i64 u.z, .int .i64 u.w, .int .i64 u.a, .int .i64 u.b, .int .i64 u.c, .int .i64 u.d]] W (Says q v' (ys ++ nV u) W)) :
    Calls Try.prog 46 #[.pointer (some ⟨q, 0, none⟩), .slice A l.length c, .func (.func 47) #[.pointer (some ⟨q, 0, none⟩)] #[]] w (Says q v (xs ++ nAll nV l) w) := by
  have hq := h.lt
  obtain ⟨Y, y0, yn, ys, y1⟩ := said_steps xs nV l hn
  rw [← yn]
  have HL := Lib.hid (fun (k : Nat) (h : k < l.length) => get_lt h)
  have HS := Lib.hid (show ∀ t, t = w.alloc (.cells #[.int .i64 l.length] 3) → Calls Try.prog 44 #[.pointer (some ⟨q, 0, none⟩), .slice (some ⟨w.heap.size, 0, none⟩) 1 1] t (Says q v (Y 0) t) from fun t ht => by
    subst ht
    rw [y0]
    exact say_any [(l.length : Int)] _ 1 _ _ (h.alloc (.cells #[.int .i64 l.length] 3)) (es_new [(l.length : Int)] #[.int .i64 l.length] rfl) y1)
  have HF := Lib.hid ((Wf.refl q v w).alloc hq (.cells #[.int .i64 l.length] 3))
  have HE := Lib.hid he
  have HH := Lib.hid H
  have HY := Lib.hid ys
  obtain ⟨n, hnn⟩ : ∃ n, l.length = n := ⟨_, rfl⟩
  rw [hnn] at HL HS HF hl ⊢
  clear he H h hn y0 yn y1 ys hnn
  go_enter Try.func46, Try.ntmps46
  go_wp2_with fail
  with_reducible refine (HS.out _ rfl).mono ?_
  rintro e w1 ⟨rfl, v1, hw1, hf1⟩
  have HW1 := Lib.hid hw1
  have HF1 := Lib.hid (HF.out.trans hf1)
  clear hw1 hf1 HS HF
  go_wp2_with fail
  go_loopw [15] (fun i wr => ∃ j : Nat, j ≤ n ∧ i = .int .i64 j ∧ ∃ v', Wr wr q (Y j) v' ∧ Wf q v w v' wr) (fun i _ => n - (intOf i).toNat)
  case atStart => exact ⟨0, Nat.zero_le _, rfl, v1, HW1.out, HF1.out⟩
  case round =>
    obtain ⟨j, hk, rfl, v2, hw2, hf2⟩ := hrel
    have HW2 := Lib.hid hw2
    have HF2 := Lib.hid hf2
    clear hw2 hf2 HW1 HF1
    by_cases hlt : j < n
    · obtain ⟨u, hu⟩ := HL.out j hlt
      obtain ⟨b, off, rfl, hbB, hat⟩ := HE.out.at hu
      have hc := atV (show AtE EV wr b (off + j * 8) u from hat.below HF2.out.b hbB)
      obtain ⟨c0, c1, c2, c3, c4, c5, c6, c7⟩ := hc
      have hs2 := HF2.out.size
      have hbw : b < wr.heap.size := by omega
      have hu' := List.mem_of_getElem? hu
      have HT := Lib.hid (HW2.out.alloc (.cells #[.int .i64 u.x, .int .i64 u.y, .int .i64 u.z, .int .i64 u.w, .int .i64 u.a, .int .i64 u.b, .int .i64 u.c, .int .i64 u.d] 43))
      have HFT := Lib.hid (HF2.out.alloc hq (.cells #[.int .i64 u.x, .int .i64 u.y, .int .i64 u.z, .int .i64 u.w, .int .i64 u.a, .int .i64 u.b, .int .i64 u.c, .int .i64 u.d] 43))
      have hy := HY.out j u hu
      have HU := Lib.hid (show ∀ t, t = wr.alloc (.cells #[.int .i64 u.x, .int .i64 u.y, .int .i64 u.z, .int .i64 u.w, .int .i64 u.a, .int .i64 u.b, .int .i64 u.c, .int .i64 u.d] 43) → Calls Try.prog 47 #[.pointer (some ⟨q, 0, none⟩), .agg #[.int .i64 u.x, .int .i64 u.y, .int .i64 u.z, .int .i64 u.w, .int .i64 u.a, .int .i64 u.b, .int .i64 u.c, .int .i64 u.d]] t (Says q v2 (Y (j + 1)) t) from fun t ht => by
        subst ht
        rw [hy.1]
        exact HH.out u hu' _ v2 _ HFT.out.b HT.out hy.2)
      clear hat hu' hu hy
      go_wp2_with fail
      with_reducible refine (HU.out _ rfl).mono ?_
      rintro e w3 ⟨rfl, v3, hw3, hf3⟩
      have HW3 := Lib.hid hw3
      have HF3 := Lib.hid (HFT.out.trans hf3)
      clear hw3 hf3 HU HT HFT
      go_wp2_with fail
      go_roundw
      case rel => exact ⟨j + 1, by omega, by go_num, v3, HW3.out, HF3.out⟩
      case measure => simp [intOf]; omega
    · obtain rfl : j = n := by omega
      go_wp2_with fail
      go_end0
      exact ⟨rfl, v2, HW2.out, HF2.out⟩

set_option maxRecDepth 100000 in
set_option maxHeartbeats 2000000 in
theorem sayT_any {q : Nat} {v : Value} {xs : List Int} (l : List (Lo Tx)) (A : Option Addr) (c : Nat) (w : World) (h : Wr w q xs v) (he : Es ET w q A l) (hl : l.length ≤ 100000) (hn : xs.length + (nAll (fun u : Lo Tx => nT u.x) l).length ≤ 100000000)
    (H : ∀ u ∈ l, ∀ (W : World) (v' : Value) (ys : List Int), Below q w W → Wr W q ys v' → ys.length + ((fun u : Lo Tx => nT u.x) u).length ≤ 100000000 → Calls Try.prog 49 #[.pointer (some ⟨q, 0, none⟩), .agg #[.int .i64 u.x.w, .int .i64 u.x.h, .slice u.A u.x.px.length u.c]] W (Says q v' (ys ++ (fun u : Lo Tx => nT u.x) u) W)) :
    Calls Try.prog 48 #[.pointer (some ⟨q, 0, none⟩), .slice A l.length c, .func (.func 49) #[.pointer (some ⟨q, 0, none⟩)] #[]] w (Says q v (xs ++ nAll (fun u : Lo Tx => nT u.x) l) w) := by
  have hq := h.lt
  obtain ⟨Y, y0, yn, ys, y1⟩ := said_steps xs (fun u : Lo Tx => nT u.x) l hn
  rw [← yn]
  have HL := Lib.hid (fun (k : Nat) (h : k < l.length) => get_lt h)
  have HS := Lib.hid (show ∀ t, t = w.alloc (.cells #[.int .i64 l.length] 3) → Calls Try.prog 44 #[.pointer (some ⟨q, 0, none⟩), .slice (some ⟨w.heap.size, 0, none⟩) 1 1] t (Says q v (Y 0) t) from fun t ht => by
    subst ht
    rw [y0]
    exact say_any [(l.length : Int)] _ 1 _ _ (h.alloc (.cells #[.int .i64 l.length] 3)) (es_new [(l.length : Int)] #[.int .i64 l.length] rfl) y1)
  have HF := Lib.hid ((Wf.refl q v w).alloc hq (.cells #[.int .i64 l.length] 3))
  have HE := Lib.hid he
  have HH := Lib.hid H
  have HY := Lib.hid ys
  obtain ⟨n, hnn⟩ : ∃ n, l.length = n := ⟨_, rfl⟩
  rw [hnn] at HL HS HF hl ⊢
  clear he H h hn y0 yn y1 ys hnn
  go_enter Try.func48, Try.ntmps48
  go_wp2_with fail
  with_reducible refine (HS.out _ rfl).mono ?_
  rintro e w1 ⟨rfl, v1, hw1, hf1⟩
  have HW1 := Lib.hid hw1
  have HF1 := Lib.hid (HF.out.trans hf1)
  clear hw1 hf1 HS HF
  go_wp2_with fail
  go_loopw [15] (fun i wr => ∃ j : Nat, j ≤ n ∧ i = .int .i64 j ∧ ∃ v', Wr wr q (Y j) v' ∧ Wf q v w v' wr) (fun i _ => n - (intOf i).toNat)
  case atStart => exact ⟨0, Nat.zero_le _, rfl, v1, HW1.out, HF1.out⟩
  case round =>
    obtain ⟨j, hk, rfl, v2, hw2, hf2⟩ := hrel
    have HW2 := Lib.hid hw2
    have HF2 := Lib.hid hf2
    clear hw2 hf2 HW1 HF1
    by_cases hlt : j < n
    · obtain ⟨u, hu⟩ := HL.out j hlt
      obtain ⟨b, off, rfl, hbB, hat⟩ := HE.out.at hu
      have hc := atT (show AtE ET wr b (off + j * 3) u from hat.below HF2.out.b hbB)
      obtain ⟨c0, c1, c2⟩ := hc
      have hs2 := HF2.out.size
      have hbw : b < wr.heap.size := by omega
      have hu' := List.mem_of_getElem? hu
      have HT := Lib.hid (HW2.out.alloc (.cells #[.int .i64 u.x.w, .int .i64 u.x.h, .slice u.A u.x.px.length u.c] 49))
      have HFT := Lib.hid (HF2.out.alloc hq (.cells #[.int .i64 u.x.w, .int .i64 u.x.h, .slice u.A u.x.px.length u.c] 49))
      have hy := HY.out j u hu
      have HU := Lib.hid (show ∀ t, t = wr.alloc (.cells #[.int .i64 u.x.w, .int .i64 u.x.h, .slice u.A u.x.px.length u.c] 49) → Calls Try.prog 49 #[.pointer (some ⟨q, 0, none⟩), .agg #[.int .i64 u.x.w, .int .i64 u.x.h, .slice u.A u.x.px.length u.c]] t (Says q v2 (Y (j + 1)) t) from fun t ht => by
        subst ht
        rw [hy.1]
        exact HH.out u hu' _ v2 _ HFT.out.b HT.out hy.2)
      clear hat hu' hu hy
      go_wp2_with fail
      with_reducible refine (HU.out _ rfl).mono ?_
      rintro e w3 ⟨rfl, v3, hw3, hf3⟩
      have HW3 := Lib.hid hw3
      have HF3 := Lib.hid (HFT.out.trans hf3)
      clear hw3 hf3 HU HT HFT
      go_wp2_with fail
      go_roundw
      case rel => exact ⟨j + 1, by omega, by go_num, v3, HW3.out, HF3.out⟩
      case measure => simp [intOf]; omega
    · obtain rfl : j = n := by omega
      go_wp2_with fail
      go_end0
      exact ⟨rfl, v2, HW2.out, HF2.out⟩

set_option maxRecDepth 100000 in
set_option maxHeartbeats 2000000 in
theorem sayP_any {q : Nat} {v : Value} {xs : List Int} (l : List (Lo (List C.In))) (A : Option Addr) (c : Nat) (w : World) (h : Wr w q xs v) (he : Es EP w q A l) (hl : l.length ≤ 100000) (hn : xs.length + (nAll (fun u : Lo (List C.In) => nP u.x) l).length ≤ 100000000)
    (H : ∀ u ∈ l, ∀ (W : World) (v' : Value) (ys : List Int), Below q w W → Wr W q ys v' → ys.length + ((fun u : Lo (List C.In) => nP u.x) u).length ≤ 100000000 → Calls Try.prog 51 #[.pointer (some ⟨q, 0, none⟩), .slice u.A u.x.length u.c] W (Says q v' (ys ++ (fun u : Lo (List C.In) => nP u.x) u) W)) :
    Calls Try.prog 50 #[.pointer (some ⟨q, 0, none⟩), .slice A l.length c, .func (.func 51) #[.pointer (some ⟨q, 0, none⟩)] #[]] w (Says q v (xs ++ nAll (fun u : Lo (List C.In) => nP u.x) l) w) := by
  have hq := h.lt
  obtain ⟨Y, y0, yn, ys, y1⟩ := said_steps xs (fun u : Lo (List C.In) => nP u.x) l hn
  rw [← yn]
  have HL := Lib.hid (fun (k : Nat) (h : k < l.length) => get_lt h)
  have HS := Lib.hid (show ∀ t, t = w.alloc (.cells #[.int .i64 l.length] 3) → Calls Try.prog 44 #[.pointer (some ⟨q, 0, none⟩), .slice (some ⟨w.heap.size, 0, none⟩) 1 1] t (Says q v (Y 0) t) from fun t ht => by
    subst ht
    rw [y0]
    exact say_any [(l.length : Int)] _ 1 _ _ (h.alloc (.cells #[.int .i64 l.length] 3)) (es_new [(l.length : Int)] #[.int .i64 l.length] rfl) y1)
  have HF := Lib.hid ((Wf.refl q v w).alloc hq (.cells #[.int .i64 l.length] 3))
  have HE := Lib.hid he
  have HH := Lib.hid H
  have HY := Lib.hid ys
  obtain ⟨n, hnn⟩ : ∃ n, l.length = n := ⟨_, rfl⟩
  rw [hnn] at HL HS HF hl ⊢
  clear he H h hn y0 yn y1 ys hnn
  go_enter Try.func50, Try.ntmps50
  go_wp2_with fail
  with_reducible refine (HS.out _ rfl).mono ?_
  rintro e w1 ⟨rfl, v1, hw1, hf1⟩
  have HW1 := Lib.hid hw1
  have HF1 := Lib.hid (HF.out.trans hf1)
  clear hw1 hf1 HS HF
  go_wp2_with fail
  go_loopw [15] (fun i wr => ∃ j : Nat, j ≤ n ∧ i = .int .i64 j ∧ ∃ v', Wr wr q (Y j) v' ∧ Wf q v w v' wr) (fun i _ => n - (intOf i).toNat)
  case atStart => exact ⟨0, Nat.zero_le _, rfl, v1, HW1.out, HF1.out⟩
  case round =>
    obtain ⟨j, hk, rfl, v2, hw2, hf2⟩ := hrel
    have HW2 := Lib.hid hw2
    have HF2 := Lib.hid hf2
    clear hw2 hf2 HW1 HF1
    by_cases hlt : j < n
    · obtain ⟨u, hu⟩ := HL.out j hlt
      obtain ⟨b, off, rfl, hbB, hat⟩ := HE.out.at hu
      have hc := atP (show AtE EP wr b (off + j * 1) u from hat.below HF2.out.b hbB)
      rw [Nat.mul_one] at hc
      have hs2 := HF2.out.size
      have hbw : b < wr.heap.size := by omega
      have hu' := List.mem_of_getElem? hu
      have HT := Lib.hid (HW2.out)
      have HFT := Lib.hid (HF2.out)
      have hy := HY.out j u hu
      have HU := Lib.hid (show ∀ t, t = wr → Calls Try.prog 51 #[.pointer (some ⟨q, 0, none⟩), .slice u.A u.x.length u.c] t (Says q v2 (Y (j + 1)) t) from fun t ht => by
        subst ht
        rw [hy.1]
        exact HH.out u hu' _ v2 _ HFT.out.b HT.out hy.2)
      clear hat hu' hu hy
      go_wp2_with fail
      with_reducible refine (HU.out _ rfl).mono ?_
      rintro e w3 ⟨rfl, v3, hw3, hf3⟩
      have HW3 := Lib.hid hw3
      have HF3 := Lib.hid (HFT.out.trans hf3)
      clear hw3 hf3 HU HT HFT
      go_wp2_with fail
      go_roundw
      case rel => exact ⟨j + 1, by omega, by go_num, v3, HW3.out, HF3.out⟩
      case measure => simp [intOf]; omega
    · obtain rfl : j = n := by omega
      go_wp2_with fail
      go_end0
      exact ⟨rfl, v2, HW2.out, HF2.out⟩

set_option maxRecDepth 100000 in
set_option maxHeartbeats 2000000 in
theorem sayD_any {q : Nat} {v : Value} {xs : List Int} (l : List (Lo Dr)) (A : Option Addr) (c : Nat) (w : World) (h : Wr w q xs v) (he : Es ED w q A l) (hl : l.length ≤ 100000) (hn : xs.length + (nAll (fun u : Lo Dr => nD u.x) l).length ≤ 100000000)
    (H : ∀ u ∈ l, ∀ (W : World) (v' : Value) (ys : List Int), Below q w W → Wr W q ys v' → ys.length + ((fun u : Lo Dr => nD u.x) u).length ≤ 100000000 → Calls Try.prog 53 #[.pointer (some ⟨q, 0, none⟩), .agg #[.int .i64 u.x.id, .int .i64 u.x.prog, .int .i64 u.x.tex, .bool u.x.op, .slice u.A u.x.tris.length u.c]] W (Says q v' (ys ++ (fun u : Lo Dr => nD u.x) u) W)) :
    Calls Try.prog 52 #[.pointer (some ⟨q, 0, none⟩), .slice A l.length c, .func (.func 53) #[.pointer (some ⟨q, 0, none⟩)] #[]] w (Says q v (xs ++ nAll (fun u : Lo Dr => nD u.x) l) w) := by
  have hq := h.lt
  obtain ⟨Y, y0, yn, ys, y1⟩ := said_steps xs (fun u : Lo Dr => nD u.x) l hn
  rw [← yn]
  have HL := Lib.hid (fun (k : Nat) (h : k < l.length) => get_lt h)
  have HS := Lib.hid (show ∀ t, t = w.alloc (.cells #[.int .i64 l.length] 3) → Calls Try.prog 44 #[.pointer (some ⟨q, 0, none⟩), .slice (some ⟨w.heap.size, 0, none⟩) 1 1] t (Says q v (Y 0) t) from fun t ht => by
    subst ht
    rw [y0]
    exact say_any [(l.length : Int)] _ 1 _ _ (h.alloc (.cells #[.int .i64 l.length] 3)) (es_new [(l.length : Int)] #[.int .i64 l.length] rfl) y1)
  have HF := Lib.hid ((Wf.refl q v w).alloc hq (.cells #[.int .i64 l.length] 3))
  have HE := Lib.hid he
  have HH := Lib.hid H
  have HY := Lib.hid ys
  obtain ⟨n, hnn⟩ : ∃ n, l.length = n := ⟨_, rfl⟩
  rw [hnn] at HL HS HF hl ⊢
  clear he H h hn y0 yn y1 ys hnn
  go_enter Try.func52, Try.ntmps52
  go_wp2_with fail
  with_reducible refine (HS.out _ rfl).mono ?_
  rintro e w1 ⟨rfl, v1, hw1, hf1⟩
  have HW1 := Lib.hid hw1
  have HF1 := Lib.hid (HF.out.trans hf1)
  clear hw1 hf1 HS HF
  go_wp2_with fail
  go_loopw [15] (fun i wr => ∃ j : Nat, j ≤ n ∧ i = .int .i64 j ∧ ∃ v', Wr wr q (Y j) v' ∧ Wf q v w v' wr) (fun i _ => n - (intOf i).toNat)
  case atStart => exact ⟨0, Nat.zero_le _, rfl, v1, HW1.out, HF1.out⟩
  case round =>
    obtain ⟨j, hk, rfl, v2, hw2, hf2⟩ := hrel
    have HW2 := Lib.hid hw2
    have HF2 := Lib.hid hf2
    clear hw2 hf2 HW1 HF1
    by_cases hlt : j < n
    · obtain ⟨u, hu⟩ := HL.out j hlt
      obtain ⟨b, off, rfl, hbB, hat⟩ := HE.out.at hu
      have hc := atD (show AtE ED wr b (off + j * 5) u from hat.below HF2.out.b hbB)
      obtain ⟨c0, c1, c2, c3, c4⟩ := hc
      have hs2 := HF2.out.size
      have hbw : b < wr.heap.size := by omega
      have hu' := List.mem_of_getElem? hu
      have HT := Lib.hid (HW2.out.alloc (.cells #[.int .i64 u.x.id, .int .i64 u.x.prog, .int .i64 u.x.tex, .bool u.x.op, .slice u.A u.x.tris.length u.c] 52))
      have HFT := Lib.hid (HF2.out.alloc hq (.cells #[.int .i64 u.x.id, .int .i64 u.x.prog, .int .i64 u.x.tex, .bool u.x.op, .slice u.A u.x.tris.length u.c] 52))
      have hy := HY.out j u hu
      have HU := Lib.hid (show ∀ t, t = wr.alloc (.cells #[.int .i64 u.x.id, .int .i64 u.x.prog, .int .i64 u.x.tex, .bool u.x.op, .slice u.A u.x.tris.length u.c] 52) → Calls Try.prog 53 #[.pointer (some ⟨q, 0, none⟩), .agg #[.int .i64 u.x.id, .int .i64 u.x.prog, .int .i64 u.x.tex, .bool u.x.op, .slice u.A u.x.tris.length u.c]] t (Says q v2 (Y (j + 1)) t) from fun t ht => by
        subst ht
        rw [hy.1]
        exact HH.out u hu' _ v2 _ HFT.out.b HT.out hy.2)
      clear hat hu' hu hy
      go_wp2_with fail
      with_reducible refine (HU.out _ rfl).mono ?_
      rintro e w3 ⟨rfl, v3, hw3, hf3⟩
      have HW3 := Lib.hid hw3
      have HF3 := Lib.hid (HFT.out.trans hf3)
      clear hw3 hf3 HU HT HFT
      go_wp2_with fail
      go_roundw
      case rel => exact ⟨j + 1, by omega, by go_num, v3, HW3.out, HF3.out⟩
      case measure => simp [intOf]; omega
    · obtain rfl : j = n := by omega
      go_wp2_with fail
      go_end0
      exact ⟨rfl, v2, HW2.out, HF2.out⟩

set_option maxRecDepth 100000 in
set_option maxHeartbeats 2000000 in
theorem sayC_any {q : Nat} {v : Value} {xs : List Int} (l : List (Col)) (A : Option Addr) (c : Nat) (w : World) (h : Wr w q xs v) (he : Es EC w q A l) (hl : l.length ≤ 100000) (hn : xs.length + (nAll nC l).length ≤ 100000000)
    (H : ∀ u ∈ l, ∀ (W : World) (v' : Value) (ys : List Int), Below q w W → Wr W q ys v' → ys.length + (nC u).length ≤ 100000000 → Calls Try.prog 45 #[.pointer (some ⟨q, 0, none⟩), .agg #[.int .u8 u.r, .int .u8 u.g, .int .u8 u.b, .int .u8 u.a]] W (Says q v' (ys ++ nC u) W)) :
    Calls Try.prog 79 #[.pointer (some ⟨q, 0, none⟩), .slice A l.length c, .func (.func 45) #[.pointer (some ⟨q, 0, none⟩)] #[]] w (Says q v (xs ++ nAll nC l) w) := by
  have hq := h.lt
  obtain ⟨Y, y0, yn, ys, y1⟩ := said_steps xs nC l hn
  rw [← yn]
  have HL := Lib.hid (fun (k : Nat) (h : k < l.length) => get_lt h)
  have HS := Lib.hid (show ∀ t, t = w.alloc (.cells #[.int .i64 l.length] 3) → Calls Try.prog 44 #[.pointer (some ⟨q, 0, none⟩), .slice (some ⟨w.heap.size, 0, none⟩) 1 1] t (Says q v (Y 0) t) from fun t ht => by
    subst ht
    rw [y0]
    exact say_any [(l.length : Int)] _ 1 _ _ (h.alloc (.cells #[.int .i64 l.length] 3)) (es_new [(l.length : Int)] #[.int .i64 l.length] rfl) y1)
  have HF := Lib.hid ((Wf.refl q v w).alloc hq (.cells #[.int .i64 l.length] 3))
  have HE := Lib.hid he
  have HH := Lib.hid H
  have HY := Lib.hid ys
  obtain ⟨n, hnn⟩ : ∃ n, l.length = n := ⟨_, rfl⟩
  rw [hnn] at HL HS HF hl ⊢
  clear he H h hn y0 yn y1 ys hnn
  go_enter Try.func79, Try.ntmps79
  go_wp2_with fail
  with_reducible refine (HS.out _ rfl).mono ?_
  rintro e w1 ⟨rfl, v1, hw1, hf1⟩
  have HW1 := Lib.hid hw1
  have HF1 := Lib.hid (HF.out.trans hf1)
  clear hw1 hf1 HS HF
  go_wp2_with fail
  go_loopw [15] (fun i wr => ∃ j : Nat, j ≤ n ∧ i = .int .i64 j ∧ ∃ v', Wr wr q (Y j) v' ∧ Wf q v w v' wr) (fun i _ => n - (intOf i).toNat)
  case atStart => exact ⟨0, Nat.zero_le _, rfl, v1, HW1.out, HF1.out⟩
  case round =>
    obtain ⟨j, hk, rfl, v2, hw2, hf2⟩ := hrel
    have HW2 := Lib.hid hw2
    have HF2 := Lib.hid hf2
    clear hw2 hf2 HW1 HF1
    by_cases hlt : j < n
    · obtain ⟨u, hu⟩ := HL.out j hlt
      obtain ⟨b, off, rfl, hbB, hat⟩ := HE.out.at hu
      have hc := atC (show AtE EC wr b (off + j * 4) u from hat.below HF2.out.b hbB)
      obtain ⟨c0, c1, c2, c3⟩ := hc
      have hs2 := HF2.out.size
      have hbw : b < wr.heap.size := by omega
      have hu' := List.mem_of_getElem? hu
      have HT := Lib.hid (HW2.out.alloc (.cells #[.int .u8 u.r, .int .u8 u.g, .int .u8 u.b, .int .u8 u.a] 27))
      have HFT := Lib.hid (HF2.out.alloc hq (.cells #[.int .u8 u.r, .int .u8 u.g, .int .u8 u.b, .int .u8 u.a] 27))
      have hy := HY.out j u hu
      have HU := Lib.hid (show ∀ t, t = wr.alloc (.cells #[.int .u8 u.r, .int .u8 u.g, .int .u8 u.b, .int .u8 u.a] 27) → Calls Try.prog 45 #[.pointer (some ⟨q, 0, none⟩), .agg #[.int .u8 u.r, .int .u8 u.g, .int .u8 u.b, .int .u8 u.a]] t (Says q v2 (Y (j + 1)) t) from fun t ht => by
        subst ht
        rw [hy.1]
        exact HH.out u hu' _ v2 _ HFT.out.b HT.out hy.2)
      clear hat hu' hu hy
      go_wp2_with fail
      with_reducible refine (HU.out _ rfl).mono ?_
      rintro e w3 ⟨rfl, v3, hw3, hf3⟩
      have HW3 := Lib.hid hw3
      have HF3 := Lib.hid (HFT.out.trans hf3)
      clear hw3 hf3 HU HT HFT
      go_wp2_with fail
      go_roundw
      case rel => exact ⟨j + 1, by omega, by go_num, v3, HW3.out, HF3.out⟩
      case measure => simp [intOf]; omega
    · obtain rfl : j = n := by omega
      go_wp2_with fail
      go_end0
      exact ⟨rfl, v2, HW2.out, HF2.out⟩

set_option maxRecDepth 100000 in
set_option maxHeartbeats 2000000 in
theorem sayI_any {q : Nat} {v : Value} {xs : List Int} (l : List (C.In)) (A : Option Addr) (c : Nat) (w : World) (h : Wr w q xs v) (he : Es C.EI w q A l) (hl : l.length ≤ 100000) (hn : xs.length + (nAll nI l).length ≤ 100000000)
    (H : ∀ u ∈ l, ∀ (W : World) (v' : Value) (ys : List Int), Below q w W → Wr W q ys v' → ys.length + (nI u).length ≤ 100000000 → Calls Try.prog 81 #[.pointer (some ⟨q, 0, none⟩), .agg #[.int .u8 u.o, .int .u8 u.d, .int .u8 u.a, .int .u8 u.b, .int .i64 u.n]] W (Says q v' (ys ++ nI u) W)) :
    Calls Try.prog 80 #[.pointer (some ⟨q, 0, none⟩), .slice A l.length c, .func (.func 81) #[.pointer (some ⟨q, 0, none⟩)] #[]] w (Says q v (xs ++ nAll nI l) w) := by
  have hq := h.lt
  obtain ⟨Y, y0, yn, ys, y1⟩ := said_steps xs nI l hn
  rw [← yn]
  have HL := Lib.hid (fun (k : Nat) (h : k < l.length) => get_lt h)
  have HS := Lib.hid (show ∀ t, t = w.alloc (.cells #[.int .i64 l.length] 3) → Calls Try.prog 44 #[.pointer (some ⟨q, 0, none⟩), .slice (some ⟨w.heap.size, 0, none⟩) 1 1] t (Says q v (Y 0) t) from fun t ht => by
    subst ht
    rw [y0]
    exact say_any [(l.length : Int)] _ 1 _ _ (h.alloc (.cells #[.int .i64 l.length] 3)) (es_new [(l.length : Int)] #[.int .i64 l.length] rfl) y1)
  have HF := Lib.hid ((Wf.refl q v w).alloc hq (.cells #[.int .i64 l.length] 3))
  have HE := Lib.hid he
  have HH := Lib.hid H
  have HY := Lib.hid ys
  obtain ⟨n, hnn⟩ : ∃ n, l.length = n := ⟨_, rfl⟩
  rw [hnn] at HL HS HF hl ⊢
  clear he H h hn y0 yn y1 ys hnn
  go_enter Try.func80, Try.ntmps80
  go_wp2_with fail
  with_reducible refine (HS.out _ rfl).mono ?_
  rintro e w1 ⟨rfl, v1, hw1, hf1⟩
  have HW1 := Lib.hid hw1
  have HF1 := Lib.hid (HF.out.trans hf1)
  clear hw1 hf1 HS HF
  go_wp2_with fail
  go_loopw [15] (fun i wr => ∃ j : Nat, j ≤ n ∧ i = .int .i64 j ∧ ∃ v', Wr wr q (Y j) v' ∧ Wf q v w v' wr) (fun i _ => n - (intOf i).toNat)
  case atStart => exact ⟨0, Nat.zero_le _, rfl, v1, HW1.out, HF1.out⟩
  case round =>
    obtain ⟨j, hk, rfl, v2, hw2, hf2⟩ := hrel
    have HW2 := Lib.hid hw2
    have HF2 := Lib.hid hf2
    clear hw2 hf2 HW1 HF1
    by_cases hlt : j < n
    · obtain ⟨u, hu⟩ := HL.out j hlt
      obtain ⟨b, off, rfl, hbB, hat⟩ := HE.out.at hu
      have hc := C.atI (show AtE C.EI wr b (off + j * 5) u from hat.below HF2.out.b hbB)
      obtain ⟨c0, c1, c2, c3, c4⟩ := hc
      have hs2 := HF2.out.size
      have hbw : b < wr.heap.size := by omega
      have hu' := List.mem_of_getElem? hu
      have HT := Lib.hid (HW2.out.alloc (.cells #[.int .u8 u.o, .int .u8 u.d, .int .u8 u.a, .int .u8 u.b, .int .i64 u.n] 70))
      have HFT := Lib.hid (HF2.out.alloc hq (.cells #[.int .u8 u.o, .int .u8 u.d, .int .u8 u.a, .int .u8 u.b, .int .i64 u.n] 70))
      have hy := HY.out j u hu
      have HU := Lib.hid (show ∀ t, t = wr.alloc (.cells #[.int .u8 u.o, .int .u8 u.d, .int .u8 u.a, .int .u8 u.b, .int .i64 u.n] 70) → Calls Try.prog 81 #[.pointer (some ⟨q, 0, none⟩), .agg #[.int .u8 u.o, .int .u8 u.d, .int .u8 u.a, .int .u8 u.b, .int .i64 u.n]] t (Says q v2 (Y (j + 1)) t) from fun t ht => by
        subst ht
        rw [hy.1]
        exact HH.out u hu' _ v2 _ HFT.out.b HT.out hy.2)
      clear hat hu' hu hy
      go_wp2_with fail
      with_reducible refine (HU.out _ rfl).mono ?_
      rintro e w3 ⟨rfl, v3, hw3, hf3⟩
      have HW3 := Lib.hid hw3
      have HF3 := Lib.hid (HFT.out.trans hf3)
      clear hw3 hf3 HU HT HFT
      go_wp2_with fail
      go_roundw
      case rel => exact ⟨j + 1, by omega, by go_num, v3, HW3.out, HF3.out⟩
      case measure => simp [intOf]; omega
    · obtain rfl : j = n := by omega
      go_wp2_with fail
      go_end0
      exact ⟨rfl, v2, HW2.out, HF2.out⟩

set_option maxRecDepth 100000 in
set_option maxHeartbeats 2000000 in
theorem sayR_any {q : Nat} {v : Value} {xs : List Int} (l : List (Tr)) (A : Option Addr) (c : Nat) (w : World) (h : Wr w q xs v) (he : Es ER w q A l) (hl : l.length ≤ 100000) (hn : xs.length + (nAll nR l).length ≤ 100000000)
    (H : ∀ u ∈ l, ∀ (W : World) (v' : Value) (ys : List Int), Below q w W → Wr W q ys v' → ys.length + (nR u).length ≤ 100000000 → Calls Try.prog 84 #[.pointer (some ⟨q, 0, none⟩), .agg #[.int .i64 u.i, .int .i64 u.a, .int .i64 u.b, .int .i64 u.c]] W (Says q v' (ys ++ nR u) W)) :
    Calls Try.prog 83 #[.pointer (some ⟨q, 0, none⟩), .slice A l.length c, .func (.func 84) #[.pointer (some ⟨q, 0, none⟩)] #[]] w (Says q v (xs ++ nAll nR l) w) := by
  have hq := h.lt
  obtain ⟨Y, y0, yn, ys, y1⟩ := said_steps xs nR l hn
  rw [← yn]
  have HL := Lib.hid (fun (k : Nat) (h : k < l.length) => get_lt h)
  have HS := Lib.hid (show ∀ t, t = w.alloc (.cells #[.int .i64 l.length] 3) → Calls Try.prog 44 #[.pointer (some ⟨q, 0, none⟩), .slice (some ⟨w.heap.size, 0, none⟩) 1 1] t (Says q v (Y 0) t) from fun t ht => by
    subst ht
    rw [y0]
    exact say_any [(l.length : Int)] _ 1 _ _ (h.alloc (.cells #[.int .i64 l.length] 3)) (es_new [(l.length : Int)] #[.int .i64 l.length] rfl) y1)
  have HF := Lib.hid ((Wf.refl q v w).alloc hq (.cells #[.int .i64 l.length] 3))
  have HE := Lib.hid he
  have HH := Lib.hid H
  have HY := Lib.hid ys
  obtain ⟨n, hnn⟩ : ∃ n, l.length = n := ⟨_, rfl⟩
  rw [hnn] at HL HS HF hl ⊢
  clear he H h hn y0 yn y1 ys hnn
  go_enter Try.func83, Try.ntmps83
  go_wp2_with fail
  with_reducible refine (HS.out _ rfl).mono ?_
  rintro e w1 ⟨rfl, v1, hw1, hf1⟩
  have HW1 := Lib.hid hw1
  have HF1 := Lib.hid (HF.out.trans hf1)
  clear hw1 hf1 HS HF
  go_wp2_with fail
  go_loopw [15] (fun i wr => ∃ j : Nat, j ≤ n ∧ i = .int .i64 j ∧ ∃ v', Wr wr q (Y j) v' ∧ Wf q v w v' wr) (fun i _ => n - (intOf i).toNat)
  case atStart => exact ⟨0, Nat.zero_le _, rfl, v1, HW1.out, HF1.out⟩
  case round =>
    obtain ⟨j, hk, rfl, v2, hw2, hf2⟩ := hrel
    have HW2 := Lib.hid hw2
    have HF2 := Lib.hid hf2
    clear hw2 hf2 HW1 HF1
    by_cases hlt : j < n
    · obtain ⟨u, hu⟩ := HL.out j hlt
      obtain ⟨b, off, rfl, hbB, hat⟩ := HE.out.at hu
      have hc := atR (show AtE ER wr b (off + j * 4) u from hat.below HF2.out.b hbB)
      obtain ⟨c0, c1, c2, c3⟩ := hc
      have hs2 := HF2.out.size
      have hbw : b < wr.heap.size := by omega
      have hu' := List.mem_of_getElem? hu
      have HT := Lib.hid (HW2.out.alloc (.cells #[.int .i64 u.i, .int .i64 u.a, .int .i64 u.b, .int .i64 u.c] 74))
      have HFT := Lib.hid (HF2.out.alloc hq (.cells #[.int .i64 u.i, .int .i64 u.a, .int .i64 u.b, .int .i64 u.c] 74))
      have hy := HY.out j u hu
      have HU := Lib.hid (show ∀ t, t = wr.alloc (.cells #[.int .i64 u.i, .int .i64 u.a, .int .i64 u.b, .int .i64 u.c] 74) → Calls Try.prog 84 #[.pointer (some ⟨q, 0, none⟩), .agg #[.int .i64 u.i, .int .i64 u.a, .int .i64 u.b, .int .i64 u.c]] t (Says q v2 (Y (j + 1)) t) from fun t ht => by
        subst ht
        rw [hy.1]
        exact HH.out u hu' _ v2 _ HFT.out.b HT.out hy.2)
      clear hat hu' hu hy
      go_wp2_with fail
      with_reducible refine (HU.out _ rfl).mono ?_
      rintro e w3 ⟨rfl, v3, hw3, hf3⟩
      have HW3 := Lib.hid hw3
      have HF3 := Lib.hid (HFT.out.trans hf3)
      clear hw3 hf3 HU HT HFT
      go_wp2_with fail
      go_roundw
      case rel => exact ⟨j + 1, by omega, by go_num, v3, HW3.out, HF3.out⟩
      case measure => simp [intOf]; omega
    · obtain rfl : j = n := by omega
      go_wp2_with fail
      go_end0
      exact ⟨rfl, v2, HW2.out, HF2.out⟩
end Go.Proofs.Ytfmmfaeognoleaa
/-
  What a writer says of a picture, a program, a draw, a scene; and codec.Bytes.
-/
namespace Go.Proofs.Ytfmmfaeognoleaa
open Go.RowKit
attribute [local go_sem ↓] Go.wp_at_zero Go.wp_at_succ

theorem wf_below {q : Nat} {v v' : Value} {w w' : World} {α : Type} {E : Elem α} {A : Option Addr} {xs : List α} (h : Wf q v w v' w') (he : Es E w q A xs) : Es E w' q A xs := he.below h.b
theorem bel_es {q : Nat} {w w' : World} {α : Type} {E : Elem α} {A : Option Addr} {xs : List α} (h : Below q w w') (he : Es E w q A xs) : Es E w' q A xs := he.below h

set_option maxRecDepth 100000 in
set_option maxHeartbeats 1000000 in
theorem wtex_any {q : Nat} {v : Value} {xs : List Int} (u : Lo Tx) (hu : u.x.ok) (hl : u.x.px.length ≤ 100000) (w : World) (h : Wr w q xs v) (he : Es EC w q u.A u.x.px) (hn : xs.length + (nT u.x).length ≤ 100000000) :
    Calls Try.prog 49 #[.pointer (some ⟨q, 0, none⟩), .agg #[.int .i64 u.x.w, .int .i64 u.x.h, .slice u.A u.x.px.length u.c]] w (Says q v (xs ++ nT u.x) w) := by
  have hq := h.lt
  have hnw := h.new
  have hmf := mk_func
  have hn2 : xs.length + ((nAll nC u.x.px).length + 2) ≤ 100000000 := hn
  have HS := Lib.hid (fun t (ht : t = (w.alloc (.cells #[.int .i64 u.x.w, .int .i64 u.x.h, .slice u.A u.x.px.length u.c] 49)).alloc (.cells #[.int .i64 u.x.w, .int .i64 u.x.h] 3)) => show Calls Try.prog 44 #[.pointer (some ⟨q, 0, none⟩), .slice (some ⟨w.heap.size + 1, 0, none⟩) 2 2] t (Says q v (xs ++ [u.x.w, u.x.h]) t) from by
    subst ht
    have hw := (h.alloc (.cells #[.int .i64 u.x.w, .int .i64 u.x.h, .slice u.A u.x.px.length u.c] 49)).alloc (.cells #[.int .i64 u.x.w, .int .i64 u.x.h] 3)
    have he := es_new (w := w.alloc (.cells #[.int .i64 u.x.w, .int .i64 u.x.h, .slice u.A u.x.px.length u.c] 49)) [u.x.w, u.x.h] #[.int .i64 u.x.w, .int .i64 u.x.h] rfl
    simp only [World.size_alloc] at he
    exact say_any [u.x.w, u.x.h] _ 2 _ _ hw he (by show xs.length + 2 ≤ _; omega))
  have HF := Lib.hid (((Wf.refl q v w).alloc hq (.cells #[.int .i64 u.x.w, .int .i64 u.x.h, .slice u.A u.x.px.length u.c] 49)).alloc hq (.cells #[.int .i64 u.x.w, .int .i64 u.x.h] 3))
  have HG := Lib.hid (show ((w.alloc (.cells #[.int .i64 u.x.w, .int .i64 u.x.h, .slice u.A u.x.px.length u.c] 49)).alloc (.cells #[.int .i64 u.x.w, .int .i64 u.x.h] 3)).heap[w.heap.size]? = some (.cells #[.int .i64 u.x.w, .int .i64 u.x.h, .slice u.A u.x.px.length u.c] 49 (0, 0)) from (heap_alloc_old _ _ (by simp)).trans (heap_alloc_new _ _))
  have HN := Lib.hid (And.intro hn2 (And.intro hu (And.intro hl he)))
  clear h hn hn2 hu hl he
  go_enter Try.func49, Try.ntmps49
  go_wp2_with fail
  with_reducible refine (HS.out _ rfl).mono ?_
  rintro e w1 ⟨rfl, v1, hw1, hf1⟩
  have hg := hf1.other HG.out (by omega) hnw
  have hc2 : w1.cell? ⟨w.heap.size, 2, none⟩ = some (.slice u.A u.x.px.length u.c) := Joins.cell_of_block hg 2
  have HF1 := Lib.hid (HF.out.trans hf1)
  have H2 := Lib.hid (show Calls Try.prog 79 #[.pointer (some ⟨q, 0, none⟩), .slice u.A u.x.px.length u.c, .func (.func 45) #[.pointer (some ⟨q, 0, none⟩)] #[]] w1 (Says q v1 (xs ++ nT u.x) w1) from by
    have := sayC_any u.x.px u.A u.c w1 hw1 (wf_below HF1.out HN.out.2.2.2) HN.out.2.2.1 (by have := HN.out.1; rw [List.length_append]; show xs.length + 2 + _ ≤ _; omega) fun c hc W v' ys _ hW hN => wcol_any c (HN.out.2.1 c hc) W hW hN
    rw [List.append_assoc] at this
    exact this)
  clear hg hw1 hf1 HS HG HF
  go_wp2_with fail
  with_reducible refine (H2.out).mono ?_
  rintro e w2 ⟨rfl, v2, hw2, hf2⟩
  go_wp2
  go_end0
  exact ⟨rfl, v2, hw2, HF1.out.trans hf2⟩
set_option maxRecDepth 100000 in
set_option maxHeartbeats 1000000 in
theorem wprog_any {q : Nat} {v : Value} {xs : List Int} (u : Lo (List C.In)) (hu : ∀ x ∈ u.x, x.ok) (hl : u.x.length ≤ 100000) (w : World) (h : Wr w q xs v) (he : Es C.EI w q u.A u.x) (hn : xs.length + (nP u.x).length ≤ 100000000) :
    Calls Try.prog 51 #[.pointer (some ⟨q, 0, none⟩), .slice u.A u.x.length u.c] w (Says q v (xs ++ nP u.x) w) := by
  have hmf := mk_func
  have H2 := Lib.hid (show Calls Try.prog 80 #[.pointer (some ⟨q, 0, none⟩), .slice u.A u.x.length u.c, .func (.func 81) #[.pointer (some ⟨q, 0, none⟩)] #[]] w (Says q v (xs ++ nP u.x) w) from
    sayI_any u.x u.A u.c w h he hl hn fun c hc W v' ys _ hW hN => wins_any c (hu c hc) W hW hN)
  clear h he hn
  go_enter Try.func51, Try.ntmps51
  go_wp2_with fail
  with_reducible refine (H2.out).mono ?_
  rintro e w2 ⟨rfl, v2, hw2, hf2⟩
  go_wp2
  go_end0
  exact ⟨rfl, v2, hw2, hf2⟩
set_option maxRecDepth 100000 in
set_option maxHeartbeats 1000000 in
theorem wdraw_any {q : Nat} {v : Value} {xs : List Int} (u : Lo Dr) (hl : u.x.tris.length ≤ 100000) (w : World) (h : Wr w q xs v) (he : Es ER w q u.A u.x.tris) (hn : xs.length + (nD u.x).length ≤ 100000000) :
    Calls Try.prog 53 #[.pointer (some ⟨q, 0, none⟩), .agg #[.int .i64 u.x.id, .int .i64 u.x.prog, .int .i64 u.x.tex, .bool u.x.op, .slice u.A u.x.tris.length u.c]] w (Says q v (xs ++ nD u.x) w) := by
  have hq := h.lt
  have hnw := h.new
  have hmf := mk_func
  have hn2 : xs.length + ((nAll nR u.x.tris).length + 4) ≤ 100000000 := hn
  have HS := Lib.hid (fun t (ht : t = (w.alloc (.cells #[.int .i64 u.x.id, .int .i64 u.x.prog, .int .i64 u.x.tex, .bool u.x.op, .slice u.A u.x.tris.length u.c] 52)).alloc (.cells #[.int .i64 u.x.id, .int .i64 u.x.prog, .int .i64 u.x.tex] 3)) => show Calls Try.prog 44 #[.pointer (some ⟨q, 0, none⟩), .slice (some ⟨w.heap.size + 1, 0, none⟩) 3 3] t (Says q v (xs ++ [u.x.id, u.x.prog, u.x.tex]) t) from by
    subst ht
    have hw := (h.alloc (.cells #[.int .i64 u.x.id, .int .i64 u.x.prog, .int .i64 u.x.tex, .bool u.x.op, .slice u.A u.x.tris.length u.c] 52)).alloc (.cells #[.int .i64 u.x.id, .int .i64 u.x.prog, .int .i64 u.x.tex] 3)
    have he := es_new (w := w.alloc (.cells #[.int .i64 u.x.id, .int .i64 u.x.prog, .int .i64 u.x.tex, .bool u.x.op, .slice u.A u.x.tris.length u.c] 52)) [u.x.id, u.x.prog, u.x.tex] #[.int .i64 u.x.id, .int .i64 u.x.prog, .int .i64 u.x.tex] rfl
    simp only [World.size_alloc] at he
    exact say_any [u.x.id, u.x.prog, u.x.tex] _ 3 _ _ hw he (by show xs.length + 3 ≤ _; omega))
  have HF := Lib.hid (((Wf.refl q v w).alloc hq (.cells #[.int .i64 u.x.id, .int .i64 u.x.prog, .int .i64 u.x.tex, .bool u.x.op, .slice u.A u.x.tris.length u.c] 52)).alloc hq (.cells #[.int .i64 u.x.id, .int .i64 u.x.prog, .int .i64 u.x.tex] 3))
  have HG := Lib.hid (show ((w.alloc (.cells #[.int .i64 u.x.id, .int .i64 u.x.prog, .int .i64 u.x.tex, .bool u.x.op, .slice u.A u.x.tris.length u.c] 52)).alloc (.cells #[.int .i64 u.x.id, .int .i64 u.x.prog, .int .i64 u.x.tex] 3)).heap[w.heap.size]? = some (.cells #[.int .i64 u.x.id, .int .i64 u.x.prog, .int .i64 u.x.tex, .bool u.x.op, .slice u.A u.x.tris.length u.c] 52 (0, 0)) from (heap_alloc_old _ _ (by simp)).trans (heap_alloc_new _ _))
  have HN := Lib.hid (And.intro hn2 (And.intro hl he))
  clear h hn hn2 hl he
  go_enter Try.func53, Try.ntmps53
  go_wp2_with fail
  with_reducible refine (HS.out _ rfl).mono ?_
  rintro e w1 ⟨rfl, v1, hw1, hf1⟩
  have hg := hf1.other HG.out (by omega) hnw
  have hg2 := hf1.not (g := w.heap.size) (by simp; omega) hnw
  have hc3 : w1.cell? ⟨w.heap.size, 3, none⟩ = some (.bool u.x.op) := Joins.cell_of_block hg 3
  have HF1 := Lib.hid (HF.out.trans hf1)
  have H2 := Lib.hid (wsign_any u.x.op w1 hw1 (by have := HN.out.1; simp; omega))
  have HG1 := Lib.hid hg
  clear hg hw1 hf1 HS HG HF
  go_wp2_with fail
  with_reducible refine (H2.out).mono ?_
  rintro e w2 ⟨rfl, v2, hw2, hf2⟩
  have hg := hf2.other HG1.out (by omega) hg2
  have hc4 : w2.cell? ⟨w.heap.size, 4, none⟩ = some (.slice u.A u.x.tris.length u.c) := Joins.cell_of_block hg 4
  have HF2 := Lib.hid (HF1.out.trans hf2)
  have H3 := Lib.hid (show Calls Try.prog 83 #[.pointer (some ⟨q, 0, none⟩), .slice u.A u.x.tris.length u.c, .func (.func 84) #[.pointer (some ⟨q, 0, none⟩)] #[]] w2 (Says q v2 (xs ++ nD u.x) w2) from by
    have := sayR_any u.x.tris u.A u.c w2 hw2 (wf_below HF2.out HN.out.2.2) HN.out.2.1 (by have := HN.out.1; simp only [List.length_append, List.length_cons, List.length_nil]; omega) fun c _ W v' ys _ hW hN => wtri_any c W hW hN
    rw [List.append_assoc, List.append_assoc] at this
    exact this)
  clear hg hw2 hf2 H2 HG1 HF1
  go_wp2_with fail
  with_reducible refine (H3.out).mono ?_
  rintro e w3 ⟨rfl, v3, hw3, hf3⟩
  go_wp2
  go_end0
  exact ⟨rfl, v3, hw3, HF2.out.trans hf3⟩
theorem nS_map (s : Sc) : nS s.p = s.w :: s.h :: (nC s.k ++ (nAll nV s.vs ++ (nAll (fun u : Lo Tx => nT u.x) s.ts ++ (nAll (fun u : Lo (List C.In) => nP u.x) s.ps ++ nAll (fun u : Lo Dr => nD u.x) s.ds)))) := by
  rw [nAll_map Lo.x nT, nAll_map Lo.x nP, nAll_map Lo.x nD]
  rfl
set_option maxRecDepth 100000 in
set_option maxHeartbeats 2000000 in
theorem wscene_any {q : Nat} {v : Value} {xs : List Int} (s : Sc) (hok : s.ok) (hf : s.few) (w : World) (h : Wr w q xs v) (ha : s.at w q) (hn : xs.length + (nS s.p).length ≤ 100000000) :
    Calls Try.prog 26 #[.pointer (some ⟨q, 0, none⟩), .agg #[.int .i64 s.w, .int .i64 s.h, .int .u8 s.k.r, .int .u8 s.k.g, .int .u8 s.k.b, .int .u8 s.k.a, .slice s.vA s.vs.length s.vc, .slice s.tA s.ts.length s.tc, .slice s.pA s.ps.length s.pc, .slice s.dA s.ds.length s.dc]] w (Says q v (xs ++ nS s.p) w) := by
  have hq := h.lt
  have hnw := h.new
  have hmf := mk_func
  rw [nS_map] at hn ⊢
  obtain ⟨N1, e1⟩ : ∃ N, nAll nV s.vs = N := ⟨_, rfl⟩
  obtain ⟨N2, e2⟩ : ∃ N, nAll (fun u : Lo Tx => nT u.x) s.ts = N := ⟨_, rfl⟩
  obtain ⟨N3, e3⟩ : ∃ N, nAll (fun u : Lo (List C.In) => nP u.x) s.ps = N := ⟨_, rfl⟩
  obtain ⟨N4, e4⟩ : ∃ N, nAll (fun u : Lo Dr => nD u.x) s.ds = N := ⟨_, rfl⟩
  rw [e1, e2, e3, e4] at hn ⊢
  have hn2 : xs.length + (2 + (4 + (N1.length + (N2.length + (N3.length + N4.length))))) ≤ 100000000 := by
    simp only [List.length_append, List.length_cons, nC, List.length_nil] at hn
    omega
  have HS := Lib.hid (fun t (ht : t = (w.alloc (.cells #[.int .i64 s.w, .int .i64 s.h, .int .u8 s.k.r, .int .u8 s.k.g, .int .u8 s.k.b, .int .u8 s.k.a, .slice s.vA s.vs.length s.vc, .slice s.tA s.ts.length s.tc, .slice s.pA s.ps.length s.pc, .slice s.dA s.ds.length s.dc] 33)).alloc (.cells #[.int .i64 s.w, .int .i64 s.h] 3)) => show Calls Try.prog 44 #[.pointer (some ⟨q, 0, none⟩), .slice (some ⟨w.heap.size + 1, 0, none⟩) 2 2] t (Says q v (xs ++ [s.w, s.h]) t) from by
    subst ht
    have hw := (h.alloc (.cells #[.int .i64 s.w, .int .i64 s.h, .int .u8 s.k.r, .int .u8 s.k.g, .int .u8 s.k.b, .int .u8 s.k.a, .slice s.vA s.vs.length s.vc, .slice s.tA s.ts.length s.tc, .slice s.pA s.ps.length s.pc, .slice s.dA s.ds.length s.dc] 33)).alloc (.cells #[.int .i64 s.w, .int .i64 s.h] 3)
    have he := es_new (w := w.alloc (.cells #[.int .i64 s.w, .int .i64 s.h, .int .u8 s.k.r, .int .u8 s.k.g, .int .u8 s.k.b, .int .u8 s.k.a, .slice s.vA s.vs.length s.vc, .slice s.tA s.ts.length s.tc, .slice s.pA s.ps.length s.pc, .slice s.dA s.ds.length s.dc] 33)) [s.w, s.h] #[.int .i64 s.w, .int .i64 s.h] rfl
    simp only [World.size_alloc] at he
    exact say_any [s.w, s.h] _ 2 _ _ hw he (by show xs.length + 2 ≤ _; omega))
  have HF := Lib.hid (((Wf.refl q v w).alloc hq (.cells #[.int .i64 s.w, .int .i64 s.h, .int .u8 s.k.r, .int .u8 s.k.g, .int .u8 s.k.b, .int .u8 s.k.a, .slice s.vA s.vs.length s.vc, .slice s.tA s.ts.length s.tc, .slice s.pA s.ps.length s.pc, .slice s.dA s.ds.length s.dc] 33)).alloc hq (.cells #[.int .i64 s.w, .int .i64 s.h] 3))
  have HG := Lib.hid (show ((w.alloc (.cells #[.int .i64 s.w, .int .i64 s.h, .int .u8 s.k.r, .int .u8 s.k.g, .int .u8 s.k.b, .int .u8 s.k.a, .slice s.vA s.vs.length s.vc, .slice s.tA s.ts.length s.tc, .slice s.pA s.ps.length s.pc, .slice s.dA s.ds.length s.dc] 33)).alloc (.cells #[.int .i64 s.w, .int .i64 s.h] 3)).heap[w.heap.size]? = some (scB s) from (heap_alloc_old _ _ (by simp)).trans (heap_alloc_new _ _))
  have HSz := Lib.hid (show w.heap.size < ((w.alloc (.cells #[.int .i64 s.w, .int .i64 s.h, .int .u8 s.k.r, .int .u8 s.k.g, .int .u8 s.k.b, .int .u8 s.k.a, .slice s.vA s.vs.length s.vc, .slice s.tA s.ts.length s.tc, .slice s.pA s.ps.length s.pc, .slice s.dA s.ds.length s.dc] 33)).alloc (.cells #[.int .i64 s.w, .int .i64 s.h] 3)).heap.size by simp; omega)
  have HN := Lib.hid hn2
  have HA := Lib.hid ha
  have HK := Lib.hid hok
  have HW := Lib.hid hf
  clear h hn hn2 ha hok hf
  go_enter Try.func26, Try.ntmps26
  go_wp2_with fail
  with_reducible refine (HS.out _ rfl).mono ?_
  rintro e w1 ⟨rfl, v1, hw1, hf1⟩
  have hg := hf1.other HG.out (by omega) hnw
  have hg2 := hf1.not HSz.out hnw
  obtain ⟨-, -, c2, c3, c4, c5, -⟩ := scB_cell hg
  have HF1 := Lib.hid (HF.out.trans hf1)
  have HG1 := Lib.hid (And.intro hg hg2)
  have H2 := Lib.hid (wcol_any s.k HK.out.k w1 hw1 (by have := HN.out; simp only [List.length_append, List.length_cons, List.length_nil]; omega))
  clear hg hg2 hw1 hf1 HS HG HF HSz
  go_wp2_with fail
  with_reducible refine (H2.out).mono ?_
  rintro e w2 ⟨rfl, v2, hw2, hf2⟩
  have hg := hf2.other HG1.out.1 (by omega) HG1.out.2
  have hg2 := hf2.not (scB_lt HG1.out.1) HG1.out.2
  obtain ⟨-, -, -, -, -, -, c6, -⟩ := scB_cell hg
  have HF2 := Lib.hid (HF1.out.trans hf2)
  have HG2 := Lib.hid (And.intro hg hg2)
  have H3 := Lib.hid (show Calls Try.prog 46 #[.pointer (some ⟨q, 0, none⟩), .slice s.vA s.vs.length s.vc, .func (.func 47) #[.pointer (some ⟨q, 0, none⟩)] #[]] w2 (Says q v2 (xs ++ [s.w, s.h] ++ nC s.k ++ N1) w2) from by
    rw [← e1]
    exact sayV_any s.vs s.vA s.vc w2 hw2 (wf_below HF2.out HA.out.v) HW.out.vs (by have := HN.out; rw [e1]; simp only [nC, List.length_append, List.length_cons, List.length_nil]; omega) fun c _ W v' ys _ hW hN => wvec_any c W hW hN)
  clear hg hg2 hw2 hf2 H2 HG1 HF1 c2 c3 c4 c5
  go_wp2_with fail
  with_reducible refine (H3.out).mono ?_
  rintro e w3 ⟨rfl, v3, hw3, hf3⟩
  have hg := hf3.other HG2.out.1 (by omega) HG2.out.2
  have hg2 := hf3.not (scB_lt HG2.out.1) HG2.out.2
  obtain ⟨-, -, -, -, -, -, -, c7, -⟩ := scB_cell hg
  have HF3 := Lib.hid (HF2.out.trans hf3)
  have HG3 := Lib.hid (And.intro hg hg2)
  have H4 := Lib.hid (show Calls Try.prog 48 #[.pointer (some ⟨q, 0, none⟩), .slice s.tA s.ts.length s.tc, .func (.func 49) #[.pointer (some ⟨q, 0, none⟩)] #[]] w3 (Says q v3 (xs ++ [s.w, s.h] ++ nC s.k ++ N1 ++ N2) w3) from by
    rw [← e2]
    exact sayT_any s.ts s.tA s.tc w3 hw3 (wf_below HF3.out HA.out.t) HW.out.ts (by have := HN.out; rw [e2]; simp only [nC, List.length_append, List.length_cons, List.length_nil]; omega) fun c hc W v' ys hb hW hN => wtex_any c (HK.out.ts c hc).2.2.1 (HW.out.tx c hc) W hW (((HA.out.tx c hc).below HF3.out.b).below hb) hN)
  clear hg hg2 hw3 hf3 H3 HG2 HF2 c6
  go_wp2_with fail
  with_reducible refine (H4.out).mono ?_
  rintro e w4 ⟨rfl, v4, hw4, hf4⟩
  have hg := hf4.other HG3.out.1 (by omega) HG3.out.2
  have hg2 := hf4.not (scB_lt HG3.out.1) HG3.out.2
  obtain ⟨-, -, -, -, -, -, -, -, c8, -⟩ := scB_cell hg
  have HF4 := Lib.hid (HF3.out.trans hf4)
  have HG4 := Lib.hid (And.intro hg hg2)
  have H5 := Lib.hid (show Calls Try.prog 50 #[.pointer (some ⟨q, 0, none⟩), .slice s.pA s.ps.length s.pc, .func (.func 51) #[.pointer (some ⟨q, 0, none⟩)] #[]] w4 (Says q v4 (xs ++ [s.w, s.h] ++ nC s.k ++ N1 ++ N2 ++ N3) w4) from by
    rw [← e3]
    exact sayP_any s.ps s.pA s.pc w4 hw4 (wf_below HF4.out HA.out.p) HW.out.ps (by have := HN.out; rw [e3]; simp only [nC, List.length_append, List.length_cons, List.length_nil]; omega) fun c hc W v' ys hb hW hN => wprog_any c (HK.out.ps c hc).1 (HW.out.px c hc) W hW (((HA.out.px c hc).below HF4.out.b).below hb) hN)
  clear hg hg2 hw4 hf4 H4 HG3 HF3 c7
  go_wp2_with fail
  with_reducible refine (H5.out).mono ?_
  rintro e w5 ⟨rfl, v5, hw5, hf5⟩
  have hg := hf5.other HG4.out.1 (by omega) HG4.out.2
  obtain ⟨-, -, -, -, -, -, -, -, -, c9⟩ := scB_cell hg
  have HF5 := Lib.hid (HF4.out.trans hf5)
  have H6 := Lib.hid (show Calls Try.prog 52 #[.pointer (some ⟨q, 0, none⟩), .slice s.dA s.ds.length s.dc, .func (.func 53) #[.pointer (some ⟨q, 0, none⟩)] #[]] w5 (Says q v5 (xs ++ s.w :: s.h :: (nC s.k ++ (N1 ++ (N2 ++ (N3 ++ N4))))) w5) from by
    rw [← e4]
    have := sayD_any s.ds s.dA s.dc w5 hw5 (wf_below HF5.out HA.out.d) HW.out.ds (by have := HN.out; rw [e4]; simp only [nC, List.length_append, List.length_cons, List.length_nil]; omega) fun c hc W v' ys hb hW hN => wdraw_any c (HW.out.dx c hc) W hW (((HA.out.dx c hc).below HF5.out.b).below hb) hN
    simpa using this)
  clear hg hw5 hf5 H5 HG4 HF4 c8
  go_wp2_with fail
  with_reducible refine (H6.out).mono ?_
  rintro e w6 ⟨rfl, v6, hw6, hf6⟩
  go_wp2
  go_end0
  exact ⟨rfl, v6, hw6, HF5.out.trans hf6⟩
theorem sl_of_es {w : World} {B : Nat} {A : Option Addr} {xs : List Int} (h : Es EN w B A xs) : P.Sl .i64 w B A xs := fun hne => by
  obtain ⟨b, off, rfl, hb, hc⟩ := h hne
  refine ⟨b, off, rfl, hb, fun j hj => ?_⟩
  have h2 := hc j xs[j] (List.getElem?_eq_getElem hj) 0 _ rfl
  rw [show off + j * EN.size + 0 = off + j by rw [show EN.size = 1 from rfl]; omega] at h2
  rw [h2, List.getD_eq_getElem?_getD, List.getElem?_eq_getElem hj]
  rfl
theorem es_of_sl {w : World} {B : Nat} {A : Option Addr} {xs : List Int} (h : P.Sl .i64 w B A xs) : Es EN w B A xs := fun hne => by
  obtain ⟨b, off, rfl, hb, hc⟩ := h hne
  refine ⟨b, off, rfl, hb, fun j u hj i y hy => ?_⟩
  have hjl : j < xs.length := (List.getElem?_eq_some_iff.1 hj).1
  have hi : i = 0 := by
    rcases Nat.eq_zero_or_pos i with e | e
    · exact e
    · rw [List.getElem?_eq_none (by show 1 ≤ i; omega)] at hy; cases hy
  subst hi
  obtain rfl : Value.int .i64 u = y := by simpa [EN] using hy
  rw [show off + j * EN.size + 0 = off + j by rw [show EN.size = 1 from rfl]; omega, hc j hjl, List.getD_eq_getElem?_getD, hj]
  rfl
theorem wr_new (w : World) : Wr (w.alloc (.cells #[.slice none 0 0] 77)) w.heap.size [] (.slice none 0 0) := ⟨heap_alloc_new _ _, OwnE.nil _ _⟩
set_option maxRecDepth 100000 in
set_option maxHeartbeats 1000000 in
theorem bytes_any (s : Sc) (hok : s.ok) (hf : s.few) (w : World) (ha : s.at w w.heap.size) (hn : (nS s.p).length ≤ 100000000) :
    Calls Try.prog 12 #[.agg #[.int .i64 s.w, .int .i64 s.h, .int .u8 s.k.r, .int .u8 s.k.g, .int .u8 s.k.b, .int .u8 s.k.a, .slice s.vA s.vs.length s.vc, .slice s.tA s.ts.length s.tc, .slice s.pA s.ps.length s.pc, .slice s.dA s.ds.length s.dc]] w (P.Made 5 .u8 w.heap.size w (P.put (nS s.p))) := by
  have hi := ins_nS (ok_p hok) (few_p hf)
  have HG := Lib.hid (show ((w.alloc (.cells #[.int .i64 s.w, .int .i64 s.h, .int .u8 s.k.r, .int .u8 s.k.g, .int .u8 s.k.b, .int .u8 s.k.a, .slice s.vA s.vs.length s.vc, .slice s.tA s.ts.length s.tc, .slice s.pA s.ps.length s.pc, .slice s.dA s.ds.length s.dc] 33)).alloc (.cells #[.slice none 0 0] 77)).heap[w.heap.size]? = some (scB s) from (heap_alloc_old _ _ (by simp)).trans (heap_alloc_new _ _))
  have HB := Lib.hid (bstep (new_below w (.cells #[.int .i64 s.w, .int .i64 s.h, .int .u8 s.k.r, .int .u8 s.k.g, .int .u8 s.k.b, .int .u8 s.k.a, .slice s.vA s.vs.length s.vc, .slice s.tA s.ts.length s.tc, .slice s.pA s.ps.length s.pc, .slice s.dA s.ds.length s.dc] 33)) (by simp) (new_below (w.alloc (.cells #[.int .i64 s.w, .int .i64 s.h, .int .u8 s.k.r, .int .u8 s.k.g, .int .u8 s.k.b, .int .u8 s.k.a, .slice s.vA s.vs.length s.vc, .slice s.tA s.ts.length s.tc, .slice s.pA s.ps.length s.pc, .slice s.dA s.ds.length s.dc] 33)) (.cells #[.slice none 0 0] 77)))
  have H1 := Lib.hid (show ∀ t, t = (w.alloc (.cells #[.int .i64 s.w, .int .i64 s.h, .int .u8 s.k.r, .int .u8 s.k.g, .int .u8 s.k.b, .int .u8 s.k.a, .slice s.vA s.vs.length s.vc, .slice s.tA s.ts.length s.tc, .slice s.pA s.ps.length s.pc, .slice s.dA s.ds.length s.dc] 33)).alloc (.cells #[.slice none 0 0] 77) → Calls Try.prog 26 #[.pointer (some ⟨w.heap.size + 1, 0, none⟩), .agg #[.int .i64 s.w, .int .i64 s.h, .int .u8 s.k.r, .int .u8 s.k.g, .int .u8 s.k.b, .int .u8 s.k.a, .slice s.vA s.vs.length s.vc, .slice s.tA s.ts.length s.tc, .slice s.pA s.ps.length s.pc, .slice s.dA s.ds.length s.dc]] t (Says (w.heap.size + 1) (.slice none 0 0) (nS s.p) t) from fun t ht => by
    have hw := wr_new (w.alloc (.cells #[.int .i64 s.w, .int .i64 s.h, .int .u8 s.k.r, .int .u8 s.k.g, .int .u8 s.k.b, .int .u8 s.k.a, .slice s.vA s.vs.length s.vc, .slice s.tA s.ts.length s.tc, .slice s.pA s.ps.length s.pc, .slice s.dA s.ds.length s.dc] 33))
    simp only [World.size_alloc] at hw
    have := wscene_any s hok hf t (ht ▸ hw) ((ha.below (ht ▸ HB.out)).more (Nat.le_succ _)) (by simpa using hn)
    simpa using this)
  obtain ⟨c0, c1, c2, c3, c4, c5, c6, c7, c8, c9⟩ := scB_cell HG.out
  have HI := Lib.hid hi
  have HN := Lib.hid hn
  clear hok hf ha hi hn
  go_enter Try.func12, Try.ntmps12
  go_wp2_with fail
  with_reducible refine (H1.out _ rfl).mono ?_
  rintro e w1 ⟨rfl, v1, hw1, hf1⟩
  obtain ⟨A, c, rfl⟩ := hw1.own.form
  have hc := hw1.cell
  obtain ⟨-, -, hes⟩ := ownE_es hw1.own
  have HB1 := Lib.hid (HB.out.trans (hf1.b.mono (Nat.le_succ _)))
  have HP := Lib.hid (P.put_any A c (nS s.p) w1.heap.size w1 (sl_of_es hes) (Nat.le_refl _) HI.out HN.out)
  clear hw1 hf1 hes
  go_wp2_with fail
  with_reducible refine (HP.out).mono ?_
  rintro e w2 ⟨v2, rfl, ho, hb⟩
  go_wp2
  go_ret
  exact ⟨v2, rfl, ho.less HB1.out.size, bstep HB1.out HB1.out.size hb⟩
end Go.Proofs.Ytfmmfaeognoleaa
/-
  What a reader reads: a number, one up to another, a byte, a sign; a colour, a vertex, an instruction, a triangle.
-/
namespace Go.Proofs.Ytfmmfaeognoleaa
open Go.RowKit
attribute [local go_sem ↓] Go.wp_at_zero Go.wp_at_succ

theorem wrap_small {n : Int} (h0 : 0 ≤ n) (h1 : n ≤ 255) : IntKind.u8.wrap n = n := by rw [IntKind.wrap_u8]; omega
set_option maxRecDepth 100000 in
set_option maxHeartbeats 1000000 in
theorem number_any {p : Nat} {s : St} (w : World) (h : Rd w p s) :
    Calls Try.prog 56 #[.pointer (some ⟨p, 0, none⟩)] w fun e w' => e = .returned (.int .i64 (rNum s).1) ∧ Rd w' p (rNum s).2 ∧ But p w w' := by
  have hlt := h.lt
  obtain ⟨A, c, hb, hc, hE⟩ := h
  obtain ⟨c0, c1⟩ := rdB_cell hb
  have hf := rdB_free hb
  have hf0 := hf 0
  have hf1 := hf 1
  have HB := Lib.hid hb
  clear hb hf
  obtain ⟨l, bad⟩ := s
  cases l with
  | nil =>
    have c0' : w.cell? ⟨p, 0, none⟩ = some (.slice A 0 c) := c0
    have HR := Lib.hid (show Rd (w.setCell ⟨p, 1, none⟩ (.bool true)) p ⟨[], true⟩ from ⟨A, c, rdB_set1 HB.out, Nat.zero_le _, Es.none_⟩)
    show Calls Try.prog 56 #[.pointer (some ⟨p, 0, none⟩)] w fun e w' => e = .returned (.int .i64 0) ∧ Rd w' p ⟨[], true⟩ ∧ But p w w'
    clear c0 hc hE
    go_enter Try.func56, Try.ntmps56
    go_wp2
    go_ret
    exact ⟨rfl, HR.out, (But.refl p w).set⟩
  | cons n r =>
    have hst := slice_tail A r.length c
    obtain ⟨b, off, rfl, hbp, hat⟩ := hE (by simp)
    have hc2 := atN (hat 0 n rfl)
    rw [Nat.zero_mul, Nat.add_zero] at hc2
    have hbw : b < w.heap.size := by omega
    have hc' : r.length + 1 ≤ c := hc
    have c0' : w.cell? ⟨p, 0, none⟩ = some (.slice (some ⟨b, off, none⟩) (r.length + 1) c) := c0
    have HT := Lib.hid (es_tail (show Es EN w p (some ⟨b, off, none⟩) (n :: r) from fun _ => ⟨b, off, rfl, hbp, hat⟩) hc')
    obtain ⟨A', hA'⟩ : ∃ A', (if c = 1 then some (⟨b, off, none⟩ : Addr) else (some (⟨b, off, none⟩ : Addr)).map fun x => x.add 1) = A' := ⟨_, rfl⟩
    rw [hA'] at hst HT
    have HR := Lib.hid (show Rd (w.setCell ⟨p, 0, none⟩ (.slice A' r.length (c - 1))) p ⟨r, bad⟩ from ⟨A', c - 1, rdB_set0 HB.out, by show r.length ≤ c - 1; omega, HT.out.below ((Below.refl p w).setCell (Nat.le_refl p) _)⟩)
    show Calls Try.prog 56 #[.pointer (some ⟨p, 0, none⟩)] w fun e w' => e = .returned (.int .i64 n) ∧ Rd w' p ⟨r, bad⟩ ∧ But p w w'
    generalize r.length = m at *
    clear c0 hc hE hat hA' HT
    go_enter Try.func56, Try.ntmps56
    go_wp2
    go_ret
    exact ⟨rfl, HR.out, (But.refl p w).set⟩
/-- What a call reads: its value, and the reader goes on. -/
def Reads (p : Nat) (val : Value) (t : St) (w : World) (e : Ending) (w' : World) : Prop := e = .returned val ∧ Rd w' p t ∧ But p w w'
set_option maxRecDepth 100000 in
set_option maxHeartbeats 1000000 in
theorem upTo_any {p : Nat} {s : St} (m : Int) (w : World) (h : Rd w p s) :
    Calls Try.prog 89 #[.pointer (some ⟨p, 0, none⟩), .int .i64 m] w (Reads p (.int .i64 (rUp m s).1) (rUp m s).2 w) := by
  have HN := Lib.hid (number_any w h)
  have hu : rUp m s = if (rNum s).1 < 0 ∨ m < (rNum s).1 then (0, ⟨(rNum s).2.l, true⟩) else rNum s := rfl
  rw [hu]
  obtain ⟨n, hn⟩ : ∃ n, (rNum s).1 = n := ⟨_, rfl⟩
  obtain ⟨t, ht⟩ : ∃ t, (rNum s).2 = t := ⟨_, rfl⟩
  have hnt : rNum s = (n, t) := by rw [← hn, ← ht]
  rw [hn, ht, hnt]
  rw [hn, ht] at HN
  clear h hu hn ht hnt
  have KF := Lib.hid (fun w1 (hr : Rd w1 p t) => show ∃ A c, w1.heap[p]? = some (rdB A t.l.length c t.bad) ∧ Rd (w1.setCell ⟨p, 1, none⟩ (.bool true)) p ⟨t.l, true⟩ from by
    obtain ⟨A, c, h1, h2, h3⟩ := hr
    exact ⟨A, c, h1, A, c, rdB_set1 h1, h2, h3.below ((Below.refl p w1).setCell (Nat.le_refl p) _)⟩)
  by_cases h0 : n < 0
  · rw [if_pos (.inl h0)]
    go_enter Try.func89, Try.ntmps89
    go_wp2_with fail
    with_reducible refine (HN.out).mono ?_
    rintro e w1 ⟨rfl, hr, hb⟩
    obtain ⟨A, c, h1, h2⟩ := KF.out w1 hr
    have k0 := (rdB_cell h1).2
    have k1 := rdB_free h1 1
    have HR := Lib.hid (And.intro h2 hb)
    clear hr hb h1 h2
    go_wp2
    go_ret
    exact ⟨rfl, HR.out.1, HR.out.2.set⟩
  · by_cases h1 : m < n
    · rw [if_pos (.inr h1)]
      go_enter Try.func89, Try.ntmps89
      go_wp2_with fail
      with_reducible refine (HN.out).mono ?_
      rintro e w1 ⟨rfl, hr, hb⟩
      obtain ⟨A, c, h3, h4⟩ := KF.out w1 hr
      have k0 := (rdB_cell h3).2
      have k1 := rdB_free h3 1
      have HR := Lib.hid (And.intro h4 hb)
      clear hr hb h3 h4
      go_wp2
      go_ret
      exact ⟨rfl, HR.out.1, HR.out.2.set⟩
    · rw [if_neg (by omega)]
      go_enter Try.func89, Try.ntmps89
      go_wp2_with fail
      with_reducible refine (HN.out).mono ?_
      rintro e w1 ⟨rfl, hr, hb⟩
      have HR := Lib.hid (And.intro hr hb)
      clear hr hb
      go_wp2
      go_ret
      exact ⟨rfl, HR.out.1, HR.out.2⟩
theorem up_bd (m : Int) (hm : 0 ≤ m) (s : St) : 0 ≤ (rUp m s).1 ∧ (rUp m s).1 ≤ m := by
  unfold rUp
  split
  · exact ⟨Int.le_refl _, hm⟩
  · omega
set_option maxRecDepth 100000 in
set_option maxHeartbeats 1000000 in
theorem sm_any {p : Nat} {s : St} (w : World) (h : Rd w p s) :
    Calls Try.prog 88 #[.pointer (some ⟨p, 0, none⟩)] w (Reads p (.int .u8 (rSm s).1) (rSm s).2 w) := by
  have HN := Lib.hid (upTo_any 255 w h)
  obtain ⟨h0, h1⟩ := up_bd 255 (by decide) s
  unfold rSm
  generalize rUp 255 s = r at *
  obtain ⟨n, t⟩ := r
  have hw := wrap_small h0 h1
  dsimp only at *
  clear h
  go_enter Try.func88, Try.ntmps88
  go_wp2_with fail
  with_reducible refine (HN.out).mono ?_
  rintro e w1 ⟨rfl, hr, hb⟩
  have HR := Lib.hid (And.intro hr hb)
  clear hr hb
  go_wp2
  go_ret
  exact ⟨rfl, HR.out.1, HR.out.2⟩
set_option maxRecDepth 100000 in
set_option maxHeartbeats 1000000 in
theorem sign_any {p : Nat} {s : St} (w : World) (h : Rd w p s) :
    Calls Try.prog 93 #[.pointer (some ⟨p, 0, none⟩)] w (Reads p (.bool (rSign s).1) (rSign s).2 w) := by
  have HN := Lib.hid (upTo_any 1 w h)
  obtain ⟨h0, h1⟩ := up_bd 1 (by decide) s
  unfold rSign
  generalize rUp 1 s = r at *
  obtain ⟨n, t⟩ := r
  dsimp only at *
  clear h
  have hn : n = 0 ∨ n = 1 := by omega
  clear h0 h1
  rcases hn with rfl | rfl
  · go_enter Try.func93, Try.ntmps93
    go_wp2_with fail
    with_reducible refine (HN.out).mono ?_
    rintro e w1 ⟨rfl, hr, hb⟩
    have HR := Lib.hid (And.intro hr hb)
    clear hr hb
    go_wp2
    go_ret
    exact ⟨rfl, HR.out.1, HR.out.2⟩
  · go_enter Try.func93, Try.ntmps93
    go_wp2_with fail
    with_reducible refine (HN.out).mono ?_
    rintro e w1 ⟨rfl, hr, hb⟩
    have HR := Lib.hid (And.intro hr hb)
    clear hr hb
    go_wp2
    go_ret
    exact ⟨rfl, HR.out.1, HR.out.2⟩
end Go.Proofs.Ytfmmfaeognoleaa
/-
  What a reader reads: a colour, a vertex, an instruction, a triangle.
-/
namespace Go.Proofs.Ytfmmfaeognoleaa
open Go.RowKit
attribute [local go_sem ↓] Go.wp_at_zero Go.wp_at_succ

set_option maxRecDepth 100000 in
set_option maxHeartbeats 1000000 in
theorem rcol_any {p : Nat} {s : St} (w : World) (h : Rd w p s) :
    Calls Try.prog 57 #[.pointer (some ⟨p, 0, none⟩)] w (Reads p (.agg #[.int .u8 (rC s).1.r, .int .u8 (rC s).1.g, .int .u8 (rC s).1.b, .int .u8 (rC s).1.a]) (rC s).2 w) := by
  have hp := h.lt
  have H0 := Lib.hid (show Rd (w.alloc (.cells #[.int .u8 0, .int .u8 0, .int .u8 0, .int .u8 0] 27)) p s from h.alloc _)
  have HB0 := Lib.hid (show But p w (w.alloc (.cells #[.int .u8 0, .int .u8 0, .int .u8 0, .int .u8 0] 27)) from (But.refl p w).alloc hp _)
  have HG0 := Lib.hid (show (w.alloc (.cells #[.int .u8 0, .int .u8 0, .int .u8 0, .int .u8 0] 27)).heap[w.heap.size]? = some (.cells #[.int .u8 0, .int .u8 0, .int .u8 0, .int .u8 0] 27 (0, 0)) from heap_alloc_new _ _)
  have HZ0 := Lib.hid (show w.heap.size < (w.alloc (.cells #[.int .u8 0, .int .u8 0, .int .u8 0, .int .u8 0] 27)).heap.size by simp)
  clear h
  obtain ⟨x1, t1, e1⟩ : ∃ x t, rSm s = (x, t) := ⟨_, _, rfl⟩
  have C1 := Lib.hid (show ∀ w, Rd w p s → Calls Try.prog 88 #[.pointer (some ⟨p, 0, none⟩)] w (Reads p (.int .u8 x1) t1 w) from fun w h => by have h2 := sm_any w h; rw [e1] at h2; exact h2)
  obtain ⟨x2, t2, e2⟩ : ∃ x t, rSm t1 = (x, t) := ⟨_, _, rfl⟩
  have C2 := Lib.hid (show ∀ w, Rd w p t1 → Calls Try.prog 88 #[.pointer (some ⟨p, 0, none⟩)] w (Reads p (.int .u8 x2) t2 w) from fun w h => by have h2 := sm_any w h; rw [e2] at h2; exact h2)
  obtain ⟨x3, t3, e3⟩ : ∃ x t, rSm t2 = (x, t) := ⟨_, _, rfl⟩
  have C3 := Lib.hid (show ∀ w, Rd w p t2 → Calls Try.prog 88 #[.pointer (some ⟨p, 0, none⟩)] w (Reads p (.int .u8 x3) t3 w) from fun w h => by have h2 := sm_any w h; rw [e3] at h2; exact h2)
  obtain ⟨x4, t4, e4⟩ : ∃ x t, rSm t3 = (x, t) := ⟨_, _, rfl⟩
  have C4 := Lib.hid (show ∀ w, Rd w p t3 → Calls Try.prog 88 #[.pointer (some ⟨p, 0, none⟩)] w (Reads p (.int .u8 x4) t4 w) from fun w h => by have h2 := sm_any w h; rw [e4] at h2; exact h2)
  have hC : rC s = (⟨x1, x2, x3, x4⟩, t4) := by unfold rC; simp only [e1, e2, e3, e4]
  rw [hC]
  clear hC e1 e2 e3 e4
  go_enter Try.func57, Try.ntmps57
  go_wp2_with fail
  with_reducible refine (C1.out _ H0.out).mono ?_
  rintro e w1 ⟨rfl, hr, hb⟩
  have HR1 := Lib.hid hr
  have HB1 := Lib.hid (HB0.out.trans hb)
  have HG1 := Lib.hid ((hb.block HZ0.out (by omega)).trans HG0.out)
  have HZ1 := Lib.hid (Nat.lt_of_lt_of_le HZ0.out hb.size)
  clear hr hb C1 H0 HB0 HG0 HZ0
  go_wp2_with fail
  with_reducible refine (C2.out _ HR1.out).mono ?_
  rintro e w2 ⟨rfl, hr, hb⟩
  have HR2 := Lib.hid hr
  have HB2 := Lib.hid (HB1.out.trans hb)
  have HG2 := Lib.hid ((hb.block HZ1.out (by omega)).trans HG1.out)
  have HZ2 := Lib.hid (Nat.lt_of_lt_of_le HZ1.out hb.size)
  clear hr hb C2 HR1 HB1 HG1 HZ1
  go_wp2_with fail
  with_reducible refine (C3.out _ HR2.out).mono ?_
  rintro e w3 ⟨rfl, hr, hb⟩
  have HR3 := Lib.hid hr
  have HB3 := Lib.hid (HB2.out.trans hb)
  have HG3 := Lib.hid ((hb.block HZ2.out (by omega)).trans HG2.out)
  have HZ3 := Lib.hid (Nat.lt_of_lt_of_le HZ2.out hb.size)
  clear hr hb C3 HR2 HB2 HG2 HZ2
  go_wp2_with fail
  with_reducible refine (C4.out _ HR3.out).mono ?_
  rintro e w4 ⟨rfl, hr, hb⟩
  have HR4 := Lib.hid hr
  have HB4 := Lib.hid (HB3.out.trans hb)
  have HG4 := Lib.hid ((hb.block HZ3.out (by omega)).trans HG3.out)
  have HZ4 := Lib.hid (Nat.lt_of_lt_of_le HZ3.out hb.size)
  clear hr hb C4 HR3 HB3 HG3 HZ3
  have f0 : w4.frozen? ⟨w.heap.size, 0, none⟩ = false := by simp [World.frozen?, HG4.out]
  have c0 := Joins.cell_of_block HG4.out 0
  have f1 : w4.frozen? ⟨w.heap.size, 1, none⟩ = false := by simp [World.frozen?, HG4.out]
  have c1 := Joins.cell_of_block HG4.out 1
  have f2 : w4.frozen? ⟨w.heap.size, 2, none⟩ = false := by simp [World.frozen?, HG4.out]
  have c2 := Joins.cell_of_block HG4.out 2
  have f3 : w4.frozen? ⟨w.heap.size, 3, none⟩ = false := by simp [World.frozen?, HG4.out]
  have c3 := Joins.cell_of_block HG4.out 3
  have HS := Lib.hid (show (((((w4).setCell ⟨w.heap.size, 0, none⟩ (.int .u8 x1)).setCell ⟨w.heap.size, 1, none⟩ (.int .u8 x2)).setCell ⟨w.heap.size, 2, none⟩ (.int .u8 x3)).setCell ⟨w.heap.size, 3, none⟩ (.int .u8 x4)).heap[w.heap.size]? = some (.cells #[.int .u8 x1, .int .u8 x2, .int .u8 x3, .int .u8 x4] 27 (0, 0)) from (heap_setCell_same _ _ _ _ _ _ (heap_setCell_same _ _ _ _ _ _ (heap_setCell_same _ _ _ _ _ _ (heap_setCell_same _ _ _ _ _ _ HG4.out)))).trans (by simp))
  have HX := Lib.hid (show Rd (((((w4).setCell ⟨w.heap.size, 0, none⟩ (.int .u8 x1)).setCell ⟨w.heap.size, 1, none⟩ (.int .u8 x2)).setCell ⟨w.heap.size, 2, none⟩ (.int .u8 x3)).setCell ⟨w.heap.size, 3, none⟩ (.int .u8 x4)) p t4 from ((((HR4.out.setNew hp).setNew hp).setNew hp).setNew hp))
  have HY := Lib.hid (show But p w (((((w4).setCell ⟨w.heap.size, 0, none⟩ (.int .u8 x1)).setCell ⟨w.heap.size, 1, none⟩ (.int .u8 x2)).setCell ⟨w.heap.size, 2, none⟩ (.int .u8 x3)).setCell ⟨w.heap.size, 3, none⟩ (.int .u8 x4)) from ((((HB4.out.setNew (by omega) (Nat.le_refl _)).setNew (by omega) (Nat.le_refl _)).setNew (by omega) (Nat.le_refl _)).setNew (by omega) (Nat.le_refl _)))
  go_wp2_with fail
  obtain ⟨W, hW⟩ : ∃ W, ((((w4).setCell ⟨w.heap.size, 0, none⟩ (.int .u8 x1)).setCell ⟨w.heap.size, 1, none⟩ (.int .u8 x2)).setCell ⟨w.heap.size, 2, none⟩ (.int .u8 x3)).setCell ⟨w.heap.size, 3, none⟩ (.int .u8 x4) = W := ⟨_, rfl⟩
  rw [hW] at HS HX HY
  try rw [hW]
  have k0 := Joins.cell_of_block HS.out 0
  have k1 := Joins.cell_of_block HS.out 1
  have k2 := Joins.cell_of_block HS.out 2
  have k3 := Joins.cell_of_block HS.out 3
  refine bodyPost_ret (v := .agg #[.int .u8 x1, .int .u8 x2, .int .u8 x3, .int .u8 x4]) (by simp [results, Try.results57, go_sem, k0, k1, k2, k3]) rfl ⟨rfl, HX.out, HY.out⟩
set_option maxRecDepth 100000 in
set_option maxHeartbeats 1000000 in
theorem rins_any {p : Nat} {s : St} (w : World) (h : Rd w p s) :
    Calls Try.prog 92 #[.pointer (some ⟨p, 0, none⟩)] w (Reads p (.agg #[.int .u8 (rI s).1.o, .int .u8 (rI s).1.d, .int .u8 (rI s).1.a, .int .u8 (rI s).1.b, .int .i64 (rI s).1.n]) (rI s).2 w) := by
  have hp := h.lt
  have H0 := Lib.hid (show Rd (w.alloc (.cells #[.int .u8 0, .int .u8 0, .int .u8 0, .int .u8 0, .int .i64 0] 70)) p s from h.alloc _)
  have HB0 := Lib.hid (show But p w (w.alloc (.cells #[.int .u8 0, .int .u8 0, .int .u8 0, .int .u8 0, .int .i64 0] 70)) from (But.refl p w).alloc hp _)
  have HG0 := Lib.hid (show (w.alloc (.cells #[.int .u8 0, .int .u8 0, .int .u8 0, .int .u8 0, .int .i64 0] 70)).heap[w.heap.size]? = some (.cells #[.int .u8 0, .int .u8 0, .int .u8 0, .int .u8 0, .int .i64 0] 70 (0, 0)) from heap_alloc_new _ _)
  have HZ0 := Lib.hid (show w.heap.size < (w.alloc (.cells #[.int .u8 0, .int .u8 0, .int .u8 0, .int .u8 0, .int .i64 0] 70)).heap.size by simp)
  clear h
  obtain ⟨x1, t1, e1⟩ : ∃ x t, rSm s = (x, t) := ⟨_, _, rfl⟩
  have C1 := Lib.hid (show ∀ w, Rd w p s → Calls Try.prog 88 #[.pointer (some ⟨p, 0, none⟩)] w (Reads p (.int .u8 x1) t1 w) from fun w h => by have h2 := sm_any w h; rw [e1] at h2; exact h2)
  obtain ⟨x2, t2, e2⟩ : ∃ x t, rSm t1 = (x, t) := ⟨_, _, rfl⟩
  have C2 := Lib.hid (show ∀ w, Rd w p t1 → Calls Try.prog 88 #[.pointer (some ⟨p, 0, none⟩)] w (Reads p (.int .u8 x2) t2 w) from fun w h => by have h2 := sm_any w h; rw [e2] at h2; exact h2)
  obtain ⟨x3, t3, e3⟩ : ∃ x t, rSm t2 = (x, t) := ⟨_, _, rfl⟩
  have C3 := Lib.hid (show ∀ w, Rd w p t2 → Calls Try.prog 88 #[.pointer (some ⟨p, 0, none⟩)] w (Reads p (.int .u8 x3) t3 w) from fun w h => by have h2 := sm_any w h; rw [e3] at h2; exact h2)
  obtain ⟨x4, t4, e4⟩ : ∃ x t, rSm t3 = (x, t) := ⟨_, _, rfl⟩
  have C4 := Lib.hid (show ∀ w, Rd w p t3 → Calls Try.prog 88 #[.pointer (some ⟨p, 0, none⟩)] w (Reads p (.int .u8 x4) t4 w) from fun w h => by have h2 := sm_any w h; rw [e4] at h2; exact h2)
  obtain ⟨x5, t5, e5⟩ : ∃ x t, rNum t4 = (x, t) := ⟨_, _, rfl⟩
  have C5 := Lib.hid (show ∀ w, Rd w p t4 → Calls Try.prog 56 #[.pointer (some ⟨p, 0, none⟩)] w (Reads p (.int .i64 x5) t5 w) from fun w h => by have h2 := number_any w h; rw [e5] at h2; exact h2)
  have hC : rI s = (⟨x1, x2, x3, x4, x5⟩, t5) := by unfold rI; simp only [e1, e2, e3, e4, e5]
  rw [hC]
  clear hC e1 e2 e3 e4 e5
  go_enter Try.func92, Try.ntmps92
  go_wp2_with fail
  with_reducible refine (C1.out _ H0.out).mono ?_
  rintro e w1 ⟨rfl, hr, hb⟩
  have HR1 := Lib.hid hr
  have HB1 := Lib.hid (HB0.out.trans hb)
  have HG1 := Lib.hid ((hb.block HZ0.out (by omega)).trans HG0.out)
  have HZ1 := Lib.hid (Nat.lt_of_lt_of_le HZ0.out hb.size)
  clear hr hb C1 H0 HB0 HG0 HZ0
  go_wp2_with fail
  with_reducible refine (C2.out _ HR1.out).mono ?_
  rintro e w2 ⟨rfl, hr, hb⟩
  have HR2 := Lib.hid hr
  have HB2 := Lib.hid (HB1.out.trans hb)
  have HG2 := Lib.hid ((hb.block HZ1.out (by omega)).trans HG1.out)
  have HZ2 := Lib.hid (Nat.lt_of_lt_of_le HZ1.out hb.size)
  clear hr hb C2 HR1 HB1 HG1 HZ1
  go_wp2_with fail
  with_reducible refine (C3.out _ HR2.out).mono ?_
  rintro e w3 ⟨rfl, hr, hb⟩
  have HR3 := Lib.hid hr
  have HB3 := Lib.hid (HB2.out.trans hb)
  have HG3 := Lib.hid ((hb.block HZ2.out (by omega)).trans HG2.out)
  have HZ3 := Lib.hid (Nat.lt_of_lt_of_le HZ2.out hb.size)
  clear hr hb C3 HR2 HB2 HG2 HZ2
  go_wp2_with fail
  with_reducible refine (C4.out _ HR3.out).mono ?_
  rintro e w4 ⟨rfl, hr, hb⟩
  have HR4 := Lib.hid hr
  have HB4 := Lib.hid (HB3.out.trans hb)
  have HG4 := Lib.hid ((hb.block HZ3.out (by omega)).trans HG3.out)
  have HZ4 := Lib.hid (Nat.lt_of_lt_of_le HZ3.out hb.size)
  clear hr hb C4 HR3 HB3 HG3 HZ3
  go_wp2_with fail
  with_reducible refine (C5.out _ HR4.out).mono ?_
  rintro e w5 ⟨rfl, hr, hb⟩
  have HR5 := Lib.hid hr
  have HB5 := Lib.hid (HB4.out.trans hb)
  have HG5 := Lib.hid ((hb.block HZ4.out (by omega)).trans HG4.out)
  have HZ5 := Lib.hid (Nat.lt_of_lt_of_le HZ4.out hb.size)
  clear hr hb C5 HR4 HB4 HG4 HZ4
  have f0 : w5.frozen? ⟨w.heap.size, 0, none⟩ = false := by simp [World.frozen?, HG5.out]
  have c0 := Joins.cell_of_block HG5.out 0
  have f1 : w5.frozen? ⟨w.heap.size, 1, none⟩ = false := by simp [World.frozen?, HG5.out]
  have c1 := Joins.cell_of_block HG5.out 1
  have f2 : w5.frozen? ⟨w.heap.size, 2, none⟩ = false := by simp [World.frozen?, HG5.out]
  have c2 := Joins.cell_of_block HG5.out 2
  have f3 : w5.frozen? ⟨w.heap.size, 3, none⟩ = false := by simp [World.frozen?, HG5.out]
  have c3 := Joins.cell_of_block HG5.out 3
  have f4 : w5.frozen? ⟨w.heap.size, 4, none⟩ = false := by simp [World.frozen?, HG5.out]
  have c4 := Joins.cell_of_block HG5.out 4
  have HS := Lib.hid (show ((((((w5).setCell ⟨w.heap.size, 0, none⟩ (.int .u8 x1)).setCell ⟨w.heap.size, 1, none⟩ (.int .u8 x2)).setCell ⟨w.heap.size, 2, none⟩ (.int .u8 x3)).setCell ⟨w.heap.size, 3, none⟩ (.int .u8 x4)).setCell ⟨w.heap.size, 4, none⟩ (.int .i64 x5)).heap[w.heap.size]? = some (.cells #[.int .u8 x1, .int .u8 x2, .int .u8 x3, .int .u8 x4, .int .i64 x5] 70 (0, 0)) from (heap_setCell_same _ _ _ _ _ _ (heap_setCell_same _ _ _ _ _ _ (heap_setCell_same _ _ _ _ _ _ (heap_setCell_same _ _ _ _ _ _ (heap_setCell_same _ _ _ _ _ _ HG5.out))))).trans (by simp))
  have HX := Lib.hid (show Rd ((((((w5).setCell ⟨w.heap.size, 0, none⟩ (.int .u8 x1)).setCell ⟨w.heap.size, 1, none⟩ (.int .u8 x2)).setCell ⟨w.heap.size, 2, none⟩ (.int .u8 x3)).setCell ⟨w.heap.size, 3, none⟩ (.int .u8 x4)).setCell ⟨w.heap.size, 4, none⟩ (.int .i64 x5)) p t5 from (((((HR5.out.setNew hp).setNew hp).setNew hp).setNew hp).setNew hp))
  have HY := Lib.hid (show But p w ((((((w5).setCell ⟨w.heap.size, 0, none⟩ (.int .u8 x1)).setCell ⟨w.heap.size, 1, none⟩ (.int .u8 x2)).setCell ⟨w.heap.size, 2, none⟩ (.int .u8 x3)).setCell ⟨w.heap.size, 3, none⟩ (.int .u8 x4)).setCell ⟨w.heap.size, 4, none⟩ (.int .i64 x5)) from (((((HB5.out.setNew (by omega) (Nat.le_refl _)).setNew (by omega) (Nat.le_refl _)).setNew (by omega) (Nat.le_refl _)).setNew (by omega) (Nat.le_refl _)).setNew (by omega) (Nat.le_refl _)))
  go_wp2_with fail
  obtain ⟨W, hW⟩ : ∃ W, (((((w5).setCell ⟨w.heap.size, 0, none⟩ (.int .u8 x1)).setCell ⟨w.heap.size, 1, none⟩ (.int .u8 x2)).setCell ⟨w.heap.size, 2, none⟩ (.int .u8 x3)).setCell ⟨w.heap.size, 3, none⟩ (.int .u8 x4)).setCell ⟨w.heap.size, 4, none⟩ (.int .i64 x5) = W := ⟨_, rfl⟩
  rw [hW] at HS HX HY
  try rw [hW]
  have k0 := Joins.cell_of_block HS.out 0
  have k1 := Joins.cell_of_block HS.out 1
  have k2 := Joins.cell_of_block HS.out 2
  have k3 := Joins.cell_of_block HS.out 3
  have k4 := Joins.cell_of_block HS.out 4
  refine bodyPost_ret (v := .agg #[.int .u8 x1, .int .u8 x2, .int .u8 x3, .int .u8 x4, .int .i64 x5]) (by simp [results, Try.results92, go_sem, k0, k1, k2, k3, k4]) rfl ⟨rfl, HX.out, HY.out⟩
set_option maxRecDepth 100000 in
set_option maxHeartbeats 2000000 in
theorem rvec_any {p : Nat} {s : St} (w : World) (h : Rd w p s) :
    Calls Try.prog 59 #[.pointer (some ⟨p, 0, none⟩)] w (Reads p (.agg #[.int .i64 (rV s).1.x, .int .i64 (rV s).1.y, .int .i64 (rV s).1.z, .int .i64 (rV s).1.w, .int .i64 (rV s).1.a, .int .i64 (rV s).1.b, .int .i64 (rV s).1.c, .int .i64 (rV s).1.d]) (rV s).2 w) := by
  have hp := h.lt
  have H0 := Lib.hid (show Rd (w.alloc (.cells #[.int .i64 0, .int .i64 0, .int .i64 0, .int .i64 0, .int .i64 0, .int .i64 0, .int .i64 0, .int .i64 0] 43)) p s from h.alloc _)
  have HB0 := Lib.hid (show But p w (w.alloc (.cells #[.int .i64 0, .int .i64 0, .int .i64 0, .int .i64 0, .int .i64 0, .int .i64 0, .int .i64 0, .int .i64 0] 43)) from (But.refl p w).alloc hp _)
  have HG0 := Lib.hid (show (w.alloc (.cells #[.int .i64 0, .int .i64 0, .int .i64 0, .int .i64 0, .int .i64 0, .int .i64 0, .int .i64 0, .int .i64 0] 43)).heap[w.heap.size]? = some (.cells #[.int .i64 0, .int .i64 0, .int .i64 0, .int .i64 0, .int .i64 0, .int .i64 0, .int .i64 0, .int .i64 0] 43 (0, 0)) from heap_alloc_new _ _)
  have HZ0 := Lib.hid (show w.heap.size < (w.alloc (.cells #[.int .i64 0, .int .i64 0, .int .i64 0, .int .i64 0, .int .i64 0, .int .i64 0, .int .i64 0, .int .i64 0] 43)).heap.size by simp)
  clear h
  obtain ⟨x1, t1, e1⟩ : ∃ x t, rNum s = (x, t) := ⟨_, _, rfl⟩
  have C1 := Lib.hid (show ∀ w, Rd w p s → Calls Try.prog 56 #[.pointer (some ⟨p, 0, none⟩)] w (Reads p (.int .i64 x1) t1 w) from fun w h => by have h2 := number_any w h; rw [e1] at h2; exact h2)
  obtain ⟨x2, t2, e2⟩ : ∃ x t, rNum t1 = (x, t) := ⟨_, _, rfl⟩
  have C2 := Lib.hid (show ∀ w, Rd w p t1 → Calls Try.prog 56 #[.pointer (some ⟨p, 0, none⟩)] w (Reads p (.int .i64 x2) t2 w) from fun w h => by have h2 := number_any w h; rw [e2] at h2; exact h2)
  obtain ⟨x3, t3, e3⟩ : ∃ x t, rNum t2 = (x, t) := ⟨_, _, rfl⟩
  have C3 := Lib.hid (show ∀ w, Rd w p t2 → Calls Try.prog 56 #[.pointer (some ⟨p, 0, none⟩)] w (Reads p (.int .i64 x3) t3 w) from fun w h => by have h2 := number_any w h; rw [e3] at h2; exact h2)
  obtain ⟨x4, t4, e4⟩ : ∃ x t, rNum t3 = (x, t) := ⟨_, _, rfl⟩
  have C4 := Lib.hid (show ∀ w, Rd w p t3 → Calls Try.prog 56 #[.pointer (some ⟨p, 0, none⟩)] w (Reads p (.int .i64 x4) t4 w) from fun w h => by have h2 := number_any w h; rw [e4] at h2; exact h2)
  obtain ⟨x5, t5, e5⟩ : ∃ x t, rNum t4 = (x, t) := ⟨_, _, rfl⟩
  have C5 := Lib.hid (show ∀ w, Rd w p t4 → Calls Try.prog 56 #[.pointer (some ⟨p, 0, none⟩)] w (Reads p (.int .i64 x5) t5 w) from fun w h => by have h2 := number_any w h; rw [e5] at h2; exact h2)
  obtain ⟨x6, t6, e6⟩ : ∃ x t, rNum t5 = (x, t) := ⟨_, _, rfl⟩
  have C6 := Lib.hid (show ∀ w, Rd w p t5 → Calls Try.prog 56 #[.pointer (some ⟨p, 0, none⟩)] w (Reads p (.int .i64 x6) t6 w) from fun w h => by have h2 := number_any w h; rw [e6] at h2; exact h2)
  obtain ⟨x7, t7, e7⟩ : ∃ x t, rNum t6 = (x, t) := ⟨_, _, rfl⟩
  have C7 := Lib.hid (show ∀ w, Rd w p t6 → Calls Try.prog 56 #[.pointer (some ⟨p, 0, none⟩)] w (Reads p (.int .i64 x7) t7 w) from fun w h => by have h2 := number_any w h; rw [e7] at h2; exact h2)
  obtain ⟨x8, t8, e8⟩ : ∃ x t, rNum t7 = (x, t) := ⟨_, _, rfl⟩
  have C8 := Lib.hid (show ∀ w, Rd w p t7 → Calls Try.prog 56 #[.pointer (some ⟨p, 0, none⟩)] w (Reads p (.int .i64 x8) t8 w) from fun w h => by have h2 := number_any w h; rw [e8] at h2; exact h2)
  have hC : rV s = (⟨x1, x2, x3, x4, x5, x6, x7, x8⟩, t8) := by unfold rV; simp only [e1, e2, e3, e4, e5, e6, e7, e8]
  rw [hC]
  clear hC e1 e2 e3 e4 e5 e6 e7 e8
  go_enter Try.func59, Try.ntmps59
  go_wp2_with fail
  with_reducible refine (C1.out _ H0.out).mono ?_
  rintro e w1 ⟨rfl, hr, hb⟩
  have HR1 := Lib.hid hr
  have HB1 := Lib.hid (HB0.out.trans hb)
  have HG1 := Lib.hid ((hb.block HZ0.out (by omega)).trans HG0.out)
  have HZ1 := Lib.hid (Nat.lt_of_lt_of_le HZ0.out hb.size)
  clear hr hb C1 H0 HB0 HG0 HZ0
  go_wp2_with fail
  with_reducible refine (C2.out _ HR1.out).mono ?_
  rintro e w2 ⟨rfl, hr, hb⟩
  have HR2 := Lib.hid hr
  have HB2 := Lib.hid (HB1.out.trans hb)
  have HG2 := Lib.hid ((hb.block HZ1.out (by omega)).trans HG1.out)
  have HZ2 := Lib.hid (Nat.lt_of_lt_of_le HZ1.out hb.size)
  clear hr hb C2 HR1 HB1 HG1 HZ1
  go_wp2_with fail
  with_reducible refine (C3.out _ HR2.out).mono ?_
  rintro e w3 ⟨rfl, hr, hb⟩
  have HR3 := Lib.hid hr
  have HB3 := Lib.hid (HB2.out.trans hb)
  have HG3 := Lib.hid ((hb.block HZ2.out (by omega)).trans HG2.out)
  have HZ3 := Lib.hid (Nat.lt_of_lt_of_le HZ2.out hb.size)
  clear hr hb C3 HR2 HB2 HG2 HZ2
  go_wp2_with fail
  with_reducible refine (C4.out _ HR3.out).mono ?_
  rintro e w4 ⟨rfl, hr, hb⟩
  have HR4 := Lib.hid hr
  have HB4 := Lib.hid (HB3.out.trans hb)
  have HG4 := Lib.hid ((hb.block HZ3.out (by omega)).trans HG3.out)
  have HZ4 := Lib.hid (Nat.lt_of_lt_of_le HZ3.out hb.size)
  clear hr hb C4 HR3 HB3 HG3 HZ3
  go_wp2_with fail
  with_reducible refine (C5.out _ HR4.out).mono ?_
  rintro e w5 ⟨rfl, hr, hb⟩
  have HR5 := Lib.hid hr
  have HB5 := Lib.hid (HB4.out.trans hb)
  have HG5 := Lib.hid ((hb.block HZ4.out (by omega)).trans HG4.out)
  have HZ5 := Lib.hid (Nat.lt_of_lt_of_le HZ4.out hb.size)
  clear hr hb C5 HR4 HB4 HG4 HZ4
  go_wp2_with fail
  with_reducible refine (C6.out _ HR5.out).mono ?_
  rintro e w6 ⟨rfl, hr, hb⟩
  have HR6 := Lib.hid hr
  have HB6 := Lib.hid (HB5.out.trans hb)
  have HG6 := Lib.hid ((hb.block HZ5.out (by omega)).trans HG5.out)
  have HZ6 := Lib.hid (Nat.lt_of_lt_of_le HZ5.out hb.size)
  clear hr hb C6 HR5 HB5 HG5 HZ5
  go_wp2_with fail
  with_reducible refine (C7.out _ HR6.out).mono ?_
  rintro e w7 ⟨rfl, hr, hb⟩
  have HR7 := Lib.hid hr
  have HB7 := Lib.hid (HB6.out.trans hb)
  have HG7 := Lib.hid ((hb.block HZ6.out (by omega)).trans HG6.out)
  have HZ7 := Lib.hid (Nat.lt_of_lt_of_le HZ6.out hb.size)
  clear hr hb C7 HR6 HB6 HG6 HZ6
  go_wp2_with fail
  with_reducible refine (C8.out _ HR7.out).mono ?_
  rintro e w8 ⟨rfl, hr, hb⟩
  have HR8 := Lib.hid hr
  have HB8 := Lib.hid (HB7.out.trans hb)
  have HG8 := Lib.hid ((hb.block HZ7.out (by omega)).trans HG7.out)
  have HZ8 := Lib.hid (Nat.lt_of_lt_of_le HZ7.out hb.size)
  clear hr hb C8 HR7 HB7 HG7 HZ7
  have f0 : w8.frozen? ⟨w.heap.size, 0, none⟩ = false := by simp [World.frozen?, HG8.out]
  have c0 := Joins.cell_of_block HG8.out 0
  have f1 : w8.frozen? ⟨w.heap.size, 1, none⟩ = false := by simp [World.frozen?, HG8.out]
  have c1 := Joins.cell_of_block HG8.out 1
  have f2 : w8.frozen? ⟨w.heap.size, 2, none⟩ = false := by simp [World.frozen?, HG8.out]
  have c2 := Joins.cell_of_block HG8.out 2
  have f3 : w8.frozen? ⟨w.heap.size, 3, none⟩ = false := by simp [World.frozen?, HG8.out]
  have c3 := Joins.cell_of_block HG8.out 3
  have f4 : w8.frozen? ⟨w.heap.size, 4, none⟩ = false := by simp [World.frozen?, HG8.out]
  have c4 := Joins.cell_of_block HG8.out 4
  have f5 : w8.frozen? ⟨w.heap.size, 5, none⟩ = false := by simp [World.frozen?, HG8.out]
  have c5 := Joins.cell_of_block HG8.out 5
  have f6 : w8.frozen? ⟨w.heap.size, 6, none⟩ = false := by simp [World.frozen?, HG8.out]
  have c6 := Joins.cell_of_block HG8.out 6
  have f7 : w8.frozen? ⟨w.heap.size, 7, none⟩ = false := by simp [World.frozen?, HG8.out]
  have c7 := Joins.cell_of_block HG8.out 7
  have HS := Lib.hid (show (((((((((w8).setCell ⟨w.heap.size, 0, none⟩ (.int .i64 x1)).setCell ⟨w.heap.size, 1, none⟩ (.int .i64 x2)).setCell ⟨w.heap.size, 2, none⟩ (.int .i64 x3)).setCell ⟨w.heap.size, 3, none⟩ (.int .i64 x4)).setCell ⟨w.heap.size, 4, none⟩ (.int .i64 x5)).setCell ⟨w.heap.size, 5, none⟩ (.int .i64 x6)).setCell ⟨w.heap.size, 6, none⟩ (.int .i64 x7)).setCell ⟨w.heap.size, 7, none⟩ (.int .i64 x8)).heap[w.heap.size]? = some (.cells #[.int .i64 x1, .int .i64 x2, .int .i64 x3, .int .i64 x4, .int .i64 x5, .int .i64 x6, .int .i64 x7, .int .i64 x8] 43 (0, 0)) from (heap_setCell_same _ _ _ _ _ _ (heap_setCell_same _ _ _ _ _ _ (heap_setCell_same _ _ _ _ _ _ (heap_setCell_same _ _ _ _ _ _ (heap_setCell_same _ _ _ _ _ _ (heap_setCell_same _ _ _ _ _ _ (heap_setCell_same _ _ _ _ _ _ (heap_setCell_same _ _ _ _ _ _ HG8.out)))))))).trans (by simp))
  have HX := Lib.hid (show Rd (((((((((w8).setCell ⟨w.heap.size, 0, none⟩ (.int .i64 x1)).setCell ⟨w.heap.size, 1, none⟩ (.int .i64 x2)).setCell ⟨w.heap.size, 2, none⟩ (.int .i64 x3)).setCell ⟨w.heap.size, 3, none⟩ (.int .i64 x4)).setCell ⟨w.heap.size, 4, none⟩ (.int .i64 x5)).setCell ⟨w.heap.size, 5, none⟩ (.int .i64 x6)).setCell ⟨w.heap.size, 6, none⟩ (.int .i64 x7)).setCell ⟨w.heap.size, 7, none⟩ (.int .i64 x8)) p t8 from ((((((((HR8.out.setNew hp).setNew hp).setNew hp).setNew hp).setNew hp).setNew hp).setNew hp).setNew hp))
  have HY := Lib.hid (show But p w (((((((((w8).setCell ⟨w.heap.size, 0, none⟩ (.int .i64 x1)).setCell ⟨w.heap.size, 1, none⟩ (.int .i64 x2)).setCell ⟨w.heap.size, 2, none⟩ (.int .i64 x3)).setCell ⟨w.heap.size, 3, none⟩ (.int .i64 x4)).setCell ⟨w.heap.size, 4, none⟩ (.int .i64 x5)).setCell ⟨w.heap.size, 5, none⟩ (.int .i64 x6)).setCell ⟨w.heap.size, 6, none⟩ (.int .i64 x7)).setCell ⟨w.heap.size, 7, none⟩ (.int .i64 x8)) from ((((((((HB8.out.setNew (by omega) (Nat.le_refl _)).setNew (by omega) (Nat.le_refl _)).setNew (by omega) (Nat.le_refl _)).setNew (by omega) (Nat.le_refl _)).setNew (by omega) (Nat.le_refl _)).setNew (by omega) (Nat.le_refl _)).setNew (by omega) (Nat.le_refl _)).setNew (by omega) (Nat.le_refl _)))
  go_wp2_with fail
  obtain ⟨W, hW⟩ : ∃ W, ((((((((w8).setCell ⟨w.heap.size, 0, none⟩ (.int .i64 x1)).setCell ⟨w.heap.size, 1, none⟩ (.int .i64 x2)).setCell ⟨w.heap.size, 2, none⟩ (.int .i64 x3)).setCell ⟨w.heap.size, 3, none⟩ (.int .i64 x4)).setCell ⟨w.heap.size, 4, none⟩ (.int .i64 x5)).setCell ⟨w.heap.size, 5, none⟩ (.int .i64 x6)).setCell ⟨w.heap.size, 6, none⟩ (.int .i64 x7)).setCell ⟨w.heap.size, 7, none⟩ (.int .i64 x8) = W := ⟨_, rfl⟩
  rw [hW] at HS HX HY
  try rw [hW]
  have k0 := Joins.cell_of_block HS.out 0
  have k1 := Joins.cell_of_block HS.out 1
  have k2 := Joins.cell_of_block HS.out 2
  have k3 := Joins.cell_of_block HS.out 3
  have k4 := Joins.cell_of_block HS.out 4
  have k5 := Joins.cell_of_block HS.out 5
  have k6 := Joins.cell_of_block HS.out 6
  have k7 := Joins.cell_of_block HS.out 7
  refine bodyPost_ret (v := .agg #[.int .i64 x1, .int .i64 x2, .int .i64 x3, .int .i64 x4, .int .i64 x5, .int .i64 x6, .int .i64 x7, .int .i64 x8]) (by simp [results, Try.results59, go_sem, k0, k1, k2, k3, k4, k5, k6, k7]) rfl ⟨rfl, HX.out, HY.out⟩
set_option maxRecDepth 100000 in
set_option maxHeartbeats 1000000 in
theorem rtri_any {p : Nat} {s : St} (w : World) (h : Rd w p s) :
    Calls Try.prog 95 #[.pointer (some ⟨p, 0, none⟩)] w (Reads p (.agg #[.int .i64 (rR s).1.i, .int .i64 (rR s).1.a, .int .i64 (rR s).1.b, .int .i64 (rR s).1.c]) (rR s).2 w) := by
  have hp := h.lt
  have H0 := Lib.hid (show Rd (w.alloc (.cells #[.int .i64 0, .int .i64 0, .int .i64 0, .int .i64 0] 74)) p s from h.alloc _)
  have HB0 := Lib.hid (show But p w (w.alloc (.cells #[.int .i64 0, .int .i64 0, .int .i64 0, .int .i64 0] 74)) from (But.refl p w).alloc hp _)
  have HG0 := Lib.hid (show (w.alloc (.cells #[.int .i64 0, .int .i64 0, .int .i64 0, .int .i64 0] 74)).heap[w.heap.size]? = some (.cells #[.int .i64 0, .int .i64 0, .int .i64 0, .int .i64 0] 74 (0, 0)) from heap_alloc_new _ _)
  have HZ0 := Lib.hid (show w.heap.size < (w.alloc (.cells #[.int .i64 0, .int .i64 0, .int .i64 0, .int .i64 0] 74)).heap.size by simp)
  clear h
  obtain ⟨x1, t1, e1⟩ : ∃ x t, rNum s = (x, t) := ⟨_, _, rfl⟩
  have C1 := Lib.hid (show ∀ w, Rd w p s → Calls Try.prog 56 #[.pointer (some ⟨p, 0, none⟩)] w (Reads p (.int .i64 x1) t1 w) from fun w h => by have h2 := number_any w h; rw [e1] at h2; exact h2)
  obtain ⟨x2, t2, e2⟩ : ∃ x t, rNum t1 = (x, t) := ⟨_, _, rfl⟩
  have C2 := Lib.hid (show ∀ w, Rd w p t1 → Calls Try.prog 56 #[.pointer (some ⟨p, 0, none⟩)] w (Reads p (.int .i64 x2) t2 w) from fun w h => by have h2 := number_any w h; rw [e2] at h2; exact h2)
  obtain ⟨x3, t3, e3⟩ : ∃ x t, rNum t2 = (x, t) := ⟨_, _, rfl⟩
  have C3 := Lib.hid (show ∀ w, Rd w p t2 → Calls Try.prog 56 #[.pointer (some ⟨p, 0, none⟩)] w (Reads p (.int .i64 x3) t3 w) from fun w h => by have h2 := number_any w h; rw [e3] at h2; exact h2)
  obtain ⟨x4, t4, e4⟩ : ∃ x t, rNum t3 = (x, t) := ⟨_, _, rfl⟩
  have C4 := Lib.hid (show ∀ w, Rd w p t3 → Calls Try.prog 56 #[.pointer (some ⟨p, 0, none⟩)] w (Reads p (.int .i64 x4) t4 w) from fun w h => by have h2 := number_any w h; rw [e4] at h2; exact h2)
  have hC : rR s = (⟨x1, x2, x3, x4⟩, t4) := by unfold rR; simp only [e1, e2, e3, e4]
  rw [hC]
  clear hC e1 e2 e3 e4
  go_enter Try.func95, Try.ntmps95
  go_wp2_with fail
  with_reducible refine (C1.out _ H0.out).mono ?_
  rintro e w1 ⟨rfl, hr, hb⟩
  have HR1 := Lib.hid hr
  have HB1 := Lib.hid (HB0.out.trans hb)
  have HG1 := Lib.hid ((hb.block HZ0.out (by omega)).trans HG0.out)
  have HZ1 := Lib.hid (Nat.lt_of_lt_of_le HZ0.out hb.size)
  clear hr hb C1 H0 HB0 HG0 HZ0
  go_wp2_with fail
  with_reducible refine (C2.out _ HR1.out).mono ?_
  rintro e w2 ⟨rfl, hr, hb⟩
  have HR2 := Lib.hid hr
  have HB2 := Lib.hid (HB1.out.trans hb)
  have HG2 := Lib.hid ((hb.block HZ1.out (by omega)).trans HG1.out)
  have HZ2 := Lib.hid (Nat.lt_of_lt_of_le HZ1.out hb.size)
  clear hr hb C2 HR1 HB1 HG1 HZ1
  go_wp2_with fail
  with_reducible refine (C3.out _ HR2.out).mono ?_
  rintro e w3 ⟨rfl, hr, hb⟩
  have HR3 := Lib.hid hr
  have HB3 := Lib.hid (HB2.out.trans hb)
  have HG3 := Lib.hid ((hb.block HZ2.out (by omega)).trans HG2.out)
  have HZ3 := Lib.hid (Nat.lt_of_lt_of_le HZ2.out hb.size)
  clear hr hb C3 HR2 HB2 HG2 HZ2
  go_wp2_with fail
  with_reducible refine (C4.out _ HR3.out).mono ?_
  rintro e w4 ⟨rfl, hr, hb⟩
  have HR4 := Lib.hid hr
  have HB4 := Lib.hid (HB3.out.trans hb)
  have HG4 := Lib.hid ((hb.block HZ3.out (by omega)).trans HG3.out)
  have HZ4 := Lib.hid (Nat.lt_of_lt_of_le HZ3.out hb.size)
  clear hr hb C4 HR3 HB3 HG3 HZ3
  have f0 : w4.frozen? ⟨w.heap.size, 0, none⟩ = false := by simp [World.frozen?, HG4.out]
  have c0 := Joins.cell_of_block HG4.out 0
  have f1 : w4.frozen? ⟨w.heap.size, 1, none⟩ = false := by simp [World.frozen?, HG4.out]
  have c1 := Joins.cell_of_block HG4.out 1
  have f2 : w4.frozen? ⟨w.heap.size, 2, none⟩ = false := by simp [World.frozen?, HG4.out]
  have c2 := Joins.cell_of_block HG4.out 2
  have f3 : w4.frozen? ⟨w.heap.size, 3, none⟩ = false := by simp [World.frozen?, HG4.out]
  have c3 := Joins.cell_of_block HG4.out 3
  have HS := Lib.hid (show (((((w4).setCell ⟨w.heap.size, 0, none⟩ (.int .i64 x1)).setCell ⟨w.heap.size, 1, none⟩ (.int .i64 x2)).setCell ⟨w.heap.size, 2, none⟩ (.int .i64 x3)).setCell ⟨w.heap.size, 3, none⟩ (.int .i64 x4)).heap[w.heap.size]? = some (.cells #[.int .i64 x1, .int .i64 x2, .int .i64 x3, .int .i64 x4] 74 (0, 0)) from (heap_setCell_same _ _ _ _ _ _ (heap_setCell_same _ _ _ _ _ _ (heap_setCell_same _ _ _ _ _ _ (heap_setCell_same _ _ _ _ _ _ HG4.out)))).trans (by simp))
  have HX := Lib.hid (show Rd (((((w4).setCell ⟨w.heap.size, 0, none⟩ (.int .i64 x1)).setCell ⟨w.heap.size, 1, none⟩ (.int .i64 x2)).setCell ⟨w.heap.size, 2, none⟩ (.int .i64 x3)).setCell ⟨w.heap.size, 3, none⟩ (.int .i64 x4)) p t4 from ((((HR4.out.setNew hp).setNew hp).setNew hp).setNew hp))
  have HY := Lib.hid (show But p w (((((w4).setCell ⟨w.heap.size, 0, none⟩ (.int .i64 x1)).setCell ⟨w.heap.size, 1, none⟩ (.int .i64 x2)).setCell ⟨w.heap.size, 2, none⟩ (.int .i64 x3)).setCell ⟨w.heap.size, 3, none⟩ (.int .i64 x4)) from ((((HB4.out.setNew (by omega) (Nat.le_refl _)).setNew (by omega) (Nat.le_refl _)).setNew (by omega) (Nat.le_refl _)).setNew (by omega) (Nat.le_refl _)))
  go_wp2_with fail
  obtain ⟨W, hW⟩ : ∃ W, ((((w4).setCell ⟨w.heap.size, 0, none⟩ (.int .i64 x1)).setCell ⟨w.heap.size, 1, none⟩ (.int .i64 x2)).setCell ⟨w.heap.size, 2, none⟩ (.int .i64 x3)).setCell ⟨w.heap.size, 3, none⟩ (.int .i64 x4) = W := ⟨_, rfl⟩
  rw [hW] at HS HX HY
  try rw [hW]
  have k0 := Joins.cell_of_block HS.out 0
  have k1 := Joins.cell_of_block HS.out 1
  have k2 := Joins.cell_of_block HS.out 2
  have k3 := Joins.cell_of_block HS.out 3
  refine bodyPost_ret (v := .agg #[.int .i64 x1, .int .i64 x2, .int .i64 x3, .int .i64 x4]) (by simp [results, Try.results95, go_sem, k0, k1, k2, k3]) rfl ⟨rfl, HX.out, HY.out⟩
end Go.Proofs.Ytfmmfaeognoleaa
