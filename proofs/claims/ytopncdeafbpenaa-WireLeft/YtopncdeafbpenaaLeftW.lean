/-
  The walk of glazierlaw03.WireLeft, at this seat's translation.
-/
import Derived.Test.YtopncdeafbpenaaBackW
namespace Go.Proofs.Ytopncdeafbpenaa
open Go.RowKit Go.Shelf
attribute [local go_sem] Oper.semAt_some

theorem and15 (m : Int) (h0 : 0 ≤ m) (h1 : m ≤ 255) : bits BinOp.and .u8 m 15 = m % 16 := by
  rw [u8_and m 15 h0 (by omega) (by decide) (by decide)]
  have : m.toNat &&& (15 : Int).toNat = m.toNat % 16 := Nat.and_two_pow_sub_one_eq_mod m.toNat 4
  rw [this]; omega

theorem store_func (P : Program) (w : World) (a : Addr) (m : Mode) (f : Fn) (x y : Array Value) : (store a (.func f x y) m).run P w = stored P w a (.func f x y) m := run_store P w a _ m rfl
attribute [local go_sem] store_func

/-- A box behind what lay. -/
theorem boxed_keep {w w' : World} {B t : Nat} {v : Value} (h : Boxed w B t v) (hb : Below w.heap.size w w') : Boxed w' B t v := (hb.block B h.lt).trans h

def BadO (L : List Int) (pre : List (Int × Bool)) : Prop := ∃ p x q y, pre = p ++ [x] ∧ q ++ [y] <+: seq L ∧ q.length = p.length ∧ x.1 ≠ y.1
theorem not_badO {L : List Int} {pre : List (Int × Bool)} (h : pre <+: seq L) : ¬ BadO L pre := by
  rintro ⟨p, x, q, y, rfl, hq, hl, hne⟩
  have e : p ++ [x] = q ++ [y] := by
    rw [List.prefix_iff_eq_take.1 h, List.prefix_iff_eq_take.1 hq]; simp [hl]
  have := List.append_inj_right e (by omega)
  simp at this
  exact hne (by rw [this])

/-- What the outer loop's variables hold. -/
def LeftO (w w5 : World) (A : Option Addr) (c len : Nat) (pre : List (Int × Bool)) (W : World) : Prop :=
  Boxed W (w5.heap.size + 1 + 1) 3 (.int .i64 pre.length) ∧ Boxed W w.heap.size 23 (.slice A len c) ∧ Boxed W (w.heap.size + 1) 4 (.bool false) ∧ Boxed W (w5.heap.size + 1) 40 (.func (.func 24) #[] #[.pointer (some ⟨w5.heap.size, 0, none⟩)]) ∧ Boxed W w5.heap.size 23 (.slice A len c) ∧ Below w.heap.size w W
theorem leftO_own (w w5 : World) (A : Option Addr) (c len : Nat) {B : Nat} (hB : w.heap.size ≤ B) : OwnFrom B (fun pre W => LeftO w w5 A c len pre W) :=
  OwnFrom.and (Own.from (boxed_own _ 3 (fun pre : List (Int × Bool) => Value.int .i64 pre.length)) _) (OwnFrom.and (Own.from (boxed_own _ _ _) _) (OwnFrom.and (Own.from (boxed_own _ _ _) _) (OwnFrom.and (Own.from (boxed_own _ _ _) _) (OwnFrom.and (Own.from (boxed_own _ _ _) _) (ownFrom_below (Nat.le_refl _) hB)))))
/-- What the inner loop's variables hold. -/
def LeftI (w w5 W : World) (B0 : Nat) (A : Option Addr) (c len k Bx : Nat) (x : Int) (pre : List (Int × Bool)) (W' : World) : Prop :=
  Boxed W' W.heap.size 3 (.int .i64 pre.length) ∧ Boxed W' Bx 3 (.int .i64 x) ∧ Boxed W' (w5.heap.size + 1 + 1) 3 (.int .i64 k) ∧ Boxed W' w.heap.size 23 (.slice A len c) ∧ Boxed W' (w.heap.size + 1) 4 (.bool false) ∧
  Boxed W' (w5.heap.size + 1) 40 (.func (.func 24) #[] #[.pointer (some ⟨w5.heap.size, 0, none⟩)]) ∧ Boxed W' w5.heap.size 23 (.slice A len c) ∧ Below w.heap.size W W' ∧ KeepsFrom B0 W W'
theorem leftI_own (w w5 W : World) (B0 : Nat) (A : Option Addr) (c len k Bx : Nat) (x : Int) {B : Nat} (hW : w.heap.size ≤ W.heap.size) (hWB : W.heap.size ≤ B) (hB : w.heap.size ≤ B) : OwnFrom B (fun pre W' => LeftI w w5 W B0 A c len k Bx x pre W') :=
  OwnFrom.and (Own.from (boxed_own _ 3 (fun pre : List (Int × Bool) => Value.int .i64 pre.length)) _) (OwnFrom.and (Own.from (boxed_own _ _ _) _) (OwnFrom.and (Own.from (boxed_own _ _ _) _) (OwnFrom.and (Own.from (boxed_own _ _ _) _) (OwnFrom.and (Own.from (boxed_own _ _ _) _)
    (OwnFrom.and (Own.from (boxed_own _ _ _) _) (OwnFrom.and (Own.from (boxed_own _ _ _) _) (OwnFrom.and (ownFrom_below hW hB) (ownFrom_keepsFrom hWB))))))))

set_option maxRecDepth 100000 in
set_option maxHeartbeats 8000000 in
theorem left_in (F : Fence) (hfn : ∀ f, F.fn f) (hC : ∀ {f args W R} m, Calls Try.prog f args W R → CallsIn F m Try.prog f args W R) (n : Nat) (hro : F.round = none) (hn : 10 ≤ n)
    (A : Option Addr) (c : Nat) (l : List Int) (m : Int) (w : World) (hs : Sl .u8 w w.heap.size A l) (hb : Byt l) (hc : l.length ≤ c) (hm : c ≤ 9223372036854775807) (m0 : 0 ≤ m) (m1 : m ≤ 255) :
    CallsIn F n Try.prog 5 #[.slice A l.length c, .int .u8 m] w (Yes w) := by
  have h9 := hfn 9
  have h11 := hfn 11
  have h16 := hfn 16
  have h18 := hfn 18
  have h19 := hfn 19
  have h24 := hfn 24
  have h1 : 1 ≤ n := by omega
  have HS := Lib.hid (hs.take 200)
  have HY := Lib.hid (hb.take 200)
  have hl : (l.take 200).length ≤ 200 := List.length_take_le _ _
  have hl2 : (l.take 200).length ≤ c := Nat.le_trans (List.length_take_le' _ _) hc
  have HSH := Lib.hid (fun W => short_any A c l W hc hm)
  clear hs hb
  generalize l.take 200 = L at *
  have hsl := (seq_len L.length L (Nat.le_refl _) HY.out).1
  have hnl := nums_le (seq L)
  obtain ⟨k, hk⟩ : ∃ k : Nat, 1 + m % 16 = (k : Int) := Int.eq_ofNat_of_zero_le (by omega)
  have hk1 : 1 ≤ k := by omega
  have hk2 : k ≤ 16 := by omega
  have han := and15 m m0 m1
  have he := eql40
  refine callsIn_of_wp_marks Try.func5 rfl (hfn 5) ?_ hro
  simp only [Try.ntmps5, List.size_toArray, List.length_cons, List.length_nil, Nat.reduceAdd, Nat.reduceSub, Array.replicate_succ, Array.replicate_zero, List.push_toArray, List.append_toArray, List.nil_append, List.cons_append]
  gi_wp2_with fail
  refine (hC _ (shown_any _)).mono ?_
  rintro e w1 ⟨rfl, hb1⟩
  have bB := boxed_keep ((Boxed.new w 23 (.slice A l.length c)).alloc (.cells #[.bool false] 4)) hb1
  have bR := boxed_keep (Boxed.new (w.alloc (.cells #[.slice A l.length c] 23)) 4 (.bool false)) hb1
  simp only [World.size_alloc] at bR hb1
  have HB1 := Lib.hid ((((Below.refl _ w).alloc (Nat.le_refl _) _).alloc (by simp) _).trans (hb1.mono (by omega)))
  clear hb1
  have cB := bB.cell
  have fB := bB.frozen
  gi_wp2_with fail
  refine (hC _ (HSH.out _)).mono ?_
  rintro e w2 ⟨rfl, rfl⟩
  gi_wp2_with fail
  have bB2 := bB.set (.slice A L.length c)
  have bR2 := bR.other (B' := w.heap.size) (by omega) (.slice A L.length c)
  have HB2 := Lib.hid (HB1.out.setCell (p := ⟨w.heap.size, 0, none⟩) (Nat.le_refl _) (.slice A L.length c))
  generalize w1.setCell ⟨w.heap.size, 0, none⟩ (.slice A L.length c) = w2 at bB2 bR2 HB2 ⊢
  clear bB bR HB1 cB fB han hk
  refine (hC _ (gone_1000 A c _ L rfl hl2 (by omega) HY.out w2 ((HS.out.below HB2.out).more HB2.out.size))).mono ?_
  rintro e w3 ⟨v, rfl, ho, hb3⟩
  obtain ⟨A3, c3, rfl, hc31, -, hs3⟩ := ho.sl
  have bB3 := boxed_keep bB2 hb3
  have bR3 := boxed_keep bR2 hb3
  have HB3 := Lib.hid (HB2.out.trans (hb3.mono HB2.out.size))
  have HS3 := Lib.hid hs3
  clear ho hs3 hb3 HB2 bB2 bR2
  have cB := bB3.cell
  gi_wp2_with fail
  refine (hC _ (gone_any A c L k hl2 (by omega) HY.out hk1 (by omega) w3 ((HS.out.below HB3.out).more HB3.out.size))).mono ?_
  rintro e w4 ⟨v, f, rfl, ho, -, hb4⟩
  obtain ⟨A4, c4, rfl, hc41, -, hs4⟩ := ho.sl
  have bB4 := boxed_keep bB3 hb4
  have bR4 := boxed_keep bR3 hb4
  have HB4 := Lib.hid (HB3.out.trans (hb4.mono HB3.out.size))
  have HS4 := Lib.hid hs4
  have HS34 := Lib.hid (sl_keep HS3.out hb4)
  clear ho hs4 hb4 HB3 bB3 bR3 HS3 cB
  have hQ : (nums (seq L)).length ≤ 200 := by omega
  have HN := Lib.hid hnl
  clear hnl
  generalize nums (seq L) = Q at *
  by_cases hkQ : k ≤ Q.length
  · have hj : (Q.take k).length = k := by simp; omega
    rw [hj] at hc41 ⊢
    have hcut := slice_to22 A3 Q.length c3 k k (by omega) rfl
    have HSM := Lib.hid (same_any A4 A3 c4 c3 (Q.take k) w4 HS4.out (HS34.out.take k) (by omega))
    rw [hj] at HSM
    clear hj
    gi_wp2_with fail
    refine (hC _ HSM.out).mono ?_
    rintro e w5 ⟨rfl, hb5⟩
    have bB5 := boxed_keep bB4 hb5
    have bR5 := boxed_keep bR4 hb5
    have HB5 := Lib.hid (HB4.out.trans (hb5.mono HB4.out.size))
    clear hb5 HB4 bB4 bR4 HSM HS4 HS34 hcut
    have cB := bB5.cell
    gi_wp2_with fail
    refine (hC _ (all_any _ _ _ _)).mono ?_
    rintro e w6 ⟨rfl, rfl⟩
    gi_wp2
    have q0 := ((Boxed.new w5 23 (.slice A L.length c)).alloc (.cells #[.func (.func 24) #[] #[.pointer (some ⟨w5.heap.size, 0, none⟩)]] 40)).alloc (.cells #[.int .i64 0] 3)
    have q1 := (Boxed.new (w5.alloc (.cells #[.slice A L.length c] 23)) 40 (.func (.func 24) #[] #[.pointer (some ⟨w5.heap.size, 0, none⟩)])).alloc (.cells #[.int .i64 0] 3)
    have q2 := Boxed.new ((w5.alloc (.cells #[.slice A L.length c] 23)).alloc (.cells #[.func (.func 24) #[] #[.pointer (some ⟨w5.heap.size, 0, none⟩)]] 40)) 3 (.int .i64 0)
    simp only [World.size_alloc] at q1 q2
    have qB := ((bB5.alloc (.cells #[.slice A L.length c] 23)).alloc (.cells #[.func (.func 24) #[] #[.pointer (some ⟨w5.heap.size, 0, none⟩)]] 40)).alloc (.cells #[.int .i64 0] 3)
    have qR := ((bR5.alloc (.cells #[.slice A L.length c] 23)).alloc (.cells #[.func (.func 24) #[] #[.pointer (some ⟨w5.heap.size, 0, none⟩)]] 40)).alloc (.cells #[.int .i64 0] 3)
    have hz5 := HB5.out.size
    have hB0 : Below w.heap.size w (((w5.alloc (.cells #[.slice A L.length c] 23)).alloc (.cells #[.func (.func 24) #[] #[.pointer (some ⟨w5.heap.size, 0, none⟩)]] 40)).alloc (.cells #[.int .i64 0] 3)) := ((HB5.out.alloc hz5 _).alloc (by simp; omega) _).alloc (by simp; omega) _
    have hsz : (((w5.alloc (.cells #[.slice A L.length c] 23)).alloc (.cells #[.func (.func 24) #[] #[.pointer (some ⟨w5.heap.size, 0, none⟩)]] 40)).alloc (.cells #[.int .i64 0] 3)).heap.size = w5.heap.size + 3 := by simp
    have hlt5 := bR5.lt
    obtain ⟨W0, hW0⟩ : ∃ W0, ((w5.alloc (.cells #[.slice A L.length c] 23)).alloc (.cells #[.func (.func 24) #[] #[.pointer (some ⟨w5.heap.size, 0, none⟩)]] 40)).alloc (.cells #[.int .i64 0] 3) = W0 := ⟨_, rfl⟩
    rw [hW0] at q0 q1 q2 qB qR hB0 hsz ⊢
    have hsz1 := Nat.le_of_eq hsz
    have hsz2 := Nat.le_of_eq hsz.symm
    clear hW0 cB bB5 bR5 HB5 hsz
    refine wpIn_rangeFunc_ownH hro h1 (gf := 24) (lb := #[.pointer (some ⟨w5.heap.size, 0, none⟩)]) rfl h24 (enters_of Try.func24 (by kernel_rfl) rfl)
      (all_stops F hfn hC (n - 1) hro (by omega) w5.heap.size w.heap.size A c L hl2 (by omega) HY.out W0 (by omega) (by omega) q0.cell (HS.out.below hB0)) belowK_t (belowK_b (by omega)) (Below.refl _ _) (fun _ => rfl)
      (fun pre W => LeftO w w5 A c L.length pre W)
      (fun k pre _ => k = .ret ∧ BadO L pre)
      (leftO_own w w5 A c L.length (by omega))
      (fun _ => ownFrom_pure _ _)
      ⟨q2, qB, qR, q1, q0, hB0⟩
      (fun x a' W => ∃ Bx, w5.heap.size + 1 + 1 < Bx ∧ Boxed W Bx 3 (.int .i64 x.1) ∧ a' = { tmps := #[.slice A l.length c, .int .u8 m, .pointer (some ⟨w.heap.size, 0, none⟩), undef, .pointer (some ⟨w.heap.size + 1, 0, none⟩), .bool true, .int .i64 k, .slice A3 Q.length c3, .bool (flag (seq L)), .bool true, .slice A4 k c4, .bool f, .bool true, .bool true, .pointer (some ⟨w5.heap.size + 1, 0, none⟩), .pointer (some ⟨w5.heap.size + 1 + 1, 0, none⟩), .pointer (some ⟨Bx, 0, none⟩), undef, undef, .bool true, .slice A l.length c, .slice A L.length c, .int .u8 m, .int .u8 (m % 16), .int .i64 (m % 16), .int .i64 k, .tuple #[.slice A3 Q.length c3, .bool (flag (seq L)), .bool true], .slice A L.length c, .tuple #[.slice A3 Q.length c3, .bool (flag (seq L)), .bool true], .slice A3 Q.length c3, .bool (flag (seq L)), .bool true, .tuple #[.slice A4 k c4, .bool f, .bool true], .slice A L.length c, .int .i64 k, .tuple #[.slice A4 k c4, .bool f, .bool true], .slice A4 k c4, .bool f, .bool true, .bool true, .bool false, .bool false, .bool true, .bool false, .bool false, .bool false, .bool true, .bool false, .bool false, .bool false, .slice A4 k c4, .int .i64 k, .int .i64 k, .slice A3 Q.length c3, .int .i64 Q.length, .int .i64 k, .bool false, .bool false, .slice A4 k c4, .slice A3 Q.length c3, .slice A4 k c4, .int .i64 k, .slice A3 k c3, .bool true, .slice A L.length c, .func (Fn.func 24) #[] #[.pointer (some ⟨w5.heap.size, 0, none⟩)], .func (Fn.func 24) #[] #[.pointer (some ⟨w5.heap.size, 0, none⟩)], .bool false, .func (Fn.func 24) #[] #[.pointer (some ⟨w5.heap.size, 0, none⟩)], .int .i64 x.1, .bool x.2, undef, undef, undef, undef, undef, undef, undef, undef, undef, undef, undef, undef, undef, undef, undef, undef, undef, undef, undef, undef, undef, undef, undef, undef, undef, undef], defers := [] })
      (fun x a' _ X Y row hs hg hr => by obtain ⟨Bx, e1, e2, e3⟩ := hs; exact ⟨Bx, e1, boxed_own Bx 3 (fun (_ : Unit) => Value.int .i64 x.1) () X Y row e2 hg (fun r e => (hr r e).2), e3⟩)
      ?assign ?body ?done ?stop
    case assign =>
      rintro lo pre x W K ⟨i2, iB, iR, i1, i0, hB1⟩ hK
      unfold encs
      gi_wp2
      exact hK _ _ ((KeepsOthers.alloc _ _).from _) ((Below.refl _ W).alloc hB1.size _) ⟨i2.alloc _, iB.alloc _, iR.alloc _, i1.alloc _, i0.alloc _, hB1.alloc hB1.size _⟩ ⟨W.heap.size, i2.lt, Boxed.new W 3 _, rfl⟩
    case body =>
      rintro lo pre x a' W hlW ⟨r, hr⟩ ⟨i2, iB, iR, i1, i0, hB1⟩ ⟨Bx, hBx, bX, rfl⟩ hpl
      have c1 := (i1.alloc (.cells #[.int .i64 0] 3)).cell
      have h1' : 1 ≤ n - 1 - 1 := by omega
      have hsW := hB1.size
      have hXl := bX.lt
      gi_wp2
      have bW := Boxed.new W 3 (.int .i64 0)
      have hr' : (W.alloc (.cells #[.int .i64 0] 3)).heap[lo]? = some (.loop r) := (Below.heap_alloc W _ lo (Array.getElem?_eq_some_iff.1 hr).1).trans hr
      refine wpIn_rangeFunc_ownN (l₀ := lo) (r₀ := r) rfl hr' h1' (gf := 24) (lb := #[.pointer (some ⟨w5.heap.size, 0, none⟩)]) rfl h24 (enters_of Try.func24 (by kernel_rfl) rfl)
        ((all_stops F hfn hC (n - 1 - 1 - 1) hro (by omega) w5.heap.size w.heap.size A c L hl2 (by omega) HY.out (W.alloc (.cells #[.int .i64 0] 3)) (by simp; omega) (by simp; omega) (i0.alloc _).cell (HS.out.below (hB1.alloc hsW _))).inRound lo) belowK_t (belowK_b (by simp; omega)) (Below.refl _ _) (fun _ => rfl)
        (fun pre' W' => LeftI w w5 W W0.heap.size A c L.length pre.length Bx x.1 pre' W')
        (fun k pre' W' => (k = .ret ∧ ∃ q y, pre' = q ++ [y] ∧ q.length = pre.length ∧ x.1 ≠ y.1) ∧ KeepsFrom W0.heap.size W W')
        (leftI_own w w5 W W0.heap.size A c L.length pre.length Bx x.1 hsW (by simp) (by simp; omega))
        (fun k => OwnFrom.and (ownFrom_pure _ _) (ownFrom_keepsFrom (by simp)))
        ⟨bW, bX.alloc _, i2.alloc _, iB.alloc _, iR.alloc _, i1.alloc _, i0.alloc _, (Below.refl _ W).alloc hsW _, (KeepsOthers.alloc _ _).from _⟩
        (fun y a'' _ => a'' = { tmps := #[.slice A l.length c, .int .u8 m, .pointer (some ⟨w.heap.size, 0, none⟩), undef, .pointer (some ⟨w.heap.size + 1, 0, none⟩), .bool true, .int .i64 k, .slice A3 Q.length c3, .bool (flag (seq L)), .bool true, .slice A4 k c4, .bool f, .bool true, .bool true, .pointer (some ⟨w5.heap.size + 1, 0, none⟩), .pointer (some ⟨w5.heap.size + 1 + 1, 0, none⟩), .pointer (some ⟨Bx, 0, none⟩), .pointer (some ⟨W.heap.size, 0, none⟩), .int .i64 y.1, .bool true, .slice A l.length c, .slice A L.length c, .int .u8 m, .int .u8 (m % 16), .int .i64 (m % 16), .int .i64 k, .tuple #[.slice A3 Q.length c3, .bool (flag (seq L)), .bool true], .slice A L.length c, .tuple #[.slice A3 Q.length c3, .bool (flag (seq L)), .bool true], .slice A3 Q.length c3, .bool (flag (seq L)), .bool true, .tuple #[.slice A4 k c4, .bool f, .bool true], .slice A L.length c, .int .i64 k, .tuple #[.slice A4 k c4, .bool f, .bool true], .slice A4 k c4, .bool f, .bool true, .bool true, .bool false, .bool false, .bool true, .bool false, .bool false, .bool false, .bool true, .bool false, .bool false, .bool false, .slice A4 k c4, .int .i64 k, .int .i64 k, .slice A3 Q.length c3, .int .i64 Q.length, .int .i64 k, .bool false, .bool false, .slice A4 k c4, .slice A3 Q.length c3, .slice A4 k c4, .int .i64 k, .slice A3 k c3, .bool true, .slice A L.length c, .func (Fn.func 24) #[] #[.pointer (some ⟨w5.heap.size, 0, none⟩)], .func (Fn.func 24) #[] #[.pointer (some ⟨w5.heap.size, 0, none⟩)], .bool false, .func (Fn.func 24) #[] #[.pointer (some ⟨w5.heap.size, 0, none⟩)], .int .i64 x.1, .bool x.2, .func (.func 24) #[] #[.pointer (some ⟨w5.heap.size, 0, none⟩)], .int .i64 y.1, .bool y.2, undef, undef, undef, undef, undef, undef, undef, undef, undef, undef, undef, undef, undef, undef, undef, undef, undef, undef, undef, undef, undef, undef, undef], defers := [] })
        (fun _ _ _ _ _ _ hs _ _ => hs)
        ?assign2 ?body2 ?done2 ?stop2
      case assign2 =>
        rintro l2 pre' y W' K hi hK
        unfold encs
        gi_wp2
        exact hK _ _ (KeepsFrom.refl _ _) (Below.refl _ _) hi rfl
      case body2 =>
        rintro l2 pre' y a'' W' _ _ ⟨jW, jX, j2, jB, jR, j1, j0, hBW, hKF⟩ rfl hpl'
        have cW := jW.cell
        have fW := jW.frozen
        have cX := jX.cell
        have c2 := j2.cell
        have cB := jB.cell
        have cR := jR.cell
        have fR := jR.frozen
        have g1 : ¬ L.length < pre'.length := by omega
        have HJ := Lib.hid (And.intro jW (And.intro jX (And.intro j2 (And.intro jB (And.intro jR (And.intro j1 (And.intro j0 (And.intro hBW hKF))))))))
        clear jW jX j2 jB jR j1 j0 hBW hKF
        have z2 := i2.lt
        have zR := iR.lt
        gi_wp2
        · obtain ⟨jW, jX, j2, jB, jR, j1, j0, hBW, hKF⟩ := HJ.out
          have hbel := (Below.refl w.heap.size W').setCell (p := ⟨W.heap.size, 0, none⟩) hsW (.int .i64 ((pre.length : Int) + 1))
          refine ⟨(KeepsOthers.setCell _ _ _).from _, hbel, ?_, jX.other (by omega) _, j2.other (by omega) _, jB.other (by omega) _, jR.other (by omega) _, j1.other (by omega) _, j0.other (by omega) _, hBW.trans hbel, hKF.trans ((KeepsOthers.setCell _ _ _).from _)⟩
          rw [show (((pre' ++ [y]).length : Nat) : Int) = (pre.length : Int) + 1 by simp; omega]
          exact jW.set _
        · obtain ⟨jW, jX, j2, jB, jR, j1, j0, hBW, hKF⟩ := HJ.out
          exact ⟨(KeepsOthers.setCell _ _ _).from _, ⟨rfl, pre', y, rfl, by omega, by assumption⟩, hKF.trans ((KeepsOthers.setCell _ _ _).from _)⟩
        · obtain ⟨jW, jX, j2, jB, jR, j1, j0, hBW, hKF⟩ := HJ.out
          have hbel := (Below.refl w.heap.size W').setCell (p := ⟨W.heap.size, 0, none⟩) hsW (.int .i64 ((pre'.length : Int) + 1))
          refine ⟨(KeepsOthers.setCell _ _ _).from _, hbel, ?_, jX.other (by omega) _, j2.other (by omega) _, jB.other (by omega) _, jR.other (by omega) _, j1.other (by omega) _, j0.other (by omega) _, hBW.trans hbel, hKF.trans ((KeepsOthers.setCell _ _ _).from _)⟩
          rw [show (((pre' ++ [y]).length : Nat) : Int) = (pre'.length : Int) + 1 by simp]
          exact jW.set _
      case done2 =>
        rintro ys W' - ⟨jW, jX, j2, jB, jR, j1, j0, hBW, hKF⟩
        have c2 := j2.cell
        have f2 := j2.frozen
        have c2n := (j2.set (.int .i64 ((pre.length : Int) + 1))).cell
        have cBn := (jB.other (B' := w5.heap.size + 1 + 1) (by omega) (.int .i64 ((pre.length : Int) + 1))).cell
        have g2 : ¬ (L.length : Int) < (pre.length : Int) + 1 := by omega
        have HJ := Lib.hid (And.intro j2 (And.intro jB (And.intro jR (And.intro j1 (And.intro j0 (And.intro hBW hKF))))))
        clear jW jX j2 jB jR j1 j0 hBW hKF
        gi_wp2
        obtain ⟨j2, jB, jR, j1, j0, hBW, hKF⟩ := HJ.out
        have hbel := hBW.setCell (p := ⟨w5.heap.size + 1 + 1, 0, none⟩) (by simp; omega) (.int .i64 ((pre.length : Int) + 1))
        refine ⟨hKF.trans ((KeepsOthers.setCell _ _ _).from _), hbel, ?_, jB.other (by omega) _, jR.other (by omega) _, j1.other (by omega) _, j0.other (by omega) _, hB1.trans hbel⟩
        rw [show (((pre ++ [x]).length : Nat) : Int) = (pre.length : Int) + 1 by simp]
        exact j2.set _
      case stop2 =>
        rintro k' pre' W' hpre ⟨⟨rfl, q, y, rfl, hq, hne⟩, hKF⟩
        gi_wp2
        exact ⟨hKF, rfl, pre, x, q, y, rfl, hpre, hq, hne⟩
    case done =>
      rintro D ys W hD - ⟨i2, iB, iR, i1, i0, hB1⟩ hK
      have cR := iR.cell
      have fR := iR.frozen
      gi_wp2
      have hK' := (KeepsOthers.setCell W ⟨w.heap.size + 1, 0, none⟩ (.bool true)).same D _ hK rfl
      refine ⟨by simp, .inl ⟨_, _, rfl, run_takeDeferred hK', ?_⟩⟩
      have hc5 := cell_kept (iR.set (.bool true)).cell (grownBy_putObj' _ D (.deferred none)) (fun r e => by cases e; exact ⟨_, hK', rfl⟩)
      refine ⟨.bool true, ?_, rfl, (hB1.setCell (p := ⟨w.heap.size + 1, 0, none⟩) (by simp) _).trans (belowK_b (w := w) (Nat.le_refl _) _ D _ _ (by omega) hK' rfl rfl)⟩
      simp [results, Try.f5, go_sem, hc5]
    case stop =>
      rintro D k' pre W hD hpre ⟨rfl, hbad⟩ hK
      exact absurd hbad (not_badO hpre)
  · have hj : (Q.take k).length = Q.length := by simp; omega
    rw [hj] at hc41 ⊢
    have hcut := slice_to22 A3 Q.length c3 Q.length Q.length (by omega) rfl
    have HSM := Lib.hid (same_any A4 A3 c4 c3 (Q.take k) w4 HS4.out (HS34.out.take k) (by omega))
    rw [hj] at HSM
    clear hj
    gi_wp2_with fail
    refine (hC _ HSM.out).mono ?_
    rintro e w5 ⟨rfl, hb5⟩
    have bB5 := boxed_keep bB4 hb5
    have bR5 := boxed_keep bR4 hb5
    have HB5 := Lib.hid (HB4.out.trans (hb5.mono HB4.out.size))
    clear hb5 HB4 bB4 bR4 HSM HS4 HS34 hcut
    have cB := bB5.cell
    gi_wp2_with fail
    refine (hC _ (all_any _ _ _ _)).mono ?_
    rintro e w6 ⟨rfl, rfl⟩
    gi_wp2
    have q0 := ((Boxed.new w5 23 (.slice A L.length c)).alloc (.cells #[.func (.func 24) #[] #[.pointer (some ⟨w5.heap.size, 0, none⟩)]] 40)).alloc (.cells #[.int .i64 0] 3)
    have q1 := (Boxed.new (w5.alloc (.cells #[.slice A L.length c] 23)) 40 (.func (.func 24) #[] #[.pointer (some ⟨w5.heap.size, 0, none⟩)])).alloc (.cells #[.int .i64 0] 3)
    have q2 := Boxed.new ((w5.alloc (.cells #[.slice A L.length c] 23)).alloc (.cells #[.func (.func 24) #[] #[.pointer (some ⟨w5.heap.size, 0, none⟩)]] 40)) 3 (.int .i64 0)
    simp only [World.size_alloc] at q1 q2
    have qB := ((bB5.alloc (.cells #[.slice A L.length c] 23)).alloc (.cells #[.func (.func 24) #[] #[.pointer (some ⟨w5.heap.size, 0, none⟩)]] 40)).alloc (.cells #[.int .i64 0] 3)
    have qR := ((bR5.alloc (.cells #[.slice A L.length c] 23)).alloc (.cells #[.func (.func 24) #[] #[.pointer (some ⟨w5.heap.size, 0, none⟩)]] 40)).alloc (.cells #[.int .i64 0] 3)
    have hz5 := HB5.out.size
    have hB0 : Below w.heap.size w (((w5.alloc (.cells #[.slice A L.length c] 23)).alloc (.cells #[.func (.func 24) #[] #[.pointer (some ⟨w5.heap.size, 0, none⟩)]] 40)).alloc (.cells #[.int .i64 0] 3)) := ((HB5.out.alloc hz5 _).alloc (by simp; omega) _).alloc (by simp; omega) _
    have hsz : (((w5.alloc (.cells #[.slice A L.length c] 23)).alloc (.cells #[.func (.func 24) #[] #[.pointer (some ⟨w5.heap.size, 0, none⟩)]] 40)).alloc (.cells #[.int .i64 0] 3)).heap.size = w5.heap.size + 3 := by simp
    have hlt5 := bR5.lt
    obtain ⟨W0, hW0⟩ : ∃ W0, ((w5.alloc (.cells #[.slice A L.length c] 23)).alloc (.cells #[.func (.func 24) #[] #[.pointer (some ⟨w5.heap.size, 0, none⟩)]] 40)).alloc (.cells #[.int .i64 0] 3) = W0 := ⟨_, rfl⟩
    rw [hW0] at q0 q1 q2 qB qR hB0 hsz ⊢
    have hsz1 := Nat.le_of_eq hsz
    have hsz2 := Nat.le_of_eq hsz.symm
    clear hW0 cB bB5 bR5 HB5 hsz
    refine wpIn_rangeFunc_ownH hro h1 (gf := 24) (lb := #[.pointer (some ⟨w5.heap.size, 0, none⟩)]) rfl h24 (enters_of Try.func24 (by kernel_rfl) rfl)
      (all_stops F hfn hC (n - 1) hro (by omega) w5.heap.size w.heap.size A c L hl2 (by omega) HY.out W0 (by omega) (by omega) q0.cell (HS.out.below hB0)) belowK_t (belowK_b (by omega)) (Below.refl _ _) (fun _ => rfl)
      (fun pre W => LeftO w w5 A c L.length pre W)
      (fun k pre _ => k = .ret ∧ BadO L pre)
      (leftO_own w w5 A c L.length (by omega))
      (fun _ => ownFrom_pure _ _)
      ⟨q2, qB, qR, q1, q0, hB0⟩
      (fun x a' W => ∃ Bx, w5.heap.size + 1 + 1 < Bx ∧ Boxed W Bx 3 (.int .i64 x.1) ∧ a' = { tmps := #[.slice A l.length c, .int .u8 m, .pointer (some ⟨w.heap.size, 0, none⟩), undef, .pointer (some ⟨w.heap.size + 1, 0, none⟩), .bool true, .int .i64 k, .slice A3 Q.length c3, .bool (flag (seq L)), .bool true, .slice A4 Q.length c4, .bool f, .bool true, .bool true, .pointer (some ⟨w5.heap.size + 1, 0, none⟩), .pointer (some ⟨w5.heap.size + 1 + 1, 0, none⟩), .pointer (some ⟨Bx, 0, none⟩), undef, undef, .bool true, .slice A l.length c, .slice A L.length c, .int .u8 m, .int .u8 (m % 16), .int .i64 (m % 16), .int .i64 k, .tuple #[.slice A3 Q.length c3, .bool (flag (seq L)), .bool true], .slice A L.length c, .tuple #[.slice A3 Q.length c3, .bool (flag (seq L)), .bool true], .slice A3 Q.length c3, .bool (flag (seq L)), .bool true, .tuple #[.slice A4 Q.length c4, .bool f, .bool true], .slice A L.length c, .int .i64 k, .tuple #[.slice A4 Q.length c4, .bool f, .bool true], .slice A4 Q.length c4, .bool f, .bool true, .bool true, .bool false, .bool false, .bool true, .bool false, .bool false, .bool false, .bool true, .bool false, .bool false, .bool false, .slice A4 Q.length c4, .int .i64 Q.length, .int .i64 k, .slice A3 Q.length c3, .int .i64 Q.length, .int .i64 Q.length, .bool false, .bool false, .slice A4 Q.length c4, .slice A3 Q.length c3, .slice A4 Q.length c4, .int .i64 Q.length, .slice A3 Q.length c3, .bool true, .slice A L.length c, .func (Fn.func 24) #[] #[.pointer (some ⟨w5.heap.size, 0, none⟩)], .func (Fn.func 24) #[] #[.pointer (some ⟨w5.heap.size, 0, none⟩)], .bool false, .func (Fn.func 24) #[] #[.pointer (some ⟨w5.heap.size, 0, none⟩)], .int .i64 x.1, .bool x.2, undef, undef, undef, undef, undef, undef, undef, undef, undef, undef, undef, undef, undef, undef, undef, undef, undef, undef, undef, undef, undef, undef, undef, undef, undef, undef], defers := [] })
      (fun x a' _ X Y row hs hg hr => by obtain ⟨Bx, e1, e2, e3⟩ := hs; exact ⟨Bx, e1, boxed_own Bx 3 (fun (_ : Unit) => Value.int .i64 x.1) () X Y row e2 hg (fun r e => (hr r e).2), e3⟩)
      ?assign ?body ?done ?stop
    case assign =>
      rintro lo pre x W K ⟨i2, iB, iR, i1, i0, hB1⟩ hK
      unfold encs
      gi_wp2
      exact hK _ _ ((KeepsOthers.alloc _ _).from _) ((Below.refl _ W).alloc hB1.size _) ⟨i2.alloc _, iB.alloc _, iR.alloc _, i1.alloc _, i0.alloc _, hB1.alloc hB1.size _⟩ ⟨W.heap.size, i2.lt, Boxed.new W 3 _, rfl⟩
    case body =>
      rintro lo pre x a' W hlW ⟨r, hr⟩ ⟨i2, iB, iR, i1, i0, hB1⟩ ⟨Bx, hBx, bX, rfl⟩ hpl
      have c1 := (i1.alloc (.cells #[.int .i64 0] 3)).cell
      have h1' : 1 ≤ n - 1 - 1 := by omega
      have hsW := hB1.size
      have hXl := bX.lt
      gi_wp2
      have bW := Boxed.new W 3 (.int .i64 0)
      have hr' : (W.alloc (.cells #[.int .i64 0] 3)).heap[lo]? = some (.loop r) := (Below.heap_alloc W _ lo (Array.getElem?_eq_some_iff.1 hr).1).trans hr
      refine wpIn_rangeFunc_ownN (l₀ := lo) (r₀ := r) rfl hr' h1' (gf := 24) (lb := #[.pointer (some ⟨w5.heap.size, 0, none⟩)]) rfl h24 (enters_of Try.func24 (by kernel_rfl) rfl)
        ((all_stops F hfn hC (n - 1 - 1 - 1) hro (by omega) w5.heap.size w.heap.size A c L hl2 (by omega) HY.out (W.alloc (.cells #[.int .i64 0] 3)) (by simp; omega) (by simp; omega) (i0.alloc _).cell (HS.out.below (hB1.alloc hsW _))).inRound lo) belowK_t (belowK_b (by simp; omega)) (Below.refl _ _) (fun _ => rfl)
        (fun pre' W' => LeftI w w5 W W0.heap.size A c L.length pre.length Bx x.1 pre' W')
        (fun k pre' W' => (k = .ret ∧ ∃ q y, pre' = q ++ [y] ∧ q.length = pre.length ∧ x.1 ≠ y.1) ∧ KeepsFrom W0.heap.size W W')
        (leftI_own w w5 W W0.heap.size A c L.length pre.length Bx x.1 hsW (by simp) (by simp; omega))
        (fun k => OwnFrom.and (ownFrom_pure _ _) (ownFrom_keepsFrom (by simp)))
        ⟨bW, bX.alloc _, i2.alloc _, iB.alloc _, iR.alloc _, i1.alloc _, i0.alloc _, (Below.refl _ W).alloc hsW _, (KeepsOthers.alloc _ _).from _⟩
        (fun y a'' _ => a'' = { tmps := #[.slice A l.length c, .int .u8 m, .pointer (some ⟨w.heap.size, 0, none⟩), undef, .pointer (some ⟨w.heap.size + 1, 0, none⟩), .bool true, .int .i64 k, .slice A3 Q.length c3, .bool (flag (seq L)), .bool true, .slice A4 Q.length c4, .bool f, .bool true, .bool true, .pointer (some ⟨w5.heap.size + 1, 0, none⟩), .pointer (some ⟨w5.heap.size + 1 + 1, 0, none⟩), .pointer (some ⟨Bx, 0, none⟩), .pointer (some ⟨W.heap.size, 0, none⟩), .int .i64 y.1, .bool true, .slice A l.length c, .slice A L.length c, .int .u8 m, .int .u8 (m % 16), .int .i64 (m % 16), .int .i64 k, .tuple #[.slice A3 Q.length c3, .bool (flag (seq L)), .bool true], .slice A L.length c, .tuple #[.slice A3 Q.length c3, .bool (flag (seq L)), .bool true], .slice A3 Q.length c3, .bool (flag (seq L)), .bool true, .tuple #[.slice A4 Q.length c4, .bool f, .bool true], .slice A L.length c, .int .i64 k, .tuple #[.slice A4 Q.length c4, .bool f, .bool true], .slice A4 Q.length c4, .bool f, .bool true, .bool true, .bool false, .bool false, .bool true, .bool false, .bool false, .bool false, .bool true, .bool false, .bool false, .bool false, .slice A4 Q.length c4, .int .i64 Q.length, .int .i64 k, .slice A3 Q.length c3, .int .i64 Q.length, .int .i64 Q.length, .bool false, .bool false, .slice A4 Q.length c4, .slice A3 Q.length c3, .slice A4 Q.length c4, .int .i64 Q.length, .slice A3 Q.length c3, .bool true, .slice A L.length c, .func (Fn.func 24) #[] #[.pointer (some ⟨w5.heap.size, 0, none⟩)], .func (Fn.func 24) #[] #[.pointer (some ⟨w5.heap.size, 0, none⟩)], .bool false, .func (Fn.func 24) #[] #[.pointer (some ⟨w5.heap.size, 0, none⟩)], .int .i64 x.1, .bool x.2, .func (.func 24) #[] #[.pointer (some ⟨w5.heap.size, 0, none⟩)], .int .i64 y.1, .bool y.2, undef, undef, undef, undef, undef, undef, undef, undef, undef, undef, undef, undef, undef, undef, undef, undef, undef, undef, undef, undef, undef, undef, undef], defers := [] })
        (fun _ _ _ _ _ _ hs _ _ => hs)
        ?assign2 ?body2 ?done2 ?stop2
      case assign2 =>
        rintro l2 pre' y W' K hi hK
        unfold encs
        gi_wp2
        exact hK _ _ (KeepsFrom.refl _ _) (Below.refl _ _) hi rfl
      case body2 =>
        rintro l2 pre' y a'' W' _ _ ⟨jW, jX, j2, jB, jR, j1, j0, hBW, hKF⟩ rfl hpl'
        have cW := jW.cell
        have fW := jW.frozen
        have cX := jX.cell
        have c2 := j2.cell
        have cB := jB.cell
        have cR := jR.cell
        have fR := jR.frozen
        have g1 : ¬ L.length < pre'.length := by omega
        have HJ := Lib.hid (And.intro jW (And.intro jX (And.intro j2 (And.intro jB (And.intro jR (And.intro j1 (And.intro j0 (And.intro hBW hKF))))))))
        clear jW jX j2 jB jR j1 j0 hBW hKF
        have z2 := i2.lt
        have zR := iR.lt
        gi_wp2
        · obtain ⟨jW, jX, j2, jB, jR, j1, j0, hBW, hKF⟩ := HJ.out
          have hbel := (Below.refl w.heap.size W').setCell (p := ⟨W.heap.size, 0, none⟩) hsW (.int .i64 ((pre.length : Int) + 1))
          refine ⟨(KeepsOthers.setCell _ _ _).from _, hbel, ?_, jX.other (by omega) _, j2.other (by omega) _, jB.other (by omega) _, jR.other (by omega) _, j1.other (by omega) _, j0.other (by omega) _, hBW.trans hbel, hKF.trans ((KeepsOthers.setCell _ _ _).from _)⟩
          rw [show (((pre' ++ [y]).length : Nat) : Int) = (pre.length : Int) + 1 by simp; omega]
          exact jW.set _
        · obtain ⟨jW, jX, j2, jB, jR, j1, j0, hBW, hKF⟩ := HJ.out
          exact ⟨(KeepsOthers.setCell _ _ _).from _, ⟨rfl, pre', y, rfl, by omega, by assumption⟩, hKF.trans ((KeepsOthers.setCell _ _ _).from _)⟩
        · obtain ⟨jW, jX, j2, jB, jR, j1, j0, hBW, hKF⟩ := HJ.out
          have hbel := (Below.refl w.heap.size W').setCell (p := ⟨W.heap.size, 0, none⟩) hsW (.int .i64 ((pre'.length : Int) + 1))
          refine ⟨(KeepsOthers.setCell _ _ _).from _, hbel, ?_, jX.other (by omega) _, j2.other (by omega) _, jB.other (by omega) _, jR.other (by omega) _, j1.other (by omega) _, j0.other (by omega) _, hBW.trans hbel, hKF.trans ((KeepsOthers.setCell _ _ _).from _)⟩
          rw [show (((pre' ++ [y]).length : Nat) : Int) = (pre'.length : Int) + 1 by simp]
          exact jW.set _
      case done2 =>
        rintro ys W' - ⟨jW, jX, j2, jB, jR, j1, j0, hBW, hKF⟩
        have c2 := j2.cell
        have f2 := j2.frozen
        have c2n := (j2.set (.int .i64 ((pre.length : Int) + 1))).cell
        have cBn := (jB.other (B' := w5.heap.size + 1 + 1) (by omega) (.int .i64 ((pre.length : Int) + 1))).cell
        have g2 : ¬ (L.length : Int) < (pre.length : Int) + 1 := by omega
        have HJ := Lib.hid (And.intro j2 (And.intro jB (And.intro jR (And.intro j1 (And.intro j0 (And.intro hBW hKF))))))
        clear jW jX j2 jB jR j1 j0 hBW hKF
        gi_wp2
        obtain ⟨j2, jB, jR, j1, j0, hBW, hKF⟩ := HJ.out
        have hbel := hBW.setCell (p := ⟨w5.heap.size + 1 + 1, 0, none⟩) (by simp; omega) (.int .i64 ((pre.length : Int) + 1))
        refine ⟨hKF.trans ((KeepsOthers.setCell _ _ _).from _), hbel, ?_, jB.other (by omega) _, jR.other (by omega) _, j1.other (by omega) _, j0.other (by omega) _, hB1.trans hbel⟩
        rw [show (((pre ++ [x]).length : Nat) : Int) = (pre.length : Int) + 1 by simp]
        exact j2.set _
      case stop2 =>
        rintro k' pre' W' hpre ⟨⟨rfl, q, y, rfl, hq, hne⟩, hKF⟩
        gi_wp2
        exact ⟨hKF, rfl, pre, x, q, y, rfl, hpre, hq, hne⟩
    case done =>
      rintro D ys W hD - ⟨i2, iB, iR, i1, i0, hB1⟩ hK
      have cR := iR.cell
      have fR := iR.frozen
      gi_wp2
      have hK' := (KeepsOthers.setCell W ⟨w.heap.size + 1, 0, none⟩ (.bool true)).same D _ hK rfl
      refine ⟨by simp, .inl ⟨_, _, rfl, run_takeDeferred hK', ?_⟩⟩
      have hc5 := cell_kept (iR.set (.bool true)).cell (grownBy_putObj' _ D (.deferred none)) (fun r e => by cases e; exact ⟨_, hK', rfl⟩)
      refine ⟨.bool true, ?_, rfl, (hB1.setCell (p := ⟨w.heap.size + 1, 0, none⟩) (by simp) _).trans (belowK_b (w := w) (Nat.le_refl _) _ D _ _ (by omega) hK' rfl rfl)⟩
      simp [results, Try.f5, go_sem, hc5]
    case stop =>
      rintro D k' pre W hD hpre ⟨rfl, hbad⟩ hK
      exact absurd hbad (not_badO hpre)

theorem left_walk (A : Option Addr) (c : Nat) (l : List Int) (m : Int) (w : World) (hs : Sl .u8 w w.heap.size A l) (hb : Byt l) (hc : l.length ≤ c) (hm : c ≤ 9223372036854775807) (m0 : 0 ≤ m) (m1 : m ≤ 255) :
    Calls Try.prog 5 #[.slice A l.length c, .int .u8 m] w (Yes w) :=
  (callsIn_wide (n := 10)).1 (left_in Fence.wide (fun _ => trivial) (fun _ h => callsIn_wide.2 h) 10 rfl (Nat.le_refl _) A c l m w hs hb hc hm m0 m1)
end Go.Proofs.Ytopncdeafbpenaa
