/-
  The contracts of texture.texels and of its closures, of texture.Texel and texture.Nearest.
-/
import Derived.Test.YtehkcnmjkgelkaaTex
namespace Go.Proofs.Ytehkcnmjkgelkaa
open Go.RowKit
attribute [local go_sem ↓] Go.wp_at_zero Go.wp_at_succ

theorem new_below (w : World) (o : Obj) : Below w.heap.size w (w.alloc o) := (Below.refl w.heap.size w).alloc (Nat.le_refl _) o
theorem Es.up {α : Type} {E : Elem α} {w w' : World} {A : Option Addr} {xs : List α} (h : Es E w w.heap.size A xs) (hb : Below w.heap.size w w') : Es E w' w'.heap.size A xs := (h.below hb).more hb.size
theorem texels1_any (x y : Int) (w : World) :
    Calls Try.prog 71 #[.int .i64 x, .int .i64 y] w fun e w' => e = .returned (.agg #[.int .u8 zC.r, .int .u8 zC.g, .int .u8 zC.b, .int .u8 zC.a]) ∧ Below w.heap.size w w' := by
  have HB := Lib.hid (new_below w)
  go_enter Try.func71, Try.ntmps71
  go_wp2
  refine bodyPost_ret (v := .agg #[.int .u8 zC.r, .int .u8 zC.g, .int .u8 zC.b, .int .u8 zC.a]) (by simp [results, Try.results71, go_sem, zC]) rfl ⟨rfl, ?_⟩
  exact HB.out _

/-- A block that holds a picture. -/
def txB (t : Tx) (A : Option Addr) (c : Nat) : Obj := .cells #[.int .i64 t.w, .int .i64 t.h, .slice A t.px.length c] 25 (0, 0)
theorem txB_cell {w : World} {g : Nat} {t : Tx} {A : Option Addr} {c : Nat} (h : w.heap[g]? = some (txB t A c)) : w.cell? ⟨g, 0, none⟩ = some (.int .i64 t.w) ∧ w.cell? ⟨g, 1, none⟩ = some (.int .i64 t.h) ∧ w.cell? ⟨g, 2, none⟩ = some (.slice A t.px.length c) := by
  unfold txB at h
  exact ⟨Joins.cell_of_block h 0, Joins.cell_of_block h 1, Joins.cell_of_block h 2⟩
theorem txB_free {w : World} {g : Nat} {t : Tx} {A : Option Addr} {c : Nat} (h : w.heap[g]? = some (txB t A c)) : w.frozen? ⟨g, 0, none⟩ = false ∧ w.frozen? ⟨g, 1, none⟩ = false ∧ w.frozen? ⟨g, 2, none⟩ = false := by
  unfold txB at h
  refine ⟨?_, ?_, ?_⟩ <;> simp [World.frozen?, h]
theorem txB_lt {w : World} {g : Nat} {t : Tx} {A : Option Addr} {c : Nat} (h : w.heap[g]? = some (txB t A c)) : g < w.heap.size := (Array.getElem?_eq_some_iff.1 h).1
theorem txB_grow {w w' : World} {g : Nat} {t : Tx} {A : Option Addr} {c : Nat} (h : w.heap[g]? = some (txB t A c)) (k : Below w.heap.size w w') : w'.heap[g]? = some (txB t A c) := (k.block _ (txB_lt h)).trans h

/-- The texel at a place of a picture that may be, and where it lies. -/
theorem Tx.at_place {t : Tx} (hr : t.right = true) (x y : Int) : ∃ k : Nat, (k : Int) = (y % t.h) * t.w + x % t.w ∧ (k : Int) < t.w * t.h ∧ ∃ c, t.px[k]? = some c ∧ t.at x y = c := by
  obtain ⟨w0, w1, h0, h1, hl⟩ := Tx.fine hr
  obtain ⟨m, hm⟩ : ∃ m, t.w * t.h = m := ⟨_, rfl⟩
  have x0 := Int.emod_nonneg x (show t.w ≠ 0 by omega)
  have x1 := Int.emod_lt_of_pos x (show (0 : Int) < t.w by omega)
  have y0 := Int.emod_nonneg y (show t.h ≠ 0 by omega)
  have y1 := Int.emod_lt_of_pos y (show (0 : Int) < t.h by omega)
  obtain ⟨i, hi⟩ : ∃ i, (y % t.h) * t.w + x % t.w = i := ⟨_, rfl⟩
  obtain ⟨i0, i1⟩ := place_bd w0 w1 h0 h1 hm x0 x1 y0 y1 hi
  have hlt : i.toNat < t.px.length := by omega
  refine ⟨i.toNat, by rw [hi]; omega, by omega, t.px[i.toNat], List.getElem?_eq_getElem hlt, ?_⟩
  unfold Tx.at
  rw [if_pos hr, hi, List.getD_eq_getElem?_getD, List.getElem?_eq_getElem hlt]
  rfl

set_option maxHeartbeats 1000000 in
theorem texels2_any (t : Tx) (A : Option Addr) (c g : Nat) (x y : Int) (hx : I64 x) (hy : I64 y) (hr : t.right = true) (w : World) (hb : w.heap[g]? = some (txB t A c)) (he : Es EC w w.heap.size A t.px) :
    Calls Try.prog 72 #[.int .i64 x, .int .i64 y, .pointer (some ⟨g, 0, none⟩)] w fun e w' => e = .returned (.agg #[.int .u8 (t.at x y).r, .int .u8 (t.at x y).g, .int .u8 (t.at x y).b, .int .u8 (t.at x y).a]) ∧ Below w.heap.size w w' := by
  obtain ⟨w0, w1, h0, h1, hl⟩ := Tx.fine hr
  obtain ⟨k, hk, hkm, u, hu, hat⟩ := Tx.at_place hr x y
  obtain ⟨b, off, rfl, hbB, hc⟩ := he.at hu
  rw [hat]
  have HX := Lib.hid (split_any x t.w hx w0 w1)
  have HY := Lib.hid (split_any y t.h hy h0 h1)
  have HB := Lib.hid (new_below w)
  obtain ⟨e0, e1, e2⟩ := txB_cell hb
  have hg := txB_lt hb
  have x0 := Int.emod_nonneg x (show t.w ≠ 0 by omega)
  have x1 := Int.emod_lt_of_pos x (show (0 : Int) < t.w by omega)
  have y0 := Int.emod_nonneg y (show t.h ≠ 0 by omega)
  have y1 := Int.emod_lt_of_pos y (show (0 : Int) < t.h by omega)
  have hm2 := area_bd w0 w1 h0 h1 rfl
  have p00 := Int.mul_nonneg y0 (show 0 ≤ t.w by omega)
  generalize t.w * t.h = m at *
  generalize hcol : x % t.w = cl at *
  generalize hrow : y % t.h = rw_ at *
  generalize x / t.w = xq at *
  generalize y / t.h = yq at *
  obtain ⟨p, hp⟩ : ∃ p, rw_ * t.w = p := ⟨_, rfl⟩
  rw [hp] at hk p00
  have p0 : 0 ≤ p ∧ p ≤ 256 := by omega
  have hp2 : IntKind.i64.wrap (rw_ * t.w) = p := by rw [hp, IntKind.wrap_i64]; omega
  obtain ⟨c0, c1, c2, c3⟩ := atC (show AtE EC w b (off + k * 4) u from hc)
  have hk2 : p + cl = (k : Int) := hk.symm
  have hkl : (k : Int) < (t.px.length : Int) := by omega
  have hk0 : (0 : Int) ≤ (k : Int) := by omega
  have hk1 : (k : Int) ≤ 256 := by omega
  clear hc hu hat hcol hrow hp hk hl hkm hx hy hb he hm2 p00 x0 x1 y0 y1 hr p0
  go_enter Try.func72, Try.ntmps72
  go_wp2_with (go_at_call 52; first | ((with_reducible refine (HX.out _).mono ?_); rintro e w' ⟨rfl, rfl⟩) | ((with_reducible refine (HY.out _).mono ?_); rintro e w' ⟨rfl, rfl⟩))
  refine bodyPost_ret (v := .agg #[.int .u8 u.r, .int .u8 u.g, .int .u8 u.b, .int .u8 u.a]) (by simp [results, Try.results72, go_sem]) rfl ⟨rfl, ?_⟩
  exact HB.out _

theorem entersT1 (args : Array Value) (w : World) : (callFunc 71 args).run Try.prog w = .ok (.enter 71 args) w := by go_simp
theorem entersT2 (args : Array Value) (w : World) : (callFunc 72 args).run Try.prog w = .ok (.enter 72 args) w := by go_simp
/-- What texture.texels tells: a function that tells the texels of a picture. -/
def Kept (t : Tx) (w : World) (v : Value) : Prop := ∃ (k : FuncId) (caps : Array Value), v = .func (.func k) #[] caps ∧ (∀ (args : Array Value) (w : World), (callFunc k args).run Try.prog w = .ok (.enter k args) w) ∧ ∀ (x y : Int) (W : World), I64 x → I64 y → Below w.heap.size w W →
  Calls Try.prog k (#[.int .i64 x, .int .i64 y] ++ caps) W fun e w' => e = .returned (.agg #[.int .u8 (t.at x y).r, .int .u8 (t.at x y).g, .int .u8 (t.at x y).b, .int .u8 (t.at x y).a]) ∧ Below W.heap.size W w'
theorem Kept.grow {t : Tx} {w w' : World} {v : Value} (h : Kept t w v) (hb : Below w.heap.size w w') : Kept t w' v := by
  obtain ⟨k, caps, e, hk, H⟩ := h
  exact ⟨k, caps, e, hk, fun x y W hx hy hW => H x y W hx hy (hb.trans (hW.mono hb.size))⟩

set_option maxHeartbeats 1000000 in
theorem texels_any (t : Tx) (A : Option Addr) (c : Nat) (w : World) (he : Es EC w w.heap.size A t.px) :
    Calls Try.prog 54 #[.agg #[.int .i64 t.w, .int .i64 t.h, .slice A t.px.length c]] w fun e w' => (∃ v, e = .returned v ∧ Kept t w' v) ∧ Below w.heap.size w w' := by
  have hmf := mk_func
  have HR := Lib.hid (right_any t A c)
  have HE := Lib.hid he
  clear he
  obtain ⟨r, hr⟩ : ∃ r, t.right = r := ⟨_, rfl⟩
  rw [hr] at HR
  have HT := Lib.hid hr
  clear hr
  cases r
  · go_enter Try.func54, Try.ntmps54
    go_wp2_with (go_at_call 51; (with_reducible refine (HR.out _).mono ?_); rintro e w1 ⟨rfl, hb⟩; have HB := Lib.hid hb; clear hb)
    refine bodyPost_ret (v := .func (.func 71) #[] #[]) (by simp [results, Try.results54, go_sem]) rfl ⟨⟨_, rfl, 71, #[], rfl, entersT1, fun x y W _ _ _ => ?_⟩, bstep ((Below.refl _ _).alloc (Nat.le_refl _) _) (by simp) HB.out⟩
    have ha : t.at x y = zC := by unfold Tx.at; rw [HT.out]; rfl
    rw [ha]
    exact texels1_any x y W
  · go_enter Try.func54, Try.ntmps54
    go_wp2_with (go_at_call 51; (with_reducible refine (HR.out _).mono ?_); rintro e w1 ⟨rfl, hb⟩; have HB := Lib.hid hb; clear hb)
    have hbx : w1.heap[w.heap.size]? = some (txB t A c) := (HB.out.block _ (by simp)).trans (heap_alloc_new _ _)
    have hw1 := bstep ((Below.refl w.heap.size w).alloc (Nat.le_refl _) _) (by simp) HB.out
    refine bodyPost_ret (v := .func (.func 72) #[] #[.pointer (some ⟨w.heap.size, 0, none⟩)]) (by simp [results, Try.results54, go_sem]) rfl ⟨⟨_, rfl, 72, #[.pointer (some ⟨w.heap.size, 0, none⟩)], rfl, entersT2, fun x y W hx hy hW => ?_⟩, hw1⟩
    exact texels2_any t A c _ x y hx hy HT.out W (txB_grow hbx hW) ((HE.out.up hw1).up hW)

set_option maxHeartbeats 1000000 in
theorem texel_any (t : Tx) (A : Option Addr) (c : Nat) (x y : Int) (hx : I64 x) (hy : I64 y) (w : World) (he : Es EC w w.heap.size A t.px) :
    Calls Try.prog 53 #[.agg #[.int .i64 t.w, .int .i64 t.h, .slice A t.px.length c], .int .i64 x, .int .i64 y] w fun e w' => e = .returned (.agg #[.int .u8 (t.at x y).r, .int .u8 (t.at x y).g, .int .u8 (t.at x y).b, .int .u8 (t.at x y).a]) ∧ Below w.heap.size w w' := by
  have HT := Lib.hid (texels_any t A c)
  have HE := Lib.hid he
  have HX := Lib.hid hx
  have HY := Lib.hid hy
  clear he hx hy
  obtain ⟨u, hu⟩ : ∃ u, t.at x y = u := ⟨_, rfl⟩
  have HU := Lib.hid hu
  rw [hu]
  clear hu
  go_enter Try.func53, Try.ntmps53
  go_wp2_with fail
  have h0 : Below w.heap.size w ((w.alloc (.cells #[.int .i64 t.w, .int .i64 t.h, .slice A t.px.length c] 25)).alloc (.cells #[.int .u8 0, .int .u8 0, .int .u8 0, .int .u8 0] 38)) := ((Below.refl _ _).alloc (Nat.le_refl _) _).alloc (by simp) _
  refine (HT.out _ (HE.out.up h0)).mono ?_
  rintro e w1 ⟨⟨v, rfl, k, caps, rfl, eg, hK⟩, hb⟩
  have H0 := Lib.hid h0
  have HB := Lib.hid hb
  have HK := Lib.hid (hK x y w1 HX.out HY.out (Below.refl _ _))
  have hz : w1.heap[w.heap.size + 1]? = some (colB zC) := (hb.block _ (by simp)).trans (new_at2 _ _ _)
  have HZ := Lib.hid hz
  clear h0 hb hK hz
  go_wp2_with fail
  rw [HU.out] at HK
  refine HK.out.mono ?_
  rintro e w2 ⟨rfl, hb2⟩
  have hz2 := (hb2.block _ (Array.getElem?_eq_some_iff.1 HZ.out).1).trans HZ.out
  obtain ⟨i0, i1, i2, i3⟩ := colB_cell hz2
  obtain ⟨j0, j1, j2, j3⟩ := colB_free hz2
  have HB2 := Lib.hid (bstep (bstep H0.out H0.out.size HB.out) (Nat.le_trans H0.out.size HB.out.size) hb2)
  clear hb2 hz2 HK
  go_wp2
  refine bodyPost_ret (v := .agg #[.int .u8 u.r, .int .u8 u.g, .int .u8 u.b, .int .u8 u.a]) (by simp [results, Try.results53, go_sem, *]) rfl ⟨rfl, ?_⟩
  exact (((HB2.out.setCell (by simp) _).setCell (by simp) _).setCell (by simp) _).setCell (by simp) _

theorem div_bd {n : Int} (h : I64 n) : I64 (n / 16) := by unfold I64 at *; omega
set_option maxHeartbeats 1000000 in
theorem near_any (t : Tx) (A : Option Addr) (c : Nat) (u v : Int) (hu : I64 u) (hv : I64 v) (w : World) (he : Es EC w w.heap.size A t.px) :
    Calls Try.prog 26 #[.agg #[.int .i64 t.w, .int .i64 t.h, .slice A t.px.length c], .int .i64 u, .int .i64 v] w fun e w' => e = .returned (.agg #[.int .u8 (t.near u v).r, .int .u8 (t.near u v).g, .int .u8 (t.near u v).b, .int .u8 (t.near u v).a]) ∧ Below w.heap.size w w' := by
  have HU := Lib.hid (split_any u 16 hu (by decide) (by decide))
  have HV := Lib.hid (split_any v 16 hv (by decide) (by decide))
  have HE := Lib.hid he
  have HT := Lib.hid (texel_any t A c (u / 16) (v / 16) (div_bd hu) (div_bd hv))
  unfold Tx.near
  clear he hu hv
  generalize t.at (u / 16) (v / 16) = q at *
  generalize u / 16 = x at *
  generalize v / 16 = y at *
  generalize u % 16 = x' at *
  generalize v % 16 = y' at *
  have h0 : Below w.heap.size w ((w.alloc (.cells #[.int .i64 t.w, .int .i64 t.h, .slice A t.px.length c] 25)).alloc (.cells #[.int .u8 0, .int .u8 0, .int .u8 0, .int .u8 0] 38)) := ((Below.refl _ _).alloc (Nat.le_refl _) _).alloc (by simp) _
  have H0 := Lib.hid h0
  clear h0
  go_enter Try.func26, Try.ntmps26
  go_wp2_with (go_at_call 52; first | ((with_reducible refine (HU.out _).mono ?_); rintro e w' ⟨rfl, rfl⟩) | ((with_reducible refine (HV.out _).mono ?_); rintro e w' ⟨rfl, rfl⟩))
  refine (HT.out _ (HE.out.up H0.out)).mono ?_
  rintro e w2 ⟨rfl, hb2⟩
  have hz2 : w2.heap[w.heap.size + 1]? = some (colB zC) := (hb2.block _ (by simp)).trans (new_at2 _ _ _)
  obtain ⟨i0, i1, i2, i3⟩ := colB_cell hz2
  obtain ⟨j0, j1, j2, j3⟩ := colB_free hz2
  have HB2 := Lib.hid (bstep H0.out H0.out.size hb2)
  clear hb2 hz2
  go_wp2
  refine bodyPost_ret (v := .agg #[.int .u8 q.r, .int .u8 q.g, .int .u8 q.b, .int .u8 q.a]) (by simp [results, Try.results26, go_sem, *]) rfl ⟨rfl, ?_⟩
  exact (((HB2.out.setCell (by simp) _).setCell (by simp) _).setCell (by simp) _).setCell (by simp) _
end Go.Proofs.Ytehkcnmjkgelkaa
