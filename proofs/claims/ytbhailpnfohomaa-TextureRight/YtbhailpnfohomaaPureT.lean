/-
  Pictures, pure: what goes on on all sides, what lies between, one colour, moved and turned pictures.
-/
import Derived.Test.YtbhailpnfohomaaFit
namespace Go.Proofs.Ytbhailpnfohomaa
open Go.RowKit

theorem mx_zero (f q : Int) : mx f q 0 = f := by unfold mx; simp; omega
theorem mx_self (f s : Int) : mx f f s = f := by unfold mx; rw [Int.mul_sub]; omega
theorem held_zero : held 0 = 0 := rfl
theorem mix_zero (c d : Col) : mix c d 0 = c := by unfold mix; rw [held_zero]; simp only [mx_zero]
theorem mix_self (c : Col) (t : Int) : mix c c t = c := by unfold mix; simp only [mx_self]
theorem mx_ge {f q s l : Int} (h0 : l ≤ f) (h1 : l ≤ q) (s0 : 0 ≤ s) (s1 : s ≤ 256) : l ≤ mx f q s := by
  have a := Int.mul_le_mul_of_nonneg_right h0 (show 0 ≤ 256 - s by omega)
  have b := Int.mul_le_mul_of_nonneg_right h1 s0
  have e : l * (256 - s) = l * 256 - l * s := Int.mul_sub _ _ _
  unfold mx
  omega
theorem mx_le {f q s l : Int} (h0 : f ≤ l) (h1 : q ≤ l) (s0 : 0 ≤ s) (s1 : s ≤ 256) : mx f q s ≤ l := by
  have a := Int.mul_le_mul_of_nonneg_right h0 (show 0 ≤ 256 - s by omega)
  have b := Int.mul_le_mul_of_nonneg_right h1 s0
  have e : l * (256 - s) = l * 256 - l * s := Int.mul_sub _ _ _
  unfold mx
  omega
theorem mx_mono {f q f' q' s : Int} (h0 : f ≤ f') (h1 : q ≤ q') (s0 : 0 ≤ s) (s1 : s ≤ 256) : mx f q s ≤ mx f' q' s := by
  have a := Int.mul_le_mul_of_nonneg_right h0 (show 0 ≤ 256 - s by omega)
  have b := Int.mul_le_mul_of_nonneg_right h1 s0
  unfold mx
  omega
theorem mix_right {c d : Col} (t : Int) (hc : c.right) (hd : d.right) : (mix c d t).right := by
  obtain ⟨s0, s1⟩ := held_bd t
  exact ⟨mx_mono hc.1 hd.1 s0 s1, mx_mono hc.2.1 hd.2.1 s0 s1, mx_mono hc.2.2 hd.2.2 s0 s1⟩
theorem zC_right : zC.right := by unfold zC Col.right; decide

theorem Tx.at_mem {t : Tx} (hr : t.right = true) (x y : Int) : t.at x y ∈ t.px := by
  obtain ⟨k, -, -, c, hc, e⟩ := Tx.at_place hr x y
  rw [e]
  exact List.mem_of_getElem? hc
theorem Tx.at_w (t : Tx) (x y : Int) : t.at (x + t.w) y = t.at x y := by unfold Tx.at; rw [Int.add_emod_right]
theorem Tx.at_h (t : Tx) (x y : Int) : t.at x (y + t.h) = t.at x y := by unfold Tx.at; rw [Int.add_emod_right]
theorem Tx.at_h' (t : Tx) (x y : Int) : t.at x (y - t.h) = t.at x y := by
  have h := t.at_h x (y - t.h)
  rw [Int.sub_add_cancel] at h
  exact h.symm
theorem Tx.near_mid (t : Tx) (x y : Int) : t.near (16 * x + 8) (16 * y + 8) = t.at x y := by
  unfold Tx.near
  rw [show (16 * x + 8) / 16 = x by omega, show (16 * y + 8) / 16 = y by omega]
theorem Tx.smooth_mid (t : Tx) (x y : Int) : t.smooth (16 * x + 8) (16 * y + 8) = t.at x y := by
  unfold Tx.smooth Tx.row
  rw [show (16 * x + 8 - 8) / 16 = x by omega, show (16 * y + 8 - 8) / 16 = y by omega, show (16 * x + 8 - 8) % 16 = 0 by omega, show (16 * y + 8 - 8) % 16 = 0 by omega]
  simp only [Int.mul_zero, mix_zero]
theorem Tx.smooth_w (t : Tx) (x y : Int) : t.smooth (x + 16 * t.w) y = t.smooth x y := by
  unfold Tx.smooth Tx.row
  rw [show (x + 16 * t.w - 8) / 16 = (x - 8) / 16 + t.w by omega, show (x + 16 * t.w - 8) % 16 = (x - 8) % 16 by omega]
  simp only [t.at_w, show ∀ a : Int, a + t.w + 1 = a + 1 + t.w from fun a => by omega]
theorem Tx.near_h (t : Tx) (x y : Int) : t.near x (y + 16 * t.h) = t.near x y := by
  unfold Tx.near
  rw [show (y + 16 * t.h) / 16 = y / 16 + t.h by omega, t.at_h]

/-- A place in a row of texels, as column and row. -/
theorem split_place {a b m i x y : Int} (a0 : 1 ≤ a) (a1 : a ≤ 16) (hm : a * b = m) (i0 : 0 ≤ i) (i1 : i < m) (hx : i % a = x) (hy : i / a = y) : 0 ≤ x ∧ x < a ∧ 0 ≤ y ∧ y < b ∧ y * a + x = i := by
  rcases sides a0 a1 with rfl | rfl | rfl | rfl | rfl | rfl | rfl | rfl | rfl | rfl | rfl | rfl | rfl | rfl | rfl | rfl <;> omega
theorem join_place {a i x y : Int} (a0 : 1 ≤ a) (a1 : a ≤ 16) (x0 : 0 ≤ x) (x1 : x < a) (hi : y * a + x = i) : i % a = x ∧ i / a = y := by
  rcases sides a0 a1 with rfl | rfl | rfl | rfl | rfl | rfl | rfl | rfl | rfl | rfl | rfl | rfl | rfl | rfl | rfl | rfl <;> omega
theorem Tx.at_each {t : Tx} (hr : t.right = true) (k : Nat) {c : Col} (hc : t.px[k]? = some c) : t.at ((k : Int) % t.w) ((k : Int) / t.w) = c := by
  obtain ⟨w0, w1, h0, h1, hl⟩ := Tx.fine hr
  obtain ⟨m, hm⟩ : ∃ m, t.w * t.h = m := ⟨_, rfl⟩
  have hk : k < t.px.length := by
    rcases Nat.lt_or_ge k t.px.length with h | h
    · exact h
    · rw [List.getElem?_eq_none h] at hc; cases hc
  obtain ⟨x0, x1, y0, y1, e⟩ := split_place w0 w1 hm (show 0 ≤ (k : Int) by omega) (by omega) rfl rfl
  unfold Tx.at
  rw [if_pos hr, Int.emod_eq_of_lt y0 y1, Int.emod_eq_of_lt x0 x1, e, Int.toNat_natCast, List.getD_eq_getElem?_getD, hc]
  rfl

/-- A picture whose texels a function of the place tells. -/
def ofT (w h : Int) (f : Nat → Col) : Tx := ⟨w, h, (List.range (w * h).toNat).map f⟩
theorem ofT_right {w h : Int} (f : Nat → Col) (w0 : 1 ≤ w) (w1 : w ≤ 16) (h0 : 1 ≤ h) (h1 : h ≤ 16) : (ofT w h f).right = true := by
  have hm := area_bd w0 w1 h0 h1 rfl
  refine Tx.right_of ⟨w0, w1, h0, h1, ?_⟩
  unfold ofT
  dsimp only
  rw [List.length_map, List.length_range]
  omega
theorem ofT_at {w h : Int} (f : Nat → Col) (w0 : 1 ≤ w) (w1 : w ≤ 16) (h0 : 1 ≤ h) (h1 : h ≤ 16) (x y : Int) : (ofT w h f).at x y = f ((y % h) * w + x % w).toNat := by
  obtain ⟨k, hk, hkm, c, hc, e⟩ := Tx.at_place (ofT_right f w0 w1 h0 h1) x y
  change (k : Int) = (y % h) * w + x % w at hk
  change (k : Int) < w * h at hkm
  change ((List.range (w * h).toNat).map f)[k]? = some c at hc
  have hk' : ((y % h) * w + x % w).toNat = k := by omega
  rw [List.getElem?_map, List.getElem?_range (by omega)] at hc
  rw [e, hk']
  simpa using hc.symm
theorem ofT_ok {w h : Int} {f : Nat → Col} (hf : ∀ i, (f i).ok) : (ofT w h f).ok := by
  intro c hc
  obtain ⟨i, _, rfl⟩ := List.mem_map.1 hc
  exact hf i
/-- One colour. -/
theorem one_at {w h : Int} (c : Col) (w0 : 1 ≤ w) (w1 : w ≤ 16) (h0 : 1 ≤ h) (h1 : h ≤ 16) (x y : Int) : (ofT w h (fun _ => c)).at x y = c := ofT_at _ w0 w1 h0 h1 x y
theorem one_smooth {w h : Int} (c : Col) (w0 : 1 ≤ w) (w1 : w ≤ 16) (h0 : 1 ≤ h) (h1 : h ≤ 16) (x y : Int) : (ofT w h (fun _ => c)).smooth x y = c := by
  unfold Tx.smooth Tx.row
  simp only [one_at c w0 w1 h0 h1, mix_self]
/-- Told from another column on. -/
def movC (t : Tx) (k : Int) (i : Nat) : Col := t.px.getD (((i : Int) / t.w) * t.w + ((i : Int) % t.w + k) % t.w).toNat zC
/-- Rows turned about. -/
def turC (t : Tx) (i : Nat) : Col := t.px.getD ((t.h - 1 - (i : Int) / t.w) * t.w + (i : Int) % t.w).toNat zC
theorem mov_at {t : Tx} (hr : t.right = true) (k x y : Int) : (ofT t.w t.h (movC t k)).at x y = t.at (x + k) y := by
  obtain ⟨w0, w1, h0, h1, hl⟩ := Tx.fine hr
  have x0 := Int.emod_nonneg x (show t.w ≠ 0 by omega)
  have x1 := Int.emod_lt_of_pos x (show (0 : Int) < t.w by omega)
  have y0 := Int.emod_nonneg y (show t.h ≠ 0 by omega)
  have y1 := Int.emod_lt_of_pos y (show (0 : Int) < t.h by omega)
  rw [ofT_at _ w0 w1 h0 h1]
  obtain ⟨i, hi⟩ : ∃ i, (y % t.h) * t.w + x % t.w = i := ⟨_, rfl⟩
  obtain ⟨i0, i1⟩ := place_bd w0 w1 h0 h1 rfl x0 x1 y0 y1 hi
  obtain ⟨ex, ey⟩ := join_place w0 w1 x0 x1 hi
  unfold movC Tx.at
  rw [if_pos hr, hi, Int.toNat_of_nonneg i0, ex, ey, Int.emod_add_emod]
theorem tur_at {t : Tx} (hr : t.right = true) (x y : Int) : (ofT t.w t.h (turC t)).at x y = t.at x (-1 - y) := by
  obtain ⟨w0, w1, h0, h1, hl⟩ := Tx.fine hr
  have x0 := Int.emod_nonneg x (show t.w ≠ 0 by omega)
  have x1 := Int.emod_lt_of_pos x (show (0 : Int) < t.w by omega)
  have y0 := Int.emod_nonneg y (show t.h ≠ 0 by omega)
  have y1 := Int.emod_lt_of_pos y (show (0 : Int) < t.h by omega)
  rw [ofT_at _ w0 w1 h0 h1]
  obtain ⟨i, hi⟩ : ∃ i, (y % t.h) * t.w + x % t.w = i := ⟨_, rfl⟩
  obtain ⟨i0, i1⟩ := place_bd w0 w1 h0 h1 rfl x0 x1 y0 y1 hi
  obtain ⟨ex, ey⟩ := join_place w0 w1 x0 x1 hi
  have hd := Int.emod_add_mul_ediv y t.h
  have ez : (-1 - y) % t.h = t.h - 1 - y % t.h := by
    have e : -1 - y = (t.h - 1 - y % t.h) + t.h * (-(y / t.h) - 1) := by rw [Int.mul_sub, Int.mul_neg]; omega
    rw [e, Int.add_mul_emod_self_left, Int.emod_eq_of_lt (by omega) (by omega)]
  unfold turC Tx.at
  rw [if_pos hr, hi, Int.toNat_of_nonneg i0, ex, ey, ez]
theorem mov_smooth {t : Tx} (hr : t.right = true) (k x y : Int) : (ofT t.w t.h (movC t k)).smooth x y = t.smooth (x + 16 * k) y := by
  unfold Tx.smooth Tx.row
  rw [show (x + 16 * k - 8) / 16 = (x - 8) / 16 + k by omega, show (x + 16 * k - 8) % 16 = (x - 8) % 16 by omega]
  simp only [mov_at hr, show ∀ a : Int, a + 1 + k = a + k + 1 from fun a => by omega]
theorem mov_near {t : Tx} (hr : t.right = true) (k x y : Int) : (ofT t.w t.h (movC t k)).near x y = t.near (x + 16 * k) y := by
  unfold Tx.near
  rw [mov_at hr, show (x + 16 * k) / 16 = x / 16 + k by omega]
/-- A picture that may not be. -/
theorem bad_at {t : Tx} (h : t.right = false) (x y : Int) : t.at x y = zC := by unfold Tx.at; rw [h]; rfl
theorem bad_smooth {t : Tx} (h : t.right = false) (x y : Int) : t.smooth x y = zC := by
  unfold Tx.smooth Tx.row
  simp only [bad_at h, mix_self]
theorem bad_right {t : Tx} (hr : t.right = true) : (Tx.mk (t.w + 1) t.h t.px).right = false := by
  obtain ⟨w0, w1, h0, h1, hl⟩ := Tx.fine hr
  refine Tx.not_right fun h => ?_
  have e : (t.w + 1) * t.h = t.w * t.h + t.h := by rw [Int.add_mul]; omega
  have h2 : (t.px.length : Int) = (t.w + 1) * t.h := h.2.2.2.2
  omega
/-- What is smooth lies between. -/
theorem smooth_between {t : Tx} (hr : t.right = true) {lo hi : Int} (h : ∀ c ∈ t.px, lo ≤ c.g ∧ c.g ≤ hi) (u v : Int) : lo ≤ (t.smooth u v).g ∧ (t.smooth u v).g ≤ hi := by
  have key : ∀ x y, lo ≤ (t.at x y).g ∧ (t.at x y).g ≤ hi := fun x y => h _ (Tx.at_mem hr x y)
  have mk : ∀ (c d : Col) s, (lo ≤ c.g ∧ c.g ≤ hi) → (lo ≤ d.g ∧ d.g ≤ hi) → (lo ≤ (mix c d s).g ∧ (mix c d s).g ≤ hi) := fun c d s hc hd =>
    ⟨mx_ge hc.1 hd.1 (held_bd s).1 (held_bd s).2, mx_le hc.2 hd.2 (held_bd s).1 (held_bd s).2⟩
  exact mk _ _ _ (mk _ _ _ (key _ _) (key _ _)) (mk _ _ _ (key _ _) (key _ _))
theorem smooth_right {t : Tx} (h : ∀ c ∈ t.px, c.right) (u v : Int) : (t.smooth u v).right := by
  have key : ∀ x y, (t.at x y).right := fun x y => by
    unfold Tx.at
    split
    · rw [List.getD_eq_getElem?_getD]
      cases e : t.px[(y % t.h * t.w + x % t.w).toNat]? with
      | none => exact zC_right
      | some c => exact h c (List.mem_of_getElem? e)
    · exact zC_right
  exact mix_right _ (mix_right _ (key _ _) (key _ _)) (mix_right _ (key _ _) (key _ _))
end Go.Proofs.Ytbhailpnfohomaa
