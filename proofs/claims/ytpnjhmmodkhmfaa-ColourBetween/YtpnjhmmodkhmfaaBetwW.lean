/-
  The walk of glazierlaw02.ColourBetween.
-/
import Derived.Test.YtpnjhmmodkhmfaaMix
import Derived.IntWalk
namespace Go.Proofs.Ytpnjhmmodkhmfaa
open Go.RowKit
attribute [local go_sem ↓] Go.wp_at_zero Go.wp_at_succ

theorem mx_eq (f q t : Int) : mx f q t = (256 * f + (q * t - f * t) + 128) / 256 := by
  unfold mx
  rw [Int.mul_sub]
  congr 1
  omega
theorem mx_between {f q t : Int} (t0 : 0 ≤ t) (t1 : t ≤ 256) (h : f ≤ q) : f ≤ mx f q t ∧ mx f q t ≤ q := by
  rw [mx_eq]
  have h1 : f * t ≤ q * t := Int.mul_le_mul_of_nonneg_right h t0
  have h2 : (q - f) * t ≤ (q - f) * 256 := Int.mul_le_mul_of_nonneg_left t1 (by omega)
  rw [Int.sub_mul] at h2
  omega
theorem mx_between' {f q t : Int} (t0 : 0 ≤ t) (t1 : t ≤ 256) (h : q ≤ f) : q ≤ mx f q t ∧ mx f q t ≤ f := by
  rw [mx_eq]
  have h1 : q * t ≤ f * t := Int.mul_le_mul_of_nonneg_right h t0
  have h2 : (f - q) * t ≤ (f - q) * 256 := Int.mul_le_mul_of_nonneg_left t1 (by omega)
  rw [Int.sub_mul] at h2
  omega
theorem mx_up {f q u v : Int} (huv : u ≤ v) (h : f ≤ q) : mx f q u ≤ mx f q v := by
  rw [mx_eq, mx_eq]
  have h2 : (q - f) * u ≤ (q - f) * v := Int.mul_le_mul_of_nonneg_left huv (by omega)
  rw [Int.sub_mul, Int.sub_mul] at h2
  omega
theorem mx_down {f q u v : Int} (huv : u ≤ v) (h : q ≤ f) : mx f q v ≤ mx f q u := by
  rw [mx_eq, mx_eq]
  have h2 : (f - q) * u ≤ (f - q) * v := Int.mul_le_mul_of_nonneg_left huv (by omega)
  rw [Int.sub_mul, Int.sub_mul] at h2
  omega
theorem mx_same (f t : Int) : mx f f t = f := by rw [mx_eq]; omega
theorem mx_0 (f q : Int) : mx f q 0 = f := by rw [mx_eq]; omega
theorem mx_256 (f q : Int) : mx f q 256 = q := by rw [mx_eq]; omega
theorem mix_same (f : Col) (t : Int) : mix f f t = f := by
  unfold mix; rw [mx_same, mx_same, mx_same, mx_same]
theorem mix_lo (f q : Col) {t : Int} (h : t ≤ 0) : mix f q t = f := by
  have : held t = 0 := by unfold held; split <;> (try split) <;> omega
  unfold mix; rw [this, mx_0, mx_0, mx_0, mx_0]
theorem mix_hi (f q : Col) {t : Int} (h : 256 ≤ t) : mix f q t = q := by
  have : held t = 256 := by unfold held; split <;> (try split) <;> omega
  unfold mix; rw [this, mx_256, mx_256, mx_256, mx_256]
theorem held_same {t : Int} (h0 : 0 ≤ t) (h1 : t ≤ 256) : held t = t := by unfold held; rw [if_neg (by omega), if_neg (by omega)]

theorem mix_col_same (f : Col) (t : Int) (w : World) (hf : f.ok) :
    Calls Try.prog 21 #[.agg #[.int .u8 f.r, .int .u8 f.g, .int .u8 f.b, .int .u8 f.a], .agg #[.int .u8 f.r, .int .u8 f.g, .int .u8 f.b, .int .u8 f.a], .int .i64 t] w fun e w' =>
      e = .returned (.agg #[.int .u8 f.r, .int .u8 f.g, .int .u8 f.b, .int .u8 f.a]) ∧ Below w.heap.size w w' := by
  have h := mix_col f f t w hf hf
  rwa [mix_same] at h
theorem mix_col_lo (f q : Col) (t : Int) (w : World) (hf : f.ok) (hq : q.ok) (h : t ≤ 0) :
    Calls Try.prog 21 #[.agg #[.int .u8 f.r, .int .u8 f.g, .int .u8 f.b, .int .u8 f.a], .agg #[.int .u8 q.r, .int .u8 q.g, .int .u8 q.b, .int .u8 q.a], .int .i64 t] w fun e w' =>
      e = .returned (.agg #[.int .u8 f.r, .int .u8 f.g, .int .u8 f.b, .int .u8 f.a]) ∧ Below w.heap.size w w' := by
  have h := mix_col f q t w hf hq
  rwa [mix_lo f q (by assumption)] at h
theorem mix_col_hi (f q : Col) (t : Int) (w : World) (hf : f.ok) (hq : q.ok) (h : 256 ≤ t) :
    Calls Try.prog 21 #[.agg #[.int .u8 f.r, .int .u8 f.g, .int .u8 f.b, .int .u8 f.a], .agg #[.int .u8 q.r, .int .u8 q.g, .int .u8 q.b, .int .u8 q.a], .int .i64 t] w fun e w' =>
      e = .returned (.agg #[.int .u8 q.r, .int .u8 q.g, .int .u8 q.b, .int .u8 q.a]) ∧ Below w.heap.size w w' := by
  have h := mix_col f q t w hf hq
  rwa [mix_hi f q (by assumption)] at h

/-- What the test on one part asks. -/
theorem part_between {f q t lo hi : Int} (t0 : 0 ≤ t) (t1 : t ≤ 256) (hlo : (if q < f then q else f) = lo) (hhi : (if f < q then q else f) = hi) : lo ≤ mx f q (held t) ∧ mx f q (held t) ≤ hi := by
  rw [held_same t0 t1]
  rcases Int.lt_or_le q f with h | h
  · rw [if_pos h] at hlo
    rw [if_neg (by omega)] at hhi
    have := mx_between' t0 t1 (by omega : q ≤ f)
    omega
  · rw [if_neg (by omega)] at hlo
    have := mx_between t0 t1 h
    split at hhi <;> omega

set_option maxHeartbeats 4000000 in
theorem colourBetween_walk (f q : Col) (p1 p2 x y u v lr hr la ha : Int) (w : World) (hf : f.ok) (hq : q.ok) (p10 : 0 ≤ p1) (p11 : p1 ≤ 65535) (p20 : 0 ≤ p2) (p21 : p2 ≤ 65535)
    (hx : p1 % 257 = x) (hy : p2 % 257 = y) (hu : (if y < x then y else x) = u) (hv : (if x < y then y else x) = v)
    (hlr : (if q.r < f.r then q.r else f.r) = lr) (hhr : (if f.r < q.r then q.r else f.r) = hr) (hla : (if q.a < f.a then q.a else f.a) = la) (hha : (if f.a < q.a then q.a else f.a) = ha) :
    Calls Try.prog 6 #[.agg #[.int .u8 f.r, .int .u8 f.g, .int .u8 f.b, .int .u8 f.a], .agg #[.int .u8 q.r, .int .u8 q.g, .int .u8 q.b, .int .u8 q.a], .agg #[.int .u16 p1, .int .u16 p2]] w fun e w' => e = .returned (.bool true) ∧ Below w.heap.size w w' := by
  have x0 : 0 ≤ x := by omega
  have x1 : x ≤ 256 := by omega
  have y0 : 0 ≤ y := by omega
  have y1 : y ≤ 256 := by omega
  have u0 : 0 ≤ u := by split at hu <;> omega
  have u1 : u ≤ 256 := by split at hu <;> omega
  have huv : u ≤ v := by split at hu <;> split at hv <;> omega
  have v1 : v ≤ 256 := by split at hv <;> omega
  obtain ⟨r2, r3⟩ := part_between u0 u1 hlr hhr
  obtain ⟨a2, a3⟩ := part_between u0 u1 hla hha
  have HLR := Lib.hid hlr
  have HHR := Lib.hid hhr
  have HLA := Lib.hid hla
  have HHA := Lib.hid hha
  clear hlr hhr hla hha
  go_enter Try.func6, Try.ntmps6
  go_wp2_with fail
  refine (shown_any _).mono ?_
  rintro e w1 ⟨rfl, hb1⟩
  have ba1 : w1.heap[w.heap.size]? = some (colB f) := by rw [hb1.block _ (by simp <;> omega), Below.heap_alloc _ _ _ (by simp <;> omega)]; exact (new_two _ _ _).1
  have bb1 : w1.heap[w.heap.size + 1]? = some (colB q) := by rw [hb1.block _ (by simp <;> omega), Below.heap_alloc _ _ _ (by simp)]; exact (new_two _ _ _).2
  have t10 : w1.cell? ⟨w.heap.size + 1 + 1, 0, none⟩ = some (.int .u16 p1) := by rw [hb1.cell (by simp)]; simp [go_sem]
  have t11 : w1.cell? ⟨w.heap.size + 1 + 1, 1, none⟩ = some (.int .u16 p2) := by rw [hb1.cell (by simp)]; simp [go_sem]
  obtain ⟨e0, e1, e2, e3⟩ := colB_cell ba1
  obtain ⟨i0, i1, i2, i3⟩ := colB_cell bb1
  have z1 : w.heap.size + 1 < w1.heap.size := World.block_lt_of_cell? _ _ i0
  have HA1 := Lib.hid ba1
  have HB1 := Lib.hid bb1
  have HBE1 := Lib.hid ((((Below.refl w.heap.size w).alloc (Nat.le_refl _) _).alloc (by simp) _).alloc (by simp <;> omega) _ |>.trans (hb1.mono (by simp <;> omega)))
  clear hb1 ba1 bb1
  go_wp2_with fail
  refine (mix_col f q u _ hf hq).mono ?_
  rintro e w2 ⟨rfl, hb2⟩
  have ba2 : w2.heap[w.heap.size]? = some (colB f) := (hb2.block _ (by omega)).trans HA1.out
  have bb2 : w2.heap[w.heap.size + 1]? = some (colB q) := (hb2.block _ (by omega)).trans HB1.out
  have HBE2 := Lib.hid (bstep HBE1.out HBE1.out.size hb2)
  have z2 : w.heap.size + 1 < w2.heap.size := Nat.lt_of_lt_of_le z1 hb2.size
  have z2' : w.heap.size < w2.heap.size := by omega
  clear e0 e1 e2 e3 i0 i1 i2 i3 t10 t11 hb2
  obtain ⟨e0, e1, e2, e3⟩ := colB_cell ba2
  obtain ⟨i0, i1, i2, i3⟩ := colB_cell bb2
  have HA2 := Lib.hid ba2
  have HB2 := Lib.hid bb2
  clear ba2 bb2
  go_wp2_with fail
  refine (mix_col f q v _ hf hq).mono ?_
  rintro e w3 ⟨rfl, hb3⟩
  have ba3 : w3.heap[w.heap.size]? = some (colB f) := (hb3.block _ (by simp; omega)).trans ((Below.heap_alloc _ _ _ z2').trans HA2.out)
  have bb3 : w3.heap[w.heap.size + 1]? = some (colB q) := (hb3.block _ (by simp; omega)).trans ((Below.heap_alloc _ _ _ z2).trans HB2.out)
  have bm3 : w3.heap[w2.heap.size]? = some (colB (mix f q u)) := (hb3.block _ (by simp)).trans (heap_alloc_new _ _)
  have HBE3 := Lib.hid (bstep (HBE2.out.alloc HBE2.out.size _) (by simp; have := HBE2.out.size; omega) hb3)
  have z3 : w2.heap.size < w3.heap.size := World.block_lt_of_cell? _ _ (colB_cell bm3).1
  clear e0 e1 e2 e3 i0 i1 i2 i3 hb3
  obtain ⟨e0, e1, e2, e3⟩ := colB_cell ba3
  obtain ⟨i0, i1, i2, i3⟩ := colB_cell bb3
  obtain ⟨j0, j1, j2, j3⟩ := colB_cell bm3
  have z3a : w.heap.size < w3.heap.size := by omega
  have z3b : w.heap.size + 1 < w3.heap.size := by omega
  have HA3 := Lib.hid ba3
  have HB3 := Lib.hid bb3
  have HM3 := Lib.hid bm3
  clear ba3 bb3 bm3 hu hv
  have hlr := HLR.out
  have hhr := HHR.out
  have hla := HLA.out
  have hha := HHA.out
  have r2' : lr ≤ (mix f q u).r := r2
  have r3' : (mix f q u).r ≤ hr := r3
  have a2' : la ≤ (mix f q u).a := a2
  have a3' : (mix f q u).a ≤ ha := a3
  have d1 : decide ((mix f q u).r < lr) = false := by simp; omega
  have d2 : decide (hr < (mix f q u).r) = false := by simp; omega
  have d3 : decide ((mix f q u).a < la) = false := by simp; omega
  have d4 : decide (ha < (mix f q u).a) = false := by simp; omega
  clear r2 r3 a2 a3 r2' r3' a2' a3'
  go_wp2
  clear hlr hhr hla hha d1 d2 d3 d4
  have hW : ∃ W, W = w3.alloc (Obj.cells #[Value.int IntKind.u8 (mix f q v).r, Value.int IntKind.u8 (mix f q v).g, Value.int IntKind.u8 (mix f q v).b, Value.int IntKind.u8 (mix f q v).a] 23) := ⟨_, rfl⟩
  obtain ⟨W, hW⟩ := hW
  rw [← hW]
  have HBW := Lib.hid (show Below w.heap.size w W by rw [hW]; exact HBE3.out.alloc HBE3.out.size _)
  have ga0 : ∀ x : Grow W, x.w.cell? ⟨w.heap.size, 0, none⟩ = some (.int .u8 f.r) := fun x => x.cell (by rw [hW]; simp [go_sem, *])
  have ga1 : ∀ x : Grow W, x.w.cell? ⟨w.heap.size, 1, none⟩ = some (.int .u8 f.g) := fun x => x.cell (by rw [hW]; simp [go_sem, *])
  have ga2 : ∀ x : Grow W, x.w.cell? ⟨w.heap.size, 2, none⟩ = some (.int .u8 f.b) := fun x => x.cell (by rw [hW]; simp [go_sem, *])
  have ga3 : ∀ x : Grow W, x.w.cell? ⟨w.heap.size, 3, none⟩ = some (.int .u8 f.a) := fun x => x.cell (by rw [hW]; simp [go_sem, *])
  have gb0 : ∀ x : Grow W, x.w.cell? ⟨w.heap.size + 1, 0, none⟩ = some (.int .u8 q.r) := fun x => x.cell (by rw [hW]; simp [go_sem, *])
  have gb1 : ∀ x : Grow W, x.w.cell? ⟨w.heap.size + 1, 1, none⟩ = some (.int .u8 q.g) := fun x => x.cell (by rw [hW]; simp [go_sem, *])
  have gb2 : ∀ x : Grow W, x.w.cell? ⟨w.heap.size + 1, 2, none⟩ = some (.int .u8 q.b) := fun x => x.cell (by rw [hW]; simp [go_sem, *])
  have gb3 : ∀ x : Grow W, x.w.cell? ⟨w.heap.size + 1, 3, none⟩ = some (.int .u8 q.a) := fun x => x.cell (by rw [hW]; simp [go_sem, *])
  have gm1 : ∀ x : Grow W, x.w.cell? ⟨w2.heap.size, 1, none⟩ = some (.int .u8 (mix f q u).g) := fun x => x.cell (by rw [hW]; simp [go_sem, *])
  have gn1 : ∀ x : Grow W, x.w.cell? ⟨w3.heap.size, 1, none⟩ = some (.int .u8 (mix f q v).g) := fun x => x.cell (by rw [hW]; simp [go_sem, *])
  clear hW e0 e1 e2 e3 i0 i1 i2 i3 j0 j1 j2 j3 z1 z2 z2' z3 z3a z3b
  have ne := Grow.ne W
  have M1 : (mix f q u).g = mx f.g q.g u := by show mx f.g q.g (held u) = _; rw [held_same u0 u1]
  have N1 : (mix f q v).g = mx f.g q.g v := by show mx f.g q.g (held v) = _; rw [held_same (by omega) v1]
  have w1 : IntKind.i64.wrap (256 + x) = 256 + x := IntWalk.i64_in _ (by omega)
  have w2 : IntKind.i64.wrap (-x) = -x := IntWalk.i64_in _ (by omega)
  have S1 : ∀ y : Grow W, Calls Try.prog 21 #[.agg #[.int .u8 f.r, .int .u8 f.g, .int .u8 f.b, .int .u8 f.a], .agg #[.int .u8 f.r, .int .u8 f.g, .int .u8 f.b, .int .u8 f.a], .int .i64 x] y.w fun e w' =>
      e = .returned (.agg #[.int .u8 f.r, .int .u8 f.g, .int .u8 f.b, .int .u8 f.a]) ∧ Below y.w.heap.size y.w w' := fun y => mix_col_same f x _ hf
  have S2 : ∀ y : Grow W, Calls Try.prog 21 #[.agg #[.int .u8 f.r, .int .u8 f.g, .int .u8 f.b, .int .u8 f.a], .agg #[.int .u8 q.r, .int .u8 q.g, .int .u8 q.b, .int .u8 q.a], .int .i64 (-x)] y.w fun e w' =>
      e = .returned (.agg #[.int .u8 f.r, .int .u8 f.g, .int .u8 f.b, .int .u8 f.a]) ∧ Below y.w.heap.size y.w w' := fun y => mix_col_lo f q (-x) _ hf hq (by omega)
  have S3 : ∀ y : Grow W, Calls Try.prog 21 #[.agg #[.int .u8 f.r, .int .u8 f.g, .int .u8 f.b, .int .u8 f.a], .agg #[.int .u8 q.r, .int .u8 q.g, .int .u8 q.b, .int .u8 q.a], .int .i64 (256 + x)] y.w fun e w' =>
      e = .returned (.agg #[.int .u8 q.r, .int .u8 q.g, .int .u8 q.b, .int .u8 q.a]) ∧ Below y.w.heap.size y.w w' := fun y => mix_col_hi f q (256 + x) _ hf hq (by omega)
  have HS1 := Lib.hid S1
  have HS2 := Lib.hid S2
  have HS3 := Lib.hid S3
  clear S1 S2 S3
  have cases3 : (decide (q.g < f.g) = true ∧ decide (f.g < q.g) = false ∧ decide ((mix f q v).g ≤ (mix f q u).g) = true) ∨ (decide (q.g < f.g) = false ∧ decide (f.g < q.g) = true ∧ decide ((mix f q u).g ≤ (mix f q v).g) = true) ∨
      (decide (q.g < f.g) = false ∧ decide (f.g < q.g) = false ∧ decide ((mix f q v).g ≤ (mix f q u).g) = true ∧ decide ((mix f q u).g ≤ (mix f q v).g) = true) := by
    rw [M1, N1]
    rcases Int.lt_trichotomy f.g q.g with h | h | h
    · exact .inr (.inl ⟨by simp; omega, by simp; omega, by simp; exact mx_up huv (by omega)⟩)
    · rw [h, mx_same, mx_same]; simp
    · exact .inl ⟨by simp; omega, by simp; omega, by simp; exact mx_down huv (by omega)⟩
  clear M1 N1
  rcases cases3 with ⟨c1, c2, c3⟩ | ⟨c1, c2, c3⟩ | ⟨c1, c2, c3, c4⟩
  all_goals
    refine wp_region_grow (by kernel_rfl) (by kernel_rfl) ?_
    repeat (go_big_quiet_step ((go_at_call 21; first | with_reducible exact Grow.calls (HS1.out _) | with_reducible exact Grow.calls (HS2.out _) | with_reducible exact Grow.calls (HS3.out _))))
    refine wpQuiet_nil ?_
    rintro _ ⟨z, rfl⟩
    go_wp2
    go_ret
    exact ⟨rfl, bstep HBW.out HBW.out.size z.below⟩
end Go.Proofs.Ytpnjhmmodkhmfaa
