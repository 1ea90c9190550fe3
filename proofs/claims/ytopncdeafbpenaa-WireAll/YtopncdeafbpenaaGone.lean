/-
  glazierlaw03.gone, at this seat's translation.
-/
import Derived.Test.YtopncdeafbpenaaIter
namespace Go.Proofs.Ytopncdeafbpenaa
open Go.RowKit Go.Shelf
attribute [local go_sem] Oper.semAt_some

def Bad (pre : List (Int × Bool)) : Prop := ∃ p y, pre = p ++ [y] ∧ (flag p = true ∨ (y.2 = false ∧ y.1 ≠ 0))

theorem flag_map (q : List Int) : flag (q.map fun n => (n, true)) = false := by simp [flag]
theorem nums_map (q : List Int) : nums (q.map fun n => (n, true)) = q := by simp [nums, List.filter_map, Function.comp_def]
theorem flag_prefix {p q : List (Int × Bool)} (h : p <+: q) (hq : flag q = false) : flag p = false := by
  obtain ⟨t, rfl⟩ := h
  simp [flag] at hq ⊢
  exact hq.1

theorem not_bad {xs : List Int} (hb : Byt xs) {pre : List (Int × Bool)} (h : pre <+: seq xs) : ¬ Bad pre := by
  obtain ⟨-, -, q, t, hq, ht⟩ := seq_len xs.length xs (Nat.le_refl _) hb
  rintro ⟨p, y, rfl, hy⟩
  have key : ∀ r : List (Int × Bool), (p ++ [y]) ++ r = q.map (fun n => (n, true)) → False := by
    intro r hr
    have h1 := flag_prefix (p := p) (q := (p ++ [y]) ++ r) ⟨[y] ++ r, by simp⟩ (by rw [hr]; exact flag_map q)
    rcases hy with hy | ⟨hy, _⟩
    · rw [h1] at hy; cases hy
    · have hm : y ∈ q.map (fun n => (n, true)) := by rw [← hr]; simp
      obtain ⟨a, _, rfl⟩ := List.mem_map.1 hm
      cases hy
  rw [hq] at h
  obtain ⟨r, hr⟩ := h
  rcases ht with rfl | rfl
  · rw [List.append_nil] at hr
    exact key r hr
  · rcases List.eq_nil_or_concat r with rfl | ⟨r', z, rfl⟩
    · rw [List.append_nil] at hr
      have h1 := List.append_inj_right' hr rfl
      have h2 := List.append_inj_left' hr rfl
      obtain rfl : y = (0, false) := by simpa using h1
      rcases hy with hy | ⟨_, hy⟩
      · rw [h2, flag_map] at hy; cases hy
      · exact hy rfl
    · rw [List.concat_eq_append, ← List.append_assoc] at hr
      exact key r' (List.append_inj_left' hr rfl)

theorem nums_prefix {p q : List (Int × Bool)} (h : p <+: q) : nums p = (nums q).take (nums p).length := by
  obtain ⟨t, rfl⟩ := h
  simp [nums]

theorem boxed_app {W w1 : World} {n₀ B Bo t : Nat} {u v : Value} {k : Nat} {ys : List Value} {T : Obj} (hb : Boxed W B t u) (hte : t ≠ 3) (hrow : W.ownsRow n₀ 3 1 v k ys) (hgrow : (W.alloc T).grownBy w1 v.ownBlock) (hne : B ≠ Bo) (v' : Value) :
    Boxed (w1.setCell ⟨Bo, 0, none⟩ v') B t u := ((hb.alloc T).kept hgrow (hb.not_row hte hrow)).other hne v'
theorem own_form {w : World} {base n : Nat} {t : TypeId} {v : Value} {xs : List Value} (h : w.ownsRow base t 1 v n xs) : ∃ A c, v = .slice A n c := by
  rcases h.2 with ⟨rfl, rfl⟩ | ⟨g, cap, cur, rfl, _⟩
  · exact ⟨_, _, rfl⟩
  · exact ⟨_, _, rfl⟩
theorem boxed_below {W W' : World} {n₀ B t : Nat} {u : Value} (hb : Boxed W B t u) (h : Below n₀ W W') (hlt : B < n₀) : Boxed W' B t u := (h.block B hlt).trans hb

/-- What gone answers. -/
def Gone (w : World) (xs : List Int) (most : Nat) (e : Ending) (w' : World) : Prop :=
  ∃ v f, e = .returned (.tuple #[v, .bool f, .bool true]) ∧ OwnS 3 .i64 w' w.heap.size v ((nums (seq xs)).take most) ∧ ((nums (seq xs)).length < most → f = flag (seq xs)) ∧ Below w.heap.size w w'

/-- The boxes of gone's variables, and what is gathered. -/
def Gath (w : World) (A : Option Addr) (c len : Nat) (most : Nat) (q : List (Int × Bool)) (W : World) : Prop :=
  (∃ v, Boxed W (w.heap.size + 1 + 1 + 1 + 1 + 1 + 1) 22 v ∧ W.ownsRow (w.heap.size + 1 + 1) 3 1 v (nums q).length ((nums q).map (Value.int .i64)) ∧ True) ∧
  Boxed W (w.heap.size + 1 + 1 + 1 + 1 + 1 + 1 + 1) 4 (.bool (flag q)) ∧ Boxed W w.heap.size 23 (.slice A len c) ∧ Boxed W (w.heap.size + 1) 3 (.int .i64 most) ∧ Boxed W (w.heap.size + 1 + 1) 22 (.slice none 0 0) ∧ Boxed W (w.heap.size + 1 + 1 + 1) 4 (.bool false) ∧ Boxed W (w.heap.size + 1 + 1 + 1 + 1) 4 (.bool false) ∧ Below w.heap.size w W

theorem gath_own (w : World) (A : Option Addr) (c len most : Nat) {Bo : Nat} (hB : w.heap.size ≤ Bo) : OwnFrom Bo (fun q W => Gath w A c len most q W) :=
  OwnFrom.and (Own.from (holdsRow_own _ _ 22 3 1 (fun q => (nums q).length) (fun q => (nums q).map (Value.int .i64)) (fun _ _ => True)) _)
    (OwnFrom.and (Own.from (boxed_own _ 4 (fun q => Value.bool (flag q))) _) (OwnFrom.and (Own.from (boxed_own _ _ _) _) (OwnFrom.and (Own.from (boxed_own _ _ _) _) (OwnFrom.and (Own.from (boxed_own _ _ _) _)
      (OwnFrom.and (Own.from (boxed_own _ _ _) _) (OwnFrom.and (Own.from (boxed_own _ _ _) _) (ownFrom_below (Nat.le_refl _) hB)))))))

/-- The world behind gone's last stores, and what its boxes hold. -/
theorem gone_ends {w W : World} {D : Nat} {Av : Option Addr} {cv : Nat} {q : List (Int × Bool)} (hD : w.heap.size ≤ D)
    (hrw : W.ownsRow (w.heap.size + 1 + 1) 3 1 (.slice Av (nums q).length cv) (nums q).length ((nums q).map (Value.int .i64))) (bR1 : Boxed W (w.heap.size + 1 + 1) 22 (.slice none 0 0)) (bR2 : Boxed W (w.heap.size + 1 + 1 + 1) 4 (.bool false)) (bR3 : Boxed W (w.heap.size + 1 + 1 + 1 + 1) 4 (.bool false))
    (hB : Below w.heap.size w W) (hK : W.heap[D]? = some (.deferred (some []))) (f : Bool) :
    ∃ W', W' = ((((W.setCell ⟨w.heap.size + 1 + 1, 0, none⟩ (.slice Av (nums q).length cv)).setCell ⟨w.heap.size + 1 + 1 + 1, 0, none⟩ (.bool f)).setCell ⟨w.heap.size + 1 + 1 + 1 + 1, 0, none⟩ (.bool true)).drew) ∧ W'.heap[D]? = some (.deferred (some [])) ∧
      (W'.putObj D (.deferred none)).cell? ⟨w.heap.size + 1 + 1, 0, none⟩ = some (.slice Av (nums q).length cv) ∧ (W'.putObj D (.deferred none)).cell? ⟨w.heap.size + 1 + 1 + 1, 0, none⟩ = some (.bool f) ∧ (W'.putObj D (.deferred none)).cell? ⟨w.heap.size + 1 + 1 + 1 + 1, 0, none⟩ = some (.bool true) ∧
      OwnS 3 .i64 (W'.putObj D (.deferred none)) w.heap.size (.slice Av (nums q).length cv) (nums q) ∧ Below w.heap.size w (W'.putObj D (.deferred none)) := by
  have hK' : ((((W.setCell ⟨w.heap.size + 1 + 1, 0, none⟩ (.slice Av (nums q).length cv)).setCell ⟨w.heap.size + 1 + 1 + 1, 0, none⟩ (.bool f)).setCell ⟨w.heap.size + 1 + 1 + 1 + 1, 0, none⟩ (.bool true)).drew).heap[D]? = some (.deferred (some [])) :=
    ((((KeepsOthers.setCell _ _ _).trans (KeepsOthers.setCell _ _ _)).trans (KeepsOthers.setCell _ _ _)).trans (KeepsOthers.drew _)).same D _ hK rfl
  have q1 := ((bR1.set (.slice Av (nums q).length cv)).other (B' := w.heap.size + 1 + 1 + 1) (by omega) (.bool f)).other (B' := w.heap.size + 1 + 1 + 1 + 1) (by omega) (.bool true)
  have q2 := (((bR2.other (B' := w.heap.size + 1 + 1) (by omega) (.slice Av (nums q).length cv)).set (.bool f))).other (B' := w.heap.size + 1 + 1 + 1 + 1) (by omega) (.bool true)
  have q3 := ((bR3.other (B' := w.heap.size + 1 + 1) (by omega) (.slice Av (nums q).length cv)).other (B' := w.heap.size + 1 + 1 + 1) (by omega) (.bool f)).set (.bool true)
  have r1 := hrw.kept (grownBy_setCell' W (w.heap.size + 1 + 1) (.slice Av (nums q).length cv)) (.inr (bR1.not_row (by decide) hrw).symm)
  have r2 := r1.kept (grownBy_setCell' _ (w.heap.size + 1 + 1 + 1) (.bool f)) (.inr ((bR2.other (B' := w.heap.size + 1 + 1) (by omega) (.slice Av (nums q).length cv)).not_row (by decide) r1).symm)
  have r3 := r2.kept (grownBy_setCell' _ (w.heap.size + 1 + 1 + 1 + 1) (.bool true)) (.inr (((bR3.other (B' := w.heap.size + 1 + 1) (by omega) (.slice Av (nums q).length cv)).other (B' := w.heap.size + 1 + 1 + 1) (by omega) (.bool f)).not_row (by decide) r2).symm)
  refine ⟨_, rfl, hK', ?_, ?_, ?_, ?_, ?_⟩
  · have qc : ((((W.setCell ⟨w.heap.size + 1 + 1, 0, none⟩ (.slice Av (nums q).length cv)).setCell ⟨w.heap.size + 1 + 1 + 1, 0, none⟩ (.bool f)).setCell ⟨w.heap.size + 1 + 1 + 1 + 1, 0, none⟩ (.bool true)).drew).cell? ⟨w.heap.size + 1 + 1, 0, none⟩ = some (.slice Av (nums q).length cv) := Boxed.cell q1
    exact cell_kept qc (grownBy_putObj' _ D (.deferred none)) (fun r e => by cases e; exact ⟨_, hK', rfl⟩)
  · have qc : ((((W.setCell ⟨w.heap.size + 1 + 1, 0, none⟩ (.slice Av (nums q).length cv)).setCell ⟨w.heap.size + 1 + 1 + 1, 0, none⟩ (.bool f)).setCell ⟨w.heap.size + 1 + 1 + 1 + 1, 0, none⟩ (.bool true)).drew).cell? ⟨w.heap.size + 1 + 1 + 1, 0, none⟩ = some (.bool f) := Boxed.cell q2
    exact cell_kept qc (grownBy_putObj' _ D (.deferred none)) (fun r e => by cases e; exact ⟨_, hK', rfl⟩)
  · have qc : ((((W.setCell ⟨w.heap.size + 1 + 1, 0, none⟩ (.slice Av (nums q).length cv)).setCell ⟨w.heap.size + 1 + 1 + 1, 0, none⟩ (.bool f)).setCell ⟨w.heap.size + 1 + 1 + 1 + 1, 0, none⟩ (.bool true)).drew).cell? ⟨w.heap.size + 1 + 1 + 1 + 1, 0, none⟩ = some (.bool true) := Boxed.cell q3
    exact cell_kept qc (grownBy_putObj' _ D (.deferred none)) (fun r e => by cases e; exact ⟨_, hK', rfl⟩)
  · exact OwnS.less (ownsRow_putObj r3.drew _ hK' rfl) (by omega)
  · exact ((((hB.setCell (p := ⟨w.heap.size + 1 + 1, 0, none⟩) (by simp; omega) _).setCell (p := ⟨w.heap.size + 1 + 1 + 1, 0, none⟩) (by simp; omega) _).setCell (p := ⟨w.heap.size + 1 + 1 + 1 + 1, 0, none⟩) (by simp; omega) _).drew).trans (belowK_b (w := w) (Nat.le_refl _) _ D _ _ hD hK' rfl rfl)

set_option maxRecDepth 100000 in
set_option maxHeartbeats 4000000 in
theorem gone_in (F : Fence) (hfn : ∀ f, F.fn f) (hC : ∀ {f args W R} m, Calls Try.prog f args W R → CallsIn F m Try.prog f args W R) (n : Nat) (hro : F.round = none) (hn : 6 ≤ n) (A : Option Addr) (c : Nat) (xs : List Int) (most : Nat)
    (hc : xs.length ≤ c) (hl : xs.length ≤ 100000) (hb : Byt xs) (hm1 : 1 ≤ most) (hm2 : most ≤ 1000) (w : World) (hs : Sl .u8 w w.heap.size A xs) :
    CallsIn F n Try.prog 16 #[.slice A xs.length c, .int .i64 most] w (Gone w xs most) := by
  have h19 := hfn 19
  have h24 := hfn 24
  have h1 : 1 ≤ n := by omega
  have he := eql40
  obtain ⟨i0, hi, hz0, hz1, hz2⟩ := info_parts Try.info3
  have HI := Lib.hid hi
  have HZ := Lib.hid (And.intro hz0 (And.intro hz1 hz2))
  clear hi hz0 hz1 hz2
  have hN := (seq_len xs.length xs (Nat.le_refl _) hb).1
  have HS := Lib.hid hs
  have HBy := Lib.hid hb
  clear hs hb
  refine callsIn_of_wp_marks Try.func16 rfl (hfn 16) ?_ hro
  simp only [Try.ntmps16, List.size_toArray, List.length_cons, List.length_nil, Nat.reduceAdd, Nat.reduceSub, Array.replicate_succ, Array.replicate_zero, List.push_toArray, List.append_toArray, List.nil_append, List.cons_append]
  gi_wp2_with (gi_at_call 19; (with_reducible refine (hC _ (all_any _ _ _ _)).mono ?_); rintro e w' ⟨rfl, rfl⟩)
  clear he
  have b0 := Boxed.new w 23 (.slice A xs.length c)
  replace b0 := ((((((((b0.alloc (.cells #[.int .i64 most] 3)).alloc (.cells #[.slice none 0 0] 22)).alloc (.cells #[.bool false] 4)).alloc (.cells #[.bool false] 4)).alloc (.cells #[] 3)).alloc (.cells #[.slice (some ⟨w.heap.size + 1 + 1 + 1 + 1 + 1, 0, none⟩) 0 0] 22)).alloc (.cells #[.bool false] 4)).alloc (.cells #[.slice A xs.length c] 23))
  have b1 := Boxed.new (w.alloc (.cells #[.slice A xs.length c] 23)) 3 (.int .i64 most)
  simp only [World.size_alloc] at b1
  replace b1 := (((((((b1.alloc (.cells #[.slice none 0 0] 22)).alloc (.cells #[.bool false] 4)).alloc (.cells #[.bool false] 4)).alloc (.cells #[] 3)).alloc (.cells #[.slice (some ⟨w.heap.size + 1 + 1 + 1 + 1 + 1, 0, none⟩) 0 0] 22)).alloc (.cells #[.bool false] 4)).alloc (.cells #[.slice A xs.length c] 23))
  have b2 := Boxed.new ((w.alloc (.cells #[.slice A xs.length c] 23)).alloc (.cells #[.int .i64 most] 3)) 22 (.slice none 0 0)
  simp only [World.size_alloc] at b2
  replace b2 := ((((((b2.alloc (.cells #[.bool false] 4)).alloc (.cells #[.bool false] 4)).alloc (.cells #[] 3)).alloc (.cells #[.slice (some ⟨w.heap.size + 1 + 1 + 1 + 1 + 1, 0, none⟩) 0 0] 22)).alloc (.cells #[.bool false] 4)).alloc (.cells #[.slice A xs.length c] 23))
  have b3 := Boxed.new (((w.alloc (.cells #[.slice A xs.length c] 23)).alloc (.cells #[.int .i64 most] 3)).alloc (.cells #[.slice none 0 0] 22)) 4 (.bool false)
  simp only [World.size_alloc] at b3
  replace b3 := (((((b3.alloc (.cells #[.bool false] 4)).alloc (.cells #[] 3)).alloc (.cells #[.slice (some ⟨w.heap.size + 1 + 1 + 1 + 1 + 1, 0, none⟩) 0 0] 22)).alloc (.cells #[.bool false] 4)).alloc (.cells #[.slice A xs.length c] 23))
  have b4 := Boxed.new ((((w.alloc (.cells #[.slice A xs.length c] 23)).alloc (.cells #[.int .i64 most] 3)).alloc (.cells #[.slice none 0 0] 22)).alloc (.cells #[.bool false] 4)) 4 (.bool false)
  simp only [World.size_alloc] at b4
  replace b4 := ((((b4.alloc (.cells #[] 3)).alloc (.cells #[.slice (some ⟨w.heap.size + 1 + 1 + 1 + 1 + 1, 0, none⟩) 0 0] 22)).alloc (.cells #[.bool false] 4)).alloc (.cells #[.slice A xs.length c] 23))
  have b6 := Boxed.new ((((((w.alloc (.cells #[.slice A xs.length c] 23)).alloc (.cells #[.int .i64 most] 3)).alloc (.cells #[.slice none 0 0] 22)).alloc (.cells #[.bool false] 4)).alloc (.cells #[.bool false] 4)).alloc (.cells #[] 3)) 22 (.slice (some ⟨w.heap.size + 1 + 1 + 1 + 1 + 1, 0, none⟩) 0 0)
  simp only [World.size_alloc] at b6
  replace b6 := ((b6.alloc (.cells #[.bool false] 4)).alloc (.cells #[.slice A xs.length c] 23))
  have b7 := Boxed.new (((((((w.alloc (.cells #[.slice A xs.length c] 23)).alloc (.cells #[.int .i64 most] 3)).alloc (.cells #[.slice none 0 0] 22)).alloc (.cells #[.bool false] 4)).alloc (.cells #[.bool false] 4)).alloc (.cells #[] 3)).alloc (.cells #[.slice (some ⟨w.heap.size + 1 + 1 + 1 + 1 + 1, 0, none⟩) 0 0] 22)) 4 (.bool false)
  simp only [World.size_alloc] at b7
  replace b7 := (b7.alloc (.cells #[.slice A xs.length c] 23))
  have b8 := Boxed.new ((((((((w.alloc (.cells #[.slice A xs.length c] 23)).alloc (.cells #[.int .i64 most] 3)).alloc (.cells #[.slice none 0 0] 22)).alloc (.cells #[.bool false] 4)).alloc (.cells #[.bool false] 4)).alloc (.cells #[] 3)).alloc (.cells #[.slice (some ⟨w.heap.size + 1 + 1 + 1 + 1 + 1, 0, none⟩) 0 0] 22)).alloc (.cells #[.bool false] 4)) 23 (.slice A xs.length c)
  simp only [World.size_alloc] at b8
  have hB0 : Below w.heap.size w (((((((((w.alloc (.cells #[.slice A xs.length c] 23)).alloc (.cells #[.int .i64 most] 3)).alloc (.cells #[.slice none 0 0] 22)).alloc (.cells #[.bool false] 4)).alloc (.cells #[.bool false] 4)).alloc (.cells #[] 3)).alloc (.cells #[.slice (some ⟨w.heap.size + 1 + 1 + 1 + 1 + 1, 0, none⟩) 0 0] 22)).alloc (.cells #[.bool false] 4)).alloc (.cells #[.slice A xs.length c] 23)) := by
    repeat (first | exact Below.refl _ _ | refine Below.alloc ?_ (by simp <;> omega) _)
  have hsz : (((((((((w.alloc (.cells #[.slice A xs.length c] 23)).alloc (.cells #[.int .i64 most] 3)).alloc (.cells #[.slice none 0 0] 22)).alloc (.cells #[.bool false] 4)).alloc (.cells #[.bool false] 4)).alloc (.cells #[] 3)).alloc (.cells #[.slice (some ⟨w.heap.size + 1 + 1 + 1 + 1 + 1, 0, none⟩) 0 0] 22)).alloc (.cells #[.bool false] 4)).alloc (.cells #[.slice A xs.length c] 23)).heap.size = w.heap.size + 9 := by simp
  have hrow : (((((((((w.alloc (.cells #[.slice A xs.length c] 23)).alloc (.cells #[.int .i64 most] 3)).alloc (.cells #[.slice none 0 0] 22)).alloc (.cells #[.bool false] 4)).alloc (.cells #[.bool false] 4)).alloc (.cells #[] 3)).alloc (.cells #[.slice (some ⟨w.heap.size + 1 + 1 + 1 + 1 + 1, 0, none⟩) 0 0] 22)).alloc (.cells #[.bool false] 4)).alloc (.cells #[.slice A xs.length c] 23)).ownsRow (w.heap.size + 1 + 1) 3 1 (.slice (some ⟨w.heap.size + 1 + 1 + 1 + 1 + 1, 0, none⟩) 0 0) 0 [] := by
    have h := (((own_empty 3 (((((w.alloc (.cells #[.slice A xs.length c] 23)).alloc (.cells #[.int .i64 most] 3)).alloc (.cells #[.slice none 0 0] 22)).alloc (.cells #[.bool false] 4)).alloc (.cells #[.bool false] 4))).alloc (.cells #[.slice (some ⟨w.heap.size + 1 + 1 + 1 + 1 + 1, 0, none⟩) 0 0] 22)).alloc (.cells #[.bool false] 4)).alloc (.cells #[.slice A xs.length c] 23)
    simp only [World.size_alloc] at h
    exact OwnS.less (k := .i64) (xs := []) h (by omega)
  obtain ⟨W0, hW0⟩ : ∃ W0, (((((((((w.alloc (.cells #[.slice A xs.length c] 23)).alloc (.cells #[.int .i64 most] 3)).alloc (.cells #[.slice none 0 0] 22)).alloc (.cells #[.bool false] 4)).alloc (.cells #[.bool false] 4)).alloc (.cells #[] 3)).alloc (.cells #[.slice (some ⟨w.heap.size + 1 + 1 + 1 + 1 + 1, 0, none⟩) 0 0] 22)).alloc (.cells #[.bool false] 4)).alloc (.cells #[.slice A xs.length c] 23)) = W0 := ⟨_, rfl⟩
  rw [hW0] at b0 b1 b2 b3 b4 b6 b7 b8 hB0 hsz hrow ⊢
  clear hW0
  refine wpIn_rangeFunc_ownG hro h1 (gf := 24) (lb := #[.pointer (some ⟨w.heap.size + 1 + 1 + 1 + 1 + 1 + 1 + 1 + 1, 0, none⟩)]) rfl h24 (enters_of Try.func24 (by kernel_rfl) rfl)
    (all_stops F hfn hC (n - 1) hro (by omega) (w.heap.size + 1 + 1 + 1 + 1 + 1 + 1 + 1 + 1) w.heap.size A c xs hc hl HBy.out W0 (by omega) (by omega) b8.cell (HS.out.below hB0)) belowK_t (belowK_b (by omega)) (Below.refl _ _) (fun _ => rfl)
    (fun q W => (nums q).length < most ∧ Gath w A c xs.length most q W)
    (fun k q W => (k = .ret ∧ Bad q) ∨ (k = .exit 0 ∧ flag q = false ∧ (nums q).length = most ∧ Gath w A c xs.length most q W))
    (OwnFrom.and (ownFrom_pure _ _) (gath_own w A c xs.length most (by omega)))
    (fun k s X Y row hh hg hr => hh.elim .inl (fun ⟨e1, e2, e3, e4⟩ => .inr ⟨e1, e2, e3, gath_own w A c xs.length most (Bo := W0.heap.size) (by omega) s X Y row e4 hg hr⟩))
    ⟨by simp [nums]; omega, ⟨_, b6, hrow, trivial⟩, b7, b0, b1, b2, b3, b4, hB0⟩
    (fun x => { tmps := #[.slice A xs.length c, .int .i64 most, .pointer (some ⟨w.heap.size, 0, none⟩), .pointer (some ⟨w.heap.size + 1, 0, none⟩), .pointer (some ⟨w.heap.size + 1 + 1, 0, none⟩), .pointer (some ⟨w.heap.size + 1 + 1 + 1, 0, none⟩), .pointer (some ⟨w.heap.size + 1 + 1 + 1 + 1, 0, none⟩), .pointer (some ⟨w.heap.size + 1 + 1 + 1 + 1 + 1 + 1, 0, none⟩), .pointer (some ⟨w.heap.size + 1 + 1 + 1 + 1 + 1 + 1 + 1, 0, none⟩), .func (.func 24) #[] #[.pointer (some ⟨w.heap.size + 1 + 1 + 1 + 1 + 1 + 1 + 1 + 1, 0, none⟩)], .int .i64 x.1, .bool x.2, .slice (some ⟨w.heap.size + 1 + 1 + 1 + 1 + 1, 0, none⟩) 0 0, .slice A xs.length c, .func (.func 24) #[] #[.pointer (some ⟨w.heap.size + 1 + 1 + 1 + 1 + 1 + 1 + 1 + 1, 0, none⟩)], .func (.func 24) #[] #[.pointer (some ⟨w.heap.size + 1 + 1 + 1 + 1 + 1 + 1 + 1 + 1, 0, none⟩)], .bool false, .func (.func 24) #[] #[.pointer (some ⟨w.heap.size + 1 + 1 + 1 + 1 + 1 + 1 + 1 + 1, 0, none⟩)], .int .i64 x.1, .bool x.2, undef, undef, undef, undef, undef, undef, undef, undef, undef, undef, undef, undef, undef, undef, undef, undef, undef, undef, undef, undef, undef, undef], defers := [] }) ?assign ?body ?done ?stop
  case assign =>
    intro l x W K hK
    unfold encs
    gi_wp2
    exact hK
  case body =>
    rintro l pre ⟨m, ok⟩ W ⟨hlt, ⟨v, bO, hrw, -⟩, bL, bB, bM, bR1, bR2, bR3, hB⟩ hpl
    obtain ⟨Av, cv, rfl⟩ := own_form hrw
    have hnl := nums_le pre
    have cO := bO.cell
    have cL := bL.cell
    have fL := bL.frozen
    have cB := bB.cell
    have cM := bM.cell
    have c1 := bR1.cell
    have f1 := bR1.frozen
    have c2 := bR2.cell
    have f2 := bR2.frozen
    have c3 := bR3.cell
    have f3 := bR3.frozen
    have hKB := Lib.hid (And.intro hlt (And.intro hrw (And.intro bL (And.intro bB (And.intro bM (And.intro bR1 (And.intro bR2 (And.intro bR3 (And.intro hB bO)))))))))
    have hBs := hB.size
    by_cases hfl : flag pre = true
    · rw [hfl] at cL
      have HF := Lib.hid hfl
      clear hfl hlt hrw bL bB bM bR1 bR2 bR3 hB bO cO cB cM
      gi_wp2
      exact ⟨((KeepsOthers.setCell _ _ _).trans ((KeepsOthers.setCell _ _ _).trans (KeepsOthers.setCell _ _ _))).from _, .inl ⟨rfl, pre, _, rfl, .inl HF.out⟩⟩
    · have hfl' : flag pre = false := by simpa using hfl
      rw [hfl'] at cL
      have HF := Lib.hid hfl'
      clear hfl hfl'
      have hfew : ¬ xs.length < (nums pre).length := by omega
      cases ok with
      | false =>
        clear hlt hrw bL bB bM bR1 bR2 bR3 hB bO
        gi_wp2
        · exact ⟨((KeepsOthers.setCell _ _ _).trans ((KeepsOthers.setCell _ _ _).trans ((KeepsOthers.setCell _ _ _).trans (KeepsOthers.setCell _ _ _)))).from _, .inl ⟨rfl, pre, _, rfl, .inr ⟨rfl, by simpa using ‹(m != 0) = true›⟩⟩⟩
        · have hm0 : m = 0 := by simpa using ‹(m != 0) = false›
          subst hm0
          obtain ⟨hlt, hrw, bL, bB, bM, bR1, bR2, bR3, hB, bO⟩ := hKB.out
          have hbel : Below w.heap.size W (W.setCell ⟨w.heap.size + 1 + 1 + 1 + 1 + 1 + 1 + 1, 0, none⟩ (.bool true)) := (Below.refl _ W).setCell (p := ⟨w.heap.size + 1 + 1 + 1 + 1 + 1 + 1 + 1, 0, none⟩) (by simp; omega) _
          refine ⟨(KeepsOthers.setCell _ _ _).from _, hbel, by rw [nums_snoc_f]; exact hlt, ⟨_, bO.other (by omega) _, ?_, trivial⟩, ?_, bB.other (by omega) _, bM.other (by omega) _, bR1.other (by omega) _, bR2.other (by omega) _, bR3.other (by omega) _, hB.trans hbel⟩
          · rw [nums_snoc_f]
            exact hrw.kept (grownBy_setCell' W _ _) (.inr (bL.not_row (by decide) hrw).symm)
          · rw [flag_snoc_f]; exact bL.set _
      | true =>
        have hz : w.heap.size + 1 + 1 ≤ W.heap.size := by have := bL.lt; omega
        gi_wp2_with (gi_at_builtin; refine wpListIn_append_own _ rfl _ _ 22 rfl (w.heap.size + 1 + 1) 3 i0 (.int .i64 0) 1 8 Try.underlying22 HI.out HZ.out.1 HZ.out.2.1 HZ.out.2.2 rfl (by decide) _ _ _ rfl (hrw.alloc _) ⟨W.heap.size, 0, none⟩ 1 1 [.int .i64 m] rfl rfl (cell_one_new _ _ _) (by simp [Value.oneCell']) (by unfold maxLen; omega) (by omega) (by simp; omega) ?_; intro v' w1 hown' hgrow _; obtain ⟨g', cap', rfl⟩ := ownsRow_succ hown'; obtain ⟨hv1, hv2, hr2, hk2, hb2⟩ := bO.appended (by decide) hrw hz (by omega) hown' hgrow; have hc1 := hv1.cell; have hf1 := hv1.frozen; have hc2 := hv2.cell; have hcM := (boxed_below bM hb2 (by omega)).cell)
        all_goals
          have hG : Gath w A c xs.length most (pre ++ [(m, true)]) (w1.setCell ⟨w.heap.size + 1 + 1 + 1 + 1 + 1 + 1, 0, none⟩ (.slice (some ⟨g', 0, none⟩) ((nums pre).length + 1) cap')) :=
            ⟨⟨_, hv2, by rw [nums_snoc_t]; simpa using hr2, trivial⟩, by rw [flag_snoc_t]; exact boxed_app bL (by decide) hrw hgrow (by omega) _, boxed_below bB hb2 (by omega), boxed_below bM hb2 (by omega),
              boxed_app bR1 (by decide) hrw hgrow (by omega) _, boxed_app bR2 (by decide) hrw hgrow (by omega) _, boxed_app bR3 (by decide) hrw hgrow (by omega) _, hB.trans (hb2.mono (by omega))⟩
        · exact ⟨hk2.from _, .inr ⟨rfl, by rw [flag_snoc_t]; exact HF.out, by rw [nums_snoc_t]; simp; omega, hG⟩⟩
        · exact ⟨hk2.from _, hb2.mono (by omega), by rw [nums_snoc_t]; simp; omega, hG⟩
  case done =>
    rintro D q W hD hq ⟨hlt, ⟨v, bO, hrw, -⟩, bL, bB, bM, bR1, bR2, bR3, hB⟩ hK
    have cO := bO.cell
    have cL := bL.cell
    have c1 := bR1.cell
    have f1 := bR1.frozen
    have c2 := bR2.cell
    have f2 := bR2.frozen
    have c3 := bR3.cell
    have f3 := bR3.frozen
    obtain ⟨Av, cv, rfl⟩ := own_form hrw
    have HQ := Lib.hid hq
    clear hq
    gi_wp2
    gi_region
    all_goals gi_wp2
    all_goals
      obtain ⟨W', hW', hK', k1, k2, k3, hO, hBB⟩ := gone_ends (w := w) (by omega) hrw bR1 bR2 bR3 hB hK (flag q)
      rw [← hW']
      refine ⟨by simp, .inl ⟨_, _, rfl, run_takeDeferred hK', ?_⟩⟩
      refine ⟨.tuple #[.slice Av (nums q).length cv, .bool (flag q), .bool true], by simp [results, Try.f16, go_sem, k1, k2, k3], _, _, rfl, ?_, ?_, hBB⟩
      · have e := HQ.out
        rw [← e, List.take_of_length_le (by omega)]; exact hO
      · intro _; rw [HQ.out]
  case stop =>
    rintro D k q W hD hpre (⟨rfl, hbad⟩ | ⟨rfl, hfl, hlen, ⟨v, bO, hrw, -⟩, bL, bB, bM, bR1, bR2, bR3, hB⟩) hK
    · exact absurd hbad (not_bad HBy.out hpre)
    · have cO := bO.cell
      have cL := bL.cell
      have c1 := bR1.cell
      have f1 := bR1.frozen
      have c2 := bR2.cell
      have f2 := bR2.frozen
      have c3 := bR3.cell
      have f3 := bR3.frozen
      obtain ⟨Av, cv, rfl⟩ := own_form hrw
      have HFL := Lib.hid (And.intro hfl hlen)
      clear hfl hlen
      gi_wp2
      gi_region
      all_goals gi_wp2
      all_goals
        obtain ⟨W', hW', hK', k1, k2, k3, hO, hBB⟩ := gone_ends (w := w) (by omega) hrw bR1 bR2 bR3 hB hK (flag q)
        rw [← hW']
        refine ⟨by simp, .inl ⟨_, _, rfl, run_takeDeferred hK', ?_⟩⟩
        refine ⟨.tuple #[.slice Av (nums q).length cv, .bool (flag q), .bool true], by simp [results, Try.f16, go_sem, k1, k2, k3], _, _, rfl, ?_, ?_, hBB⟩
        · rw [← HFL.out.2, ← nums_prefix hpre]; exact hO
        · intro hh
          have h2 := (nums_prefix hpre)
          have h3 := congrArg List.length h2
          rw [List.length_take] at h3
          have := HFL.out.2
          omega

/-- gone, whatever the bytes: the numbers with which they begin, as many as are asked for. -/
theorem gone_any (A : Option Addr) (c : Nat) (xs : List Int) (most : Nat) (hc : xs.length ≤ c) (hl : xs.length ≤ 100000) (hb : Byt xs) (hm1 : 1 ≤ most) (hm2 : most ≤ 1000) (w : World) (hs : Sl .u8 w w.heap.size A xs) :
    Calls Try.prog 16 #[.slice A xs.length c, .int .i64 most] w (Gone w xs most) :=
  (callsIn_wide (n := 6)).1 (gone_in Fence.wide (fun _ => trivial) (fun _ h => callsIn_wide.2 h) 6 rfl (Nat.le_refl _) A c xs most hc hl hb hm1 hm2 w hs)
end Go.Proofs.Ytopncdeafbpenaa
