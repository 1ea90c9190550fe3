/-
  glazierlaw13.VmJumps, its walk.
-/
import Derived.Test.YtehkcnmjkgelkaaShown
namespace Go.Proofs.Ytehkcnmjkgelkaa
open Go.RowKit C
attribute [local go_sem ↓] Go.wp_at_zero Go.wp_at_succ

def jmpI (k : Nat) : In := ⟨12, 0, 5, 0, k⟩
def addI : In := ⟨2, 0, 0, 1, 0⟩
/-- A jump, and so many sums. -/
def jumpP (k j : Nat) : List In := jmpI k :: List.replicate j addI
theorem jumpP_len (k j : Nat) : (jumpP k j).length = j + 1 := by simp [jumpP]
theorem jumpP_snoc (k j : Nat) : jumpP k (j + 1) = jumpP k j ++ [addI] := by simp [jumpP, List.replicate_succ']
theorem jumpP_get {k j i : Nat} (h : 1 ≤ i) (hi : i ≤ j) : (jumpP k j)[i]? = some addI := by
  obtain ⟨i, rfl⟩ : ∃ m, i = m + 1 := ⟨i - 1, by omega⟩
  simp [jumpP, List.getElem?_replicate]
  omega
theorem jumpP_in {k j i : Nat} {x : In} (h : (jumpP k j)[i]? = some x) : (i = 0 ∧ x = jmpI k) ∨ (1 ≤ i ∧ x = addI) := by
  cases i with
  | zero => left; simp [jumpP] at h; exact ⟨rfl, h.symm⟩
  | succ i =>
    right
    have hi := (List.getElem?_eq_some_iff.1 h).1
    rw [jumpP_len] at hi
    rw [jumpP_get (by omega) (by omega)] at h
    exact ⟨by omega, (Option.some.inj h).symm⟩
theorem jumpP_chk {k : Nat} (hk : k ≤ 20) : chk (jumpP k 20) = 0 := chk_good (by rw [jumpP_len]; omega) (by rw [jumpP_len]; omega) fun i x h => by
  have hi := (List.getElem?_eq_some_iff.1 h).1
  rw [jumpP_len] at hi ⊢
  rcases jumpP_in h with ⟨rfl, rfl⟩ | ⟨h1, rfl⟩
  · refine decide_eq_true ?_
    simp [jmpI, us, ms, lo, C.hi]
    omega
  · refine decide_eq_true ?_
    simp [addI, us, ms, lo, C.hi]
    omega
theorem jumpP_tex (k j : Nat) : (jumpP k j).any tex = false := by
  simp [jumpP, tex, jmpI, addI, List.any_replicate]
theorem jumpP_ok {k : Nat} (hk : k ≤ 20) (j : Nat) : ∀ x ∈ jumpP k j, x.ok := by
  intro x hx
  obtain ⟨i, hi⟩ := List.getElem?_of_mem hx
  rcases jumpP_in hi with ⟨-, rfl⟩ | ⟨-, rfl⟩
  · unfold jmpI; constructor <;> simp <;> omega
  · unfold addI; constructor <;> decide
theorem adds {k : Nat} {t : Tx} {n : Int} : ∀ (f i : Nat) (v : Int) (s : Nat), 1 ≤ i → i ≤ 21 → 21 - i ≤ f → 0 ≤ v → v ≤ 1000 - (21 - i : Nat) →
    fin (jumpP k 20) t f i [v, 1, 0, 0, 0, n, 0, 0] s = ([v + (21 - i : Nat), 1, 0, 0, 0, n, 0, 0], s + (21 - i))
  | 0, i, v, s, _, h1, h2, _, _ => by
    obtain rfl : i = 21 := by omega
    simp [fin]
  | f + 1, i, v, s, h0, h1, h2, h3, h4 => by
    by_cases e : i = 21
    · subst e
      rw [fin_end (by rw [jumpP_len]; omega)]
      simp
    · rw [fin_step (jumpP_get h0 (by omega))]
      have hn : nxt addI i (ra addI [v, 1, 0, 0, 0, n, 0, 0]) = i + 1 := if_neg (by intro h; exact absurd h.1 (by decide))
      have hs : stepR t addI [v, 1, 0, 0, 0, n, 0, 0] = [v + 1, 1, 0, 0, 0, n, 0, 0] := by
        show [w32 (v + 1), 1, 0, 0, 0, n, 0, 0] = _
        rw [w32_id (by omega)]
      rw [hn, hs, adds f (i + 1) (v + 1) (s + 1) (by omega) (by omega) (by omega) (by omega) (by omega)]
      have : ((21 - i : Nat) : Int) = ((21 - (i + 1) : Nat) : Int) + 1 := by omega
      refine Prod.ext ?_ ?_
      · show [v + 1 + ((21 - (i + 1) : Nat) : Int), 1, 0, 0, 0, n, 0, 0] = _
        rw [this]
        congr 1
        omega
      · show s + 1 + (21 - (i + 1)) = s + (21 - i)
        omega
theorem jump_runs {k : Nat} (hk : k ≤ 20) {n : Int} (hn : I32 n) : runQ (jumpP k 20) noT [100, 1, 0, 0, 0, n, 0, 0] = if n = 0 then ([120, 1, 0, 0, 0, n, 0, 0], 21, 0) else ([120 - (k : Int), 1, 0, 0, 0, n, 0, 0], 21 - k, 0) := by
  rw [runQ_ok (chkT_of (jumpP_chk hk) (.inl (jumpP_tex _ _)))]
  have hw : [100, 1, 0, 0, 0, n, 0, 0].map w32 = [100, 1, 0, 0, 0, n, 0, 0] := by
    show [w32 100, w32 1, w32 0, w32 0, w32 0, w32 n, w32 0, w32 0] = _
    rw [w32_id hn]
    rfl
  rw [hw, jumpP_len, fin_step (x := jmpI k) rfl]
  have hs : stepR noT (jmpI k) [100, 1, 0, 0, 0, n, 0, 0] = [100, 1, 0, 0, 0, n, 0, 0] := if_pos rfl
  rw [hs]
  have hr : ra (jmpI k) [100, 1, 0, 0, 0, n, 0, 0] = n := rfl
  rw [hr]
  by_cases e : n = 0
  · rw [if_pos e]
    have hx : nxt (jmpI k) 0 n = 1 := if_neg (by intro h; exact h.2 e)
    rw [hx, adds 20 1 100 1 (by omega) (by omega) (by omega) (by omega) (by omega)]
    rfl
  · rw [if_neg e]
    have hx : nxt (jmpI k) 0 n = 1 + k := by
      unfold nxt
      rw [if_pos ⟨rfl, e⟩]
      simp [jmpI]
    rw [hx, adds 20 (1 + k) 100 1 (by omega) (by omega) (by omega) (by omega) (by omega)]
    have h1 : (100 : Int) + ((21 - (1 + k) : Nat) : Int) = 120 - k := by omega
    have h2 : 1 + (21 - (1 + k)) = 21 - k := by omega
    dsimp only
    rw [h1, h2]

set_option maxRecDepth 100000 in
set_option maxHeartbeats 4000000 in
theorem jumps_walk (n b : Int) (hn : I32 n) (hb : 0 ≤ b ∧ b ≤ 255) (w : World) :
    Calls Try.prog 7 #[.int .i32 n, .int .u8 b] w fun e w' => e = .returned (.bool true) ∧ Below w.heap.size w w' := by
  obtain ⟨k, hk, hk20⟩ : ∃ k : Nat, b.tmod 21 = k ∧ k ≤ 20 := by
    have h := Int.tmod_eq_emod_of_nonneg (b := 21) hb.1
    have h1 := Int.emod_lt_of_pos b (show (0 : Int) < 21 by decide)
    have h2 := Int.emod_nonneg b (show (21 : Int) ≠ 0 by decide)
    exact ⟨(b % 21).toNat, by omega, by omega⟩
  have HQ := Lib.hid (jump_runs hk20 hn)
  have HR := Lib.hid (fun A c W (h : Es EI W W.heap.size A (jumpP k 20)) => run_any (jumpP k 20) A c noT none 0 100 1 0 0 0 n 0 0 (jumpP_ok hk20 20) noT_ok W h Es.none_)
  have HN := Lib.hid hn
  obtain ⟨i0, hi, hz0, hz1, hz2⟩ := info_parts Try.info45
  have HI := Lib.hid hi
  have HZ := Lib.hid (And.intro hz0 (And.intro hz1 hz2))
  have HSH := Lib.hid shown_any
  obtain ⟨hb0, hb1⟩ := hb
  clear hi hz0 hz1 hz2 hn
  go_enter Try.func7, Try.ntmps7
  go_wp2_with (go_at_call 9; (with_reducible refine (HSH.out _).mono ?_); rintro e w1 ⟨rfl, hb⟩; have HB1 := Lib.hid hb; clear hb)
  have B0 := Lib.hid (HB1.out.alloc HB1.out.size (.cells #[.int .u8 12, .int .u8 0, .int .u8 5, .int .u8 0, .int .i64 k] 45))
  have O0 := Lib.hid ((C.ownI_new w1 [jmpI k] #[.int .u8 12, .int .u8 0, .int .u8 5, .int .u8 0, .int .i64 k] rfl (by simp)).less HB1.out.size)
  clear HB1 HSH
  go_loopw [7, 8] (fun v i wr => ∃ j : Nat, j ≤ 20 ∧ i = .int .i64 j ∧ Below w.heap.size w wr ∧ OwnE EI wr w.heap.size v (jumpP k j)) (fun _ i _ => 20 - (intOf i).toNat)
  case atStart => exact ⟨0, Nat.zero_le _, rfl, B0.out, O0.out⟩
  case round =>
    clear B0 O0
    obtain ⟨j, hj, rfl, hb, ho⟩ := hrel
    obtain ⟨A1, c1, rfl⟩ := ho.form
    have HB := Lib.hid hb
    have HO := Lib.hid ho
    clear hb ho
    by_cases hlt : j < 20
    · have HS := Lib.hid (jumpP_snoc k j)
      have hl := jumpP_len k j
      have hlt' : (j : Int) < 20 := by omega
      generalize jumpP k j = cs at *
      have HC := Lib.hid hl
      have hc256 : cs.length ≤ 256 := by omega
      have O2 := Lib.hid (HO.out.alloc (.cells #[.int .u8 2, .int .u8 0, .int .u8 0, .int .u8 1, .int .i64 0] 45))
      have hz2 : w.heap.size ≤ wr.heap.size := HB.out.size
      clear hl
      go_wp2_with (at_builtin; refine wpList_append_own _ rfl _ _ 22 rfl w.heap.size 45 i0 _ 5 16 Try.underlying22 HI.out HZ.out.1 HZ.out.2.1 HZ.out.2.2 (by kernel_rfl) (by decide) _ _ (EI.flat cs) rfl O2.out.row _ 1 1 (EI.cells addI) rfl rfl (newI_at (u := addI) rfl) (EI.one addI) (by unfold maxLen; omega) (by omega) (by simp; omega) ?_; intro v' w6 hown' hgrow _; obtain ⟨ho6, hb6⟩ := append_ofE (E := EI) (x := addI) HO.out (by omega) hown' hgrow; obtain ⟨A2, c2', rfl⟩ := ho6.form; have O6 := Lib.hid ho6; have B6 := Lib.hid hb6; clear hown' hgrow ho6 hb6)
      go_roundw
      case rel => exact ⟨j + 1, by omega, by go_num, HB.out.trans B6.out, by rw [HS.out]; have h := O6.out; rw [List.length_append] at h; exact h⟩
      case measure => simp [intOf]; omega
    · obtain rfl : j = 20 := by omega
      obtain ⟨A2, c2, ev, -, -, hes⟩ := HO.out.es
      obtain ⟨rfl, -, rfl⟩ : A1 = A2 ∧ True ∧ c1 = c2 := by
        have h := ev
        simp only [Value.slice.injEq] at h
        exact ⟨h.1, trivial, h.2.2⟩
      have HES := Lib.hid hes
      clear hes ev
      have hr := fun W (h : Es EI W W.heap.size A1 (jumpP k 20)) => HR.out A1 c1 W h
      rw [HQ.out] at hr
      clear HR HQ
      rcases Classical.em (n = 0) with e | e
      · subst e
        rw [if_pos rfl] at hr
        have HRR := Lib.hid (fun W (h : Es EI W W.heap.size A1 (jumpP k 20)) => show Calls Try.prog 11 #[.slice A1 (jumpP k 20).length c1, .agg #[.int .i64 0, .int .i64 0, .slice none 0 0], .agg #[.int .i64 100, .int .i64 1, .int .i64 0, .int .i64 0, .int .i64 0, .int .i64 0, .int .i64 0, .int .i64 0]] W fun e w' => e = .returned (.tuple #[.agg #[.int .i64 120, .int .i64 1, .int .i64 0, .int .i64 0, .int .i64 0, .int .i64 0, .int .i64 0, .int .i64 0], .int .i64 21, .int .i64 0]) ∧ Below W.heap.size W w' from hr W h)
        clear hr
        go_wp2_with (go_at_call 11; (with_reducible refine (HRR.out _ HES.out).mono ?_); rintro e W ⟨rfl, hb⟩; have HW := Lib.hid (bstep HB.out HB.out.size hb); clear hb)
        go_ret
        exact ⟨rfl, HW.out.alloc HW.out.size _⟩
      · rw [if_neg e] at hr
        have e21 : ((21 - k : Nat) : Int) = 21 - (k : Int) := by omega
        have HRR := Lib.hid (fun W (h : Es EI W W.heap.size A1 (jumpP k 20)) => show Calls Try.prog 11 #[.slice A1 (jumpP k 20).length c1, .agg #[.int .i64 0, .int .i64 0, .slice none 0 0], .agg #[.int .i64 100, .int .i64 1, .int .i64 0, .int .i64 0, .int .i64 0, .int .i64 n, .int .i64 0, .int .i64 0]] W fun e w' => e = .returned (.tuple #[.agg #[.int .i64 (120 - k), .int .i64 1, .int .i64 0, .int .i64 0, .int .i64 0, .int .i64 n, .int .i64 0, .int .i64 0], .int .i64 (21 - k), .int .i64 0]) ∧ Below W.heap.size W w' from by rw [← e21]; exact hr W h)
        have en : (n == 0) = false := by simpa using e
        have g1 : IntKind.i64.wrap (1 + (20 - (k : Int))) = 21 - k := by rw [IntKind.wrap_i64]; omega
        have g2 : IntKind.i64.wrap (100 + (20 - (k : Int))) = 120 - k := by rw [IntKind.wrap_i64]; omega
        have g3 : IntKind.i64.wrap (20 - (k : Int)) = 20 - k := by rw [IntKind.wrap_i64]; omega
        obtain ⟨hn0, hn1⟩ := HN.out
        clear hr e e21
        go_wp2_with (go_at_call 11; (with_reducible refine (HRR.out _ HES.out).mono ?_); rintro e W ⟨rfl, hb⟩; have HW := Lib.hid (bstep HB.out HB.out.size hb); clear hb)
        go_ret
        exact ⟨rfl, HW.out.alloc HW.out.size _⟩
end Go.Proofs.Ytehkcnmjkgelkaa
