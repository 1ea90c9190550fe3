/-
  The walk of glazierlaw03.WireSigns, at this seat's translation.
-/
import Derived.Test.YtopncdeafbpenaaSmall
namespace Go.Proofs.Ytopncdeafbpenaa
open Go.RowKit

theorem put1_any (n : Int) (w : World) (h0 : -9223372036854775808 ≤ n) (h1 : n ≤ 9223372036854775807) :
    Calls Try.prog 14 #[.slice (some ⟨w.heap.size, 0, none⟩) 1 1] (w.alloc (.cells #[.int .i64 n] 3)) (Made 5 .u8 (w.heap.size + 1) (w.alloc (.cells #[.int .i64 n] 3)) (enc (fold n))) := by
  have h := put_any (some ⟨w.heap.size, 0, none⟩) 1 [n] (w.heap.size + 1) (w.alloc (.cells #[.int .i64 n] 3))
    (fun _ => ⟨w.heap.size, 0, rfl, by omega, fun j hj => by
      simp at hj
      subst hj
      simp [go_sem]⟩) (by simp) (by intro x hx; simp at hx; subst hx; exact ⟨h0, h1⟩) (by simp)
  rw [put_cons, put_nil, List.append_nil] at h
  simpa using h

theorem slice_from (A : Option Addr) (n c k m : Nat) (i : Int) (hk : n = k + m) (hn : n ≤ c) (hi : i = (k : Int)) :
    ∃ A', (∀ W, (Instr.slice 23 (.slice A n c) (some (.int .i64 i)) none none).run Try.prog W = .ok (.slice A' m (c - k)) W) ∧ (∀ q w B xs, xs.length = n → Sl q w B A xs → Sl q w B A' (xs.drop k)) := by
  subst hi
  refine ⟨if c = k then A else A.map fun x => x.add k, fun W => ?_, fun q w B xs hx h => h.cut (by omega)⟩
  have hkn : k ≤ n := by omega
  obtain rfl : m = n - k := by omega
  clear hk
  go_simp

theorem sl_keep {q : IntKind} {w w' : World} {A : Option Addr} {xs : List Int} (h : Sl q w w.heap.size A xs) (hb : Below w.heap.size w w') : Sl q w' w'.heap.size A xs := (h.below hb).more hb.size
theorem below_new {w w' : World} {o : Obj} (hb : Below (w.heap.size + 1) (w.alloc o) w') : Below w.heap.size w w' := ((Below.refl _ w).alloc (Nat.le_refl _) o).trans (hb.mono (Nat.le_succ _))

theorem fold_pos {m : Int} (h : 0 ≤ m) : fold m = 2 * m.toNat := by unfold fold; rw [if_neg (by omega)]
theorem fold_neg {m : Int} (h : 0 ≤ m) : fold (-m - 1) = 2 * m.toNat + 1 := by unfold fold; rw [if_pos (by omega)]; omega

set_option maxRecDepth 100000 in
set_option maxHeartbeats 2000000 in
theorem signs_walk (n : Int) (w : World) (h0 : -9223372036854775808 ≤ n) (h1 : n ≤ 9223372036854775807) : Calls Try.prog 8 #[.int .i64 n] w (Yes w) := by
  by_cases hn : n < 0
  all_goals
    go_enter Try.func8, Try.ntmps8
    go_wp2_with (first | (go_at_call 9; (with_reducible refine (shown_any _).mono ?_); rintro e w1 ⟨rfl, hb1⟩))
    first
      | (have b0 : 0 ≤ -(n + 1) := by omega
         have b1 : -(n + 1) ≤ 9223372036854775807 := by omega
         generalize -(n + 1) = m at b0 b1 ⊢)
      | (obtain ⟨m, hm⟩ : ∃ m, m = n := ⟨_, rfl⟩
         subst hm
         have b0 : 0 ≤ m := by omega
         have b1 : m ≤ 9223372036854775807 := by omega)
    refine (put1_any m _ (by omega) b1).mono ?_
    rintro e w2 ⟨v, rfl, ho, hb2⟩
    obtain ⟨x, t, ea, eb, hx0, hx1⟩ := enc_next m.toNat
    rw [fold_pos b0, ea] at ho
    obtain ⟨A, c, rfl, hc1, hc2, hsl⟩ := ho.sl
    have HB1 := Lib.hid (hb1.trans ((below_new hb2).mono hb1.size))
    have HS := Lib.hid hsl
    clear hb1 hb2 ho hsl
    go_wp2_with fail
    refine (put1_any (-m - 1) _ (by omega) (by omega)).mono ?_
    rintro e w3 ⟨v, rfl, ho, hb3⟩
    rw [fold_neg b0, eb] at ho
    obtain ⟨A2, c2, rfl, hc3, hc4, hsl⟩ := ho.sl
    have HS1 := Lib.hid (sl_keep HS.out (below_new hb3))
    have HS2 := Lib.hid hsl
    have HB2 := Lib.hid (HB1.out.trans ((below_new hb3).mono HB1.out.size))
    clear HS HB1 hb3 ho hsl
    obtain ⟨b, off, rfl, _, hcell⟩ := HS1.out.at (j := 0) (by simp)
    obtain ⟨b', off', rfl, _, hcell'⟩ := HS2.out.at (j := 0) (by simp)
    have hcx : w3.cell? ⟨b, off, none⟩ = some (.int .u8 x) := by simpa using hcell
    have hcy : w3.cell? ⟨b', off', none⟩ = some (.int .u8 (x + 1)) := by simpa using hcell'
    clear hcell hcell'
    simp only [List.length_cons] at hc1 hc3 ⊢
    obtain ⟨A', hcut, hto⟩ := slice_from (some ⟨b, off, none⟩) (t.length + 1) c 1 t.length 1 (by omega) hc1 rfl
    obtain ⟨A2', hcut2, hto2⟩ := slice_from (some ⟨b', off', none⟩) (t.length + 1) c2 1 t.length 1 (by omega) hc3 rfl
    have hcv : ∀ j, (convert 23 9 (.slice A' t.length (c - 1))).run Try.prog (w3.drewN j) = .ok (.string (strOfNums t)) (w3.drewN j) := fun j => Sl.conv (by simpa using hto _ _ _ _ (by simp) (HS1.out.drewN j)) _
    have hcv2 : ∀ j, (convert 23 9 (.slice A2' t.length (c2 - 1))).run Try.prog (w3.drewN j) = .ok (.string (strOfNums t)) (w3.drewN j) := fun j => Sl.conv (by simpa using hto2 _ _ _ _ (by simp) (HS2.out.drewN j)) _
    have HE := Lib.hid (And.intro ea eb)
    clear hto hto2 ea eb
    have g0 : ((t.length : Int) + 1 == 0) = false := by simp; omega
    have g1 : IntKind.u8.wrap (x + 1) = x + 1 := by rw [IntKind.wrap_u8']; omega
    have g2 : (0 : Int) < (t.length : Int) + 1 := by omega
    go_wp2_with fail
    go_quiet (fail)
    have k1 := enc_one (2 * m.toNat)
    have k2 := enc_two (2 * m.toNat)
    rw [HE.out.1] at k1 k2
    simp only [List.length_cons] at k1 k2
    have HBB := Lib.hid (below_draws HB2.out nq)
    clear hcut hcut2 hcv hcv2 hcx hcy g0 g1 g2
    by_cases q1 : m < 64
    · have f1 : ((t.length : Int) + 1 == 1) = true := by simp; omega
      have f2 : (t.length : Int) + 1 ≤ 2 := by omega
      have f3 : m < 8192 := by omega
      clear k1 k2
      go_wp2
      go_ret
      exact ⟨rfl, HBB.out⟩
    · have f1 : ((t.length : Int) + 1 == 1) = false := by simp; omega
      by_cases q2 : m < 8192
      · have f2 : (t.length : Int) + 1 ≤ 2 := by omega
        clear k1 k2
        go_wp2
        go_ret
        exact ⟨rfl, HBB.out⟩
      · have f2 : ¬ (t.length : Int) + 1 ≤ 2 := by omega
        clear k1 k2
        go_wp2
        go_ret
        exact ⟨rfl, HBB.out⟩
end Go.Proofs.Ytopncdeafbpenaa
