/-
  SetupParts' walk.
-/
import Derived.Test.YtfdlfjecgefgfaaPtsP
import Derived.Test.YtfdlfjecgefgfaaParts1
import Derived.Test.YtfdlfjecgefgfaaFit3
import Derived.Test.YtfdlfjecgefgfaaBox
namespace Go.Proofs.Ytfdlfjecgefgfaa
open Go.RowKit
attribute [local go_sem ↓] Go.wp_at_zero Go.wp_at_succ

section
variable {ops : Array Oper} {rest : List Oper} {o : Oper} {k : Act} {w : World} {R : Exit → Act → World → Prop} {g : Nat} {a b c : C.V}
/-- Three vertices out of a block. -/
theorem wp_load3 (x : Operand) (ho : o.op = .load 26 x) (hw : Region.wanted o (yielded ops k.tmps) = true) (hx : k.eval x = .pointer (some ⟨g, 0, none⟩)) (hg : w.heap[g]? = some (v3B a b c))
    (h : wpList Try.prog ops R rest (k.put o.dst (.agg #[.int .i64 a.x, .int .i64 a.y, .int .i64 a.z, .int .i64 a.w, .int .i64 a.a, .int .i64 a.b, .int .i64 a.c, .int .i64 a.d, .int .i64 b.x, .int .i64 b.y, .int .i64 b.z, .int .i64 b.w, .int .i64 b.a, .int .i64 b.b, .int .i64 b.c, .int .i64 b.d, .int .i64 c.x, .int .i64 c.y, .int .i64 c.z, .int .i64 c.w, .int .i64 c.a, .int .i64 c.b, .int .i64 c.c, .int .i64 c.d])) w) : wpList Try.prog ops R (o :: rest) k w :=
  BigFrame.wpList_want hw fun _ hK => wp_load_row 26 x ho g hx 26 _ (0, 0) _ hg Try.underlying26 rfl (by kernel_rfl) (hK _ _ h)
end
/-- The setup.Parts of three vertices that may be. -/
def prt (m k : Int) (a b c : C.V) : List Q := partsV (C.pts m k (C.polyV [a, b, c]))
theorem prt_any {m k : Int} {a b c : C.V} (ha : a.ok) (hb : b.ok) (hc : c.ok) (hm : 1 ≤ m ∧ m ≤ 64) (hk : 1 ≤ k ∧ k ≤ 64) (w : World) :
    Calls Try.prog 10 #[.int .i64 m, .int .i64 k, .agg #[.int .i64 a.x, .int .i64 a.y, .int .i64 a.z, .int .i64 a.w, .int .i64 a.a, .int .i64 a.b, .int .i64 a.c, .int .i64 a.d, .int .i64 b.x, .int .i64 b.y, .int .i64 b.z, .int .i64 b.w, .int .i64 b.a, .int .i64 b.b, .int .i64 b.c, .int .i64 b.d, .int .i64 c.x, .int .i64 c.y, .int .i64 c.z, .int .i64 c.w, .int .i64 c.a, .int .i64 c.b, .int .i64 c.c, .int .i64 c.d]] w (MadeE EQ w.heap.size w (prt m k a b c)) := by
  obtain ⟨h1, h2, h3⟩ := parts_ok ha hb hc hm hk
  exact parts_any m k a b c ha.sm hb.sm hc.sm h1 (by omega) h3 w
theorem prt_facts {m k : Int} {a b c : C.V} (ha : a.ok) (hb : b.ok) (hc : c.ok) (hm : 1 ≤ m ∧ m ≤ 64) (hk : 1 ≤ k ∧ k ≤ 64) :
    (prt m k a b c).length ≤ 22 ∧ (∀ q ∈ prt m k a b c, q.good ∧ q.n ≤ 22) ∧ ∀ i p q, (prt m k a b c)[i]? = some p → (prt m k a b c)[i + 1]? = some q → p.n < q.n := by
  obtain ⟨h1, h2, h3⟩ := parts_ok ha hb hc hm hk
  refine partsV_facts h1 ?_
  unfold C.pts
  split
  · rw [List.length_map]; exact h2
  · simp

set_option maxRecDepth 100000 in
set_option maxHeartbeats 4000000 in
theorem parts_walk (a b c : C.V) (i j : Int) (hi0 : 0 ≤ i ∧ i ≤ 255) (hj0 : 0 ≤ j ∧ j ≤ 255) (w : World) :
    Calls Try.prog 5 #[.agg #[.int .u8 i, .int .u8 j], .agg #[.int .i64 a.x, .int .i64 a.y, .int .i64 a.z, .int .i64 a.w, .int .i64 a.a, .int .i64 a.b, .int .i64 a.c, .int .i64 a.d, .int .i64 b.x, .int .i64 b.y, .int .i64 b.z, .int .i64 b.w, .int .i64 b.a, .int .i64 b.b, .int .i64 b.c, .int .i64 b.d, .int .i64 c.x, .int .i64 c.y, .int .i64 c.z, .int .i64 c.w, .int .i64 c.a, .int .i64 c.b, .int .i64 c.c, .int .i64 c.d]] w fun e w' => e = .returned (.bool true) ∧ Below w.heap.size w w' := by
  have HSh := Lib.hid shown_any
  have HF := fit3_any a b c
  have oa := C.fitV_ok a
  have ob := C.fitV_ok b
  have oc := C.fitV_ok c
  generalize C.fitV a = d at *
  generalize C.fitV b = e at *
  generalize C.fitV c = f at *
  replace HF := Lib.hid HF
  obtain ⟨m, hm⟩ : ∃ m, 1 + i % 12 = m := ⟨_, rfl⟩
  obtain ⟨k, hk⟩ : ∃ k, 1 + j % 12 = k := ⟨_, rfl⟩
  have EM := Lib.hid hm
  have EK := Lib.hid hk
  have HP := Lib.hid (fun w => prt_any oa ob oc (show 1 ≤ m ∧ m ≤ 64 by omega) (show 1 ≤ k ∧ k ≤ 64 by omega) w)
  obtain ⟨hl, hg, hr⟩ := prt_facts oa ob oc (show 1 ≤ m ∧ m ≤ 64 by omega) (show 1 ≤ k ∧ k ≤ 64 by omega)
  generalize prt m k d e f = L at *
  have HG := Lib.hid hg
  have HR := Lib.hid hr
  clear oa ob oc hm hk hg hr
  go_enter Try.func5, Try.ntmps5
  go_wp2_with fail
  with_reducible refine (HSh.out _).mono ?_
  rintro e' w1 ⟨rfl, hb⟩
  have T1 := Lib.hid (show w1.heap[w.heap.size + 1]? = some (v3B a b c) from (hb.block _ (by simp)).trans (new_two _ _).2)
  have S0 : w1.cell? ⟨w.heap.size, 0, none⟩ = some (.int .u8 i) := (hb.cell (p := ⟨w.heap.size, 0, none⟩) (by simp; omega)).trans (by simp [go_sem])
  have S1 : w1.cell? ⟨w.heap.size, 1, none⟩ = some (.int .u8 j) := (hb.cell (p := ⟨w.heap.size, 1, none⟩) (by simp; omega)).trans (by simp [go_sem])
  have K1 := Lib.hid (bstep (((Below.refl w.heap.size w).alloc (Nat.le_refl _) _).alloc (by simp) _) (by simp; omega) hb)
  clear hb
  go_wp2_with (refine wp_load3 (a := a) (b := b) (c := c) (.tmp 3) rfl rfl rfl T1.out ?_)
  with_reducible refine (HF.out _).mono ?_
  rintro e' w2 ⟨rfl, hb⟩
  have K2 := Lib.hid (bstep K1.out K1.out.size hb)
  clear hb S0 S1 T1 K1
  rw [EM.out, EK.out]
  go_wp2_with fail
  with_reducible refine (HP.out _).mono ?_
  rintro e' w3 ⟨v3, rfl, ho, hb⟩
  have K3 := Lib.hid (bstep K2.out K2.out.size hb)
  obtain ⟨A3, c3, rfl, -, -, es⟩ := ho.es
  have ES := Lib.hid es
  clear hb ho es
  generalize hn : L.length = n at *
  have HN := Lib.hid hn
  clear hn
  go_wp2
  go_loopw [9] (fun i wr => ∃ t : Nat, t ≤ n ∧ i = .int .i64 t ∧ Below w3.heap.size w3 wr) (fun i _ => n - (intOf i).toNat)
  case atStart => exact ⟨0, by omega, rfl, Below.refl _ _⟩
  case round =>
    obtain ⟨t, ht, rfl, hbel⟩ := hrel
    have HB := Lib.hid hbel
    clear hbel
    by_cases hlt : t < n
    · obtain ⟨q, hq⟩ : ∃ q, L[t]? = some q := ⟨_, List.getElem?_eq_getElem (show t < L.length by rw [HN.out]; exact hlt)⟩
      obtain ⟨⟨qa, s1, s2, s3, q0⟩, q1⟩ := HG.out q (List.mem_of_getElem? hq)
      obtain ⟨b3, off3, rfl, hbB, hat⟩ := ES.out.at hq
      have hat := hat.below HB.out hbB
      have cn : wr.cell? ⟨b3, off3 + t * 22, none⟩ = some (.int .i64 q.n) := atQ_n hat
      have HT := Lib.hid (show wr.rangeAt b3 (off3 + t * 22 + 1) [.int .i64 q.a.x, .int .i64 q.a.y, .int .i64 q.a.z, .int .i64 q.a.a, .int .i64 q.a.b, .int .i64 q.a.c, .int .i64 q.a.d, .int .i64 q.b.x, .int .i64 q.b.y, .int .i64 q.b.z, .int .i64 q.b.a, .int .i64 q.b.b, .int .i64 q.b.c, .int .i64 q.b.d, .int .i64 q.c.x, .int .i64 q.c.y, .int .i64 q.c.z, .int .i64 q.c.a, .int .i64 q.c.b, .int .i64 q.c.c, .int .i64 q.c.d] from atQ_t hat)
      have hbz : b3 < wr.heap.size := by have := HB.out.size; omega
      have HA := Lib.hid (rarea_any q.a q.b q.c s1 s2 s3)
      generalize area q.a q.b q.c = s at *
      have g0 : decide (s ≤ 0) = false := by simp; omega
      have g1 : decide (q.n < 0) = false := by simp; omega
      have g2 : decide (22 < q.n) = false := by simp; omega
      have hti : (t : Int) < (n : Int) := by omega
      have hz0 : ∀ x : Grow wr, x.w.cell? ⟨b3, off3 + t * 22, none⟩ = some (.int .i64 q.n) := fun x => x.cell cn
      have ne1 := Grow.ne wr
      by_cases h0 : 0 < t
      · obtain ⟨p, hp⟩ : ∃ p, L[t - 1]? = some p := ⟨_, List.getElem?_eq_getElem (show t - 1 < L.length by rw [HN.out]; omega)⟩
        have hlt2 := HR.out (t - 1) p q hp (by rw [show t - 1 + 1 = t by omega]; exact hq)
        obtain ⟨b3', off3', e3, -, hat'⟩ := ES.out.at hp
        obtain ⟨rfl, rfl⟩ : b3 = b3' ∧ off3 = off3' := by simpa using e3
        have hat' := hat'.below HB.out hbB
        have cp : wr.cell? ⟨b3, off3 + (t - 1) * 22, none⟩ = some (.int .i64 p.n) := atQ_n hat'
        have hz1 : ∀ x : Grow wr, x.w.cell? ⟨b3, off3 + (t - 1) * 22, none⟩ = some (.int .i64 p.n) := fun x => x.cell cp
        have g3 : decide (0 < (t : Int)) = true := by simp; omega
        have g4 : decide (q.n ≤ p.n) = false := by simp; omega
        have wt : IntKind.i64.wrap ((t : Int) - 1) = (t : Int) - 1 := by rw [IntKind.wrap_i64]; omega
        have tt : ((t : Int) - 1).toNat = t - 1 := by omega
        have tl : (t : Int) - 1 < (n : Int) := by omega
        have tn : ¬ (t : Int) - 1 < 0 := by omega
        go_wp2_with fail
        refine wp_region_grow (by kernel_rfl) (by kernel_rfl) ?_
        repeat (first | go_big_quiet_skip | (refine quiet_midT (a := q.a) (b := q.b) (c := q.c) (.tmp 35) rfl rfl rfl HT.out hbz ?_; simp only [Act.put, List.setIfInBounds_toArray, List.set_cons_zero, List.set_cons_succ]) | (go_big_quiet_step (with_reducible exact Grow.calls (HA.out _))))
        refine wpQuiet_nil ?_
        rintro _ ⟨x, rfl⟩
        have BX := Lib.hid (bstep HB.out HB.out.size x.below)
        generalize x.w = w5 at *
        go_wp2
        go_roundw
        case rel => exact ⟨t + 1, by omega, by go_num, BX.out⟩
        case measure => simp [intOf]; omega
      · have g3 : decide (0 < (t : Int)) = false := by simp; omega
        go_wp2_with fail
        refine wp_region_grow (by kernel_rfl) (by kernel_rfl) ?_
        repeat (first | go_big_quiet_skip | (refine quiet_midT (a := q.a) (b := q.b) (c := q.c) (.tmp 35) rfl rfl rfl HT.out hbz ?_; simp only [Act.put, List.setIfInBounds_toArray, List.set_cons_zero, List.set_cons_succ]) | (go_big_quiet_step (with_reducible exact Grow.calls (HA.out _))))
        refine wpQuiet_nil ?_
        rintro _ ⟨x, rfl⟩
        have BX := Lib.hid (bstep HB.out HB.out.size x.below)
        generalize x.w = w5 at *
        go_wp2
        go_roundw
        case rel => exact ⟨t + 1, by omega, by go_num, BX.out⟩
        case measure => simp [intOf]; omega
    · go_wp2
      go_ret
      exact ⟨by simp; omega, bstep K3.out K3.out.size HB.out⟩
end Go.Proofs.Ytfdlfjecgefgfaa
