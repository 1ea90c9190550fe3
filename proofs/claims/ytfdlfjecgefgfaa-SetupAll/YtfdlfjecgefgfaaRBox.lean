/-
  The contract of the reference's Box.
-/
import Derived.Test.YtfdlfjecgefgfaaBox
namespace Go.Proofs.Ytfdlfjecgefgfaa
open Go.RowKit
attribute [local go_sem ↓] Go.wp_at_zero Go.wp_at_succ

theorem lo_eq (a b c : Int) : max (min (a / 16) (min (b / 16) (c / 16))) 0 = lo a b c := by unfold lo; omega
theorem hi_eq (s a b c : Int) : min (max (a / 16) (max (b / 16) (c / 16)) + 1) s = hi s a b c := by unfold hi; omega
set_option maxRecDepth 100000 in
set_option maxHeartbeats 2000000 in
theorem rbox_any (m k : Int) (a b c : P) (ha : a.sm) (hb : b.sm) (hc : c.sm) (w : World) :
    Calls Try.prog 15 #[.int .i64 m, .int .i64 k, .agg #[.int .i64 a.x, .int .i64 a.y, .int .i64 a.z, .int .i64 a.a, .int .i64 a.b, .int .i64 a.c, .int .i64 a.d, .int .i64 b.x, .int .i64 b.y, .int .i64 b.z, .int .i64 b.a, .int .i64 b.b, .int .i64 b.c, .int .i64 b.d, .int .i64 c.x, .int .i64 c.y, .int .i64 c.z, .int .i64 c.a, .int .i64 c.b, .int .i64 c.c, .int .i64 c.d]] w fun e w' => e = .returned (.tuple #[.int .i64 (lo a.x b.x c.x), .int .i64 (lo a.y b.y c.y), .int .i64 (hi m a.x b.x c.x), .int .i64 (hi k a.y b.y c.y)]) ∧ Below w.heap.size w w' := by
  obtain ⟨⟨x0, x1⟩, ⟨x2, x3⟩⟩ := ha
  obtain ⟨⟨x4, x5⟩, ⟨x6, x7⟩⟩ := hb
  obtain ⟨⟨x8, x9⟩, ⟨x10, x11⟩⟩ := hc
  rw [← lo_eq, ← lo_eq, ← hi_eq, ← hi_eq]
  obtain ⟨pa, ea⟩ : ∃ p, a.x / 16 = p := ⟨_, rfl⟩
  obtain ⟨pb, eb⟩ : ∃ p, b.x / 16 = p := ⟨_, rfl⟩
  obtain ⟨pc, ec⟩ : ∃ p, c.x / 16 = p := ⟨_, rfl⟩
  obtain ⟨qa, fa⟩ : ∃ p, a.y / 16 = p := ⟨_, rfl⟩
  obtain ⟨qb, fb⟩ : ∃ p, b.y / 16 = p := ⟨_, rfl⟩
  obtain ⟨qc, fc⟩ : ∃ p, c.y / 16 = p := ⟨_, rfl⟩
  have H1 := Lib.hid (C.rpixel_any a.x pa (by omega) (by omega) ea)
  have H2 := Lib.hid (C.rpixel_any a.y qa (by omega) (by omega) fa)
  have H3 := Lib.hid (C.rpixel_any b.x pb (by omega) (by omega) eb)
  have H4 := Lib.hid (C.rpixel_any b.y qb (by omega) (by omega) fb)
  have H5 := Lib.hid (C.rpixel_any c.x pc (by omega) (by omega) ec)
  have H6 := Lib.hid (C.rpixel_any c.y qc (by omega) (by omega) fc)
  rw [ea, eb, ec, fa, fb, fc]
  have b1 : -10000 ≤ pa ∧ pa ≤ 10000 := by omega
  have b2 : -10000 ≤ pb ∧ pb ≤ 10000 := by omega
  have b3 : -10000 ≤ pc ∧ pc ≤ 10000 := by omega
  have b4 : -10000 ≤ qa ∧ qa ≤ 10000 := by omega
  have b5 : -10000 ≤ qb ∧ qb ≤ 10000 := by omega
  have b6 : -10000 ≤ qc ∧ qc ≤ 10000 := by omega
  have wx : IntKind.i64.wrap (max pa (max pb pc) + 1) = max pa (max pb pc) + 1 := by rw [IntKind.wrap_i64]; omega
  have wy : IntKind.i64.wrap (max qa (max qb qc) + 1) = max qa (max qb qc) + 1 := by rw [IntKind.wrap_i64]; omega
  clear ea eb ec fa fb fc x0 x1 x2 x3 x4 x5 x6 x7 x8 x9 x10 x11
  have v1 : IntKind.i64.wrap 1 = 1 := by decide
  have v2 : IntKind.i64.wrap 2 = 2 := by decide
  go_enter Try.func15, Try.ntmps15
  go_wp2_with fail
  with_reducible refine (H1.out _).mono ?_
  rintro e w1 ⟨rfl, hb⟩
  have T1 := Lib.hid (show w1.heap[w.heap.size]? = some (tB a b c) from tB_grow (new_at rfl) hb)
  have K1 := Lib.hid (bstep ((Below.refl w.heap.size w).alloc (Nat.le_refl _) _) (by simp) hb)
  clear hb
  obtain ⟨⟨c0, c1, c2, c3, c4, c5, c6⟩, ⟨c7, c8, c9, c10, c11, c12, c13⟩, ⟨c14, c15, c16, c17, c18, c19, c20⟩⟩ := tB_cell T1.out
  go_wp2_with fail
  with_reducible refine (H2.out _).mono ?_
  rintro e w2 ⟨rfl, hb⟩
  have T2 := Lib.hid (tB_grow T1.out hb)
  have K2 := Lib.hid (bstep K1.out K1.out.size hb)
  clear hb c0 c1 c2 c3 c4 c5 c6 c7 c8 c9 c10 c11 c12 c13 c14 c15 c16 c17 c18 c19 c20 T1 K1
  go_wp2
  refine wp_loop_rounds 3 ?_
  rw [rounds_succ]
  obtain ⟨⟨c0, c1, c2, c3, c4, c5, c6⟩, ⟨c7, c8, c9, c10, c11, c12, c13⟩, ⟨c14, c15, c16, c17, c18, c19, c20⟩⟩ := tB_cell T2.out
  go_wp2_with fail
  with_reducible refine (H3.out _).mono ?_
  rintro e w3 ⟨rfl, hb⟩
  have T3 := Lib.hid (tB_grow T2.out hb)
  have K3 := Lib.hid (bstep K2.out K2.out.size hb)
  clear hb c0 c1 c2 c3 c4 c5 c6 c7 c8 c9 c10 c11 c12 c13 c14 c15 c16 c17 c18 c19 c20 T2 K2
  obtain ⟨⟨c0, c1, c2, c3, c4, c5, c6⟩, ⟨c7, c8, c9, c10, c11, c12, c13⟩, ⟨c14, c15, c16, c17, c18, c19, c20⟩⟩ := tB_cell T3.out
  go_wp2_with fail
  with_reducible refine (H4.out _).mono ?_
  rintro e w4 ⟨rfl, hb⟩
  have T4 := Lib.hid (tB_grow T3.out hb)
  have K4 := Lib.hid (bstep K3.out K3.out.size hb)
  clear hb c0 c1 c2 c3 c4 c5 c6 c7 c8 c9 c10 c11 c12 c13 c14 c15 c16 c17 c18 c19 c20 T3 K3
  go_wp2
  rw [rounds_succ]
  obtain ⟨⟨c0, c1, c2, c3, c4, c5, c6⟩, ⟨c7, c8, c9, c10, c11, c12, c13⟩, ⟨c14, c15, c16, c17, c18, c19, c20⟩⟩ := tB_cell T4.out
  go_wp2_with fail
  with_reducible refine (H5.out _).mono ?_
  rintro e w5 ⟨rfl, hb⟩
  have T5 := Lib.hid (tB_grow T4.out hb)
  have K5 := Lib.hid (bstep K4.out K4.out.size hb)
  clear hb c0 c1 c2 c3 c4 c5 c6 c7 c8 c9 c10 c11 c12 c13 c14 c15 c16 c17 c18 c19 c20 T4 K4
  obtain ⟨⟨c0, c1, c2, c3, c4, c5, c6⟩, ⟨c7, c8, c9, c10, c11, c12, c13⟩, ⟨c14, c15, c16, c17, c18, c19, c20⟩⟩ := tB_cell T5.out
  go_wp2_with fail
  with_reducible refine (H6.out _).mono ?_
  rintro e w6 ⟨rfl, hb⟩
  have K6 := Lib.hid (bstep K5.out K5.out.size hb)
  clear hb c0 c1 c2 c3 c4 c5 c6 c7 c8 c9 c10 c11 c12 c13 c14 c15 c16 c17 c18 c19 c20 T5 K5
  go_wp2
  rw [rounds_succ]
  go_wp2
  refine bodyPost_ret (v := .tuple #[.int .i64 (max (min pa (min pb pc)) 0), .int .i64 (max (min qa (min qb qc)) 0), .int .i64 (min (max pa (max pb pc) + 1) m), .int .i64 (min (max qa (max qb qc) + 1) k)]) (by simp [results, Try.results15, go_sem]) rfl ⟨rfl, K6.out⟩
end Go.Proofs.Ytfdlfjecgefgfaa
