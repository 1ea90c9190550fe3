/-
  The contracts of edge.Cross, First, Area and the reference's.
-/
import Derived.Test.YtfdlfjecgefgfaaCells
namespace Go.Proofs.Ytfdlfjecgefgfaa
open Go.RowKit
attribute [local go_sem ↓] Go.wp_at_zero Go.wp_at_succ

set_option maxHeartbeats 1000000 in
theorem cross_any (a b : P) (x y : Int) (ha : a.sm) (hb : b.sm) (hx0 : -65536 ≤ x) (hx1 : x ≤ 65536) (hy0 : -65536 ≤ y) (hy1 : y ≤ 65536) (w : World) :
    Calls Try.prog 51 #[.agg #[.int .i64 a.x, .int .i64 a.y, .int .i64 a.z, .int .i64 a.a, .int .i64 a.b, .int .i64 a.c, .int .i64 a.d], .agg #[.int .i64 b.x, .int .i64 b.y, .int .i64 b.z, .int .i64 b.a, .int .i64 b.b, .int .i64 b.c, .int .i64 b.d], .int .i64 x, .int .i64 y] w fun e w' => e = .returned (.int .i64 (crs a b x y)) ∧ Below w.heap.size w w' := by
  have HK := Lib.hid fun o o' => (((Below.refl w.heap.size w).alloc (Nat.le_refl _) o).alloc (by simp) o')
  have hp := crs_parts ha hb hx0 hx1 hy0 hy1
  obtain ⟨⟨a0, a1⟩, ⟨a2, a3⟩⟩ := ha
  obtain ⟨⟨b0, b1⟩, ⟨b2, b3⟩⟩ := hb
  have e1 : IntKind.i64.wrap (b.x - a.x) = b.x - a.x := by rw [IntKind.wrap_i64]; omega
  have e2 : IntKind.i64.wrap (y - a.y) = y - a.y := by rw [IntKind.wrap_i64]; omega
  have e3 : IntKind.i64.wrap (b.y - a.y) = b.y - a.y := by rw [IntKind.wrap_i64]; omega
  have e4 : IntKind.i64.wrap (x - a.x) = x - a.x := by rw [IntKind.wrap_i64]; omega
  obtain ⟨m, hm⟩ : ∃ m, (b.x - a.x) * (y - a.y) = m := ⟨_, rfl⟩
  obtain ⟨n, hn⟩ : ∃ n, (b.y - a.y) * (x - a.x) = n := ⟨_, rfl⟩
  rw [hm, hn] at hp
  have e5 : IntKind.i64.wrap ((b.x - a.x) * (y - a.y)) = m := by rw [hm, IntKind.wrap_i64]; omega
  have e6 : IntKind.i64.wrap ((b.y - a.y) * (x - a.x)) = n := by rw [hn, IntKind.wrap_i64]; omega
  have hc : crs a b x y = m - n := by unfold crs; rw [hm, hn]
  rw [hc]
  have e7 : IntKind.i64.wrap (m - n) = m - n := by rw [IntKind.wrap_i64]; omega
  clear hm hn hp hc a0 a1 a2 a3 b0 b1 b2 b3 hx0 hx1 hy0 hy1
  go_enter Try.func51, Try.ntmps51
  go_wp2
  go_ret
  exact ⟨rfl, HK.out _ _⟩

set_option maxHeartbeats 1000000 in
theorem rcross_any (a b : P) (x y : Int) (ha : a.sm) (hb : b.sm) (hx0 : -65536 ≤ x) (hx1 : x ≤ 65536) (hy0 : -65536 ≤ y) (hy1 : y ≤ 65536) (w : World) :
    Calls Try.prog 34 #[.agg #[.int .i64 a.x, .int .i64 a.y, .int .i64 a.z, .int .i64 a.a, .int .i64 a.b, .int .i64 a.c, .int .i64 a.d], .agg #[.int .i64 b.x, .int .i64 b.y, .int .i64 b.z, .int .i64 b.a, .int .i64 b.b, .int .i64 b.c, .int .i64 b.d], .int .i64 x, .int .i64 y] w fun e w' => e = .returned (.int .i64 (crs a b x y)) ∧ Below w.heap.size w w' := by
  have HK := Lib.hid fun o o' => (((Below.refl w.heap.size w).alloc (Nat.le_refl _) o).alloc (by simp) o')
  have hp := crs_parts ha hb hx0 hx1 hy0 hy1
  obtain ⟨⟨a0, a1⟩, ⟨a2, a3⟩⟩ := ha
  obtain ⟨⟨b0, b1⟩, ⟨b2, b3⟩⟩ := hb
  have e1 : IntKind.i64.wrap (b.x - a.x) = b.x - a.x := by rw [IntKind.wrap_i64]; omega
  have e2 : IntKind.i64.wrap (y - a.y) = y - a.y := by rw [IntKind.wrap_i64]; omega
  have e3 : IntKind.i64.wrap (b.y - a.y) = b.y - a.y := by rw [IntKind.wrap_i64]; omega
  have e4 : IntKind.i64.wrap (x - a.x) = x - a.x := by rw [IntKind.wrap_i64]; omega
  obtain ⟨m, hm⟩ : ∃ m, (b.x - a.x) * (y - a.y) = m := ⟨_, rfl⟩
  obtain ⟨n, hn⟩ : ∃ n, (b.y - a.y) * (x - a.x) = n := ⟨_, rfl⟩
  rw [hm, hn] at hp
  have e5 : IntKind.i64.wrap ((b.x - a.x) * (y - a.y)) = m := by rw [hm, IntKind.wrap_i64]; omega
  have e6 : IntKind.i64.wrap ((b.y - a.y) * (x - a.x)) = n := by rw [hn, IntKind.wrap_i64]; omega
  have hc : crs a b x y = m - n := by unfold crs; rw [hm, hn]
  rw [hc]
  have e7 : IntKind.i64.wrap (m - n) = m - n := by rw [IntKind.wrap_i64]; omega
  clear hm hn hp hc a0 a1 a2 a3 b0 b1 b2 b3 hx0 hx1 hy0 hy1
  go_enter Try.func34, Try.ntmps34
  go_wp2
  go_ret
  exact ⟨rfl, HK.out _ _⟩

set_option maxHeartbeats 1000000 in
theorem rfirst_any (a b : P) (w : World) :
    Calls Try.prog 43 #[.agg #[.int .i64 a.x, .int .i64 a.y, .int .i64 a.z, .int .i64 a.a, .int .i64 a.b, .int .i64 a.c, .int .i64 a.d], .agg #[.int .i64 b.x, .int .i64 b.y, .int .i64 b.z, .int .i64 b.a, .int .i64 b.b, .int .i64 b.c, .int .i64 b.d]] w fun e w' => e = .returned (.bool (fst a b)) ∧ Below w.heap.size w w' := by
  have HK := Lib.hid fun o o' => (((Below.refl w.heap.size w).alloc (Nat.le_refl _) o).alloc (by simp) o')
  by_cases h : b.y < a.y
  · have e : fst a b = true := by simp [fst, h]
    rw [e]
    clear e
    go_enter Try.func43, Try.ntmps43
    go_wp2
    go_ret
    exact ⟨rfl, HK.out _ _⟩
  · by_cases h' : b.y = a.y
    · by_cases h'' : a.x < b.x
      · have e : fst a b = true := by simp [fst, h', h'']
        rw [e]
        clear e
        go_enter Try.func43, Try.ntmps43
        go_wp2
        go_ret
        exact ⟨rfl, HK.out _ _⟩
      · have e : fst a b = false := by simp [fst, h', h'']
        rw [e]
        clear e
        go_enter Try.func43, Try.ntmps43
        go_wp2
        go_ret
        exact ⟨rfl, HK.out _ _⟩
    · have e : fst a b = false := by simp [fst, h, h']
      rw [e]
      clear e
      go_enter Try.func43, Try.ntmps43
      go_wp2
      go_ret
      exact ⟨rfl, HK.out _ _⟩

set_option maxHeartbeats 1000000 in
theorem area_any (a b c : P) (ha : a.sm) (hb : b.sm) (hc : c.sm) (w : World) :
    Calls Try.prog 39 #[.agg #[.int .i64 a.x, .int .i64 a.y, .int .i64 a.z, .int .i64 a.a, .int .i64 a.b, .int .i64 a.c, .int .i64 a.d, .int .i64 b.x, .int .i64 b.y, .int .i64 b.z, .int .i64 b.a, .int .i64 b.b, .int .i64 b.c, .int .i64 b.d, .int .i64 c.x, .int .i64 c.y, .int .i64 c.z, .int .i64 c.a, .int .i64 c.b, .int .i64 c.c, .int .i64 c.d]] w fun e w' => e = .returned (.int .i64 (area a b c)) ∧ Below w.heap.size w w' := by
  have HK := Lib.hid fun o => ((Below.refl w.heap.size w).alloc (Nat.le_refl _) o)
  have HC := Lib.hid (fun w => cross_any a b c.x c.y ha hb hc.x.1 hc.x.2 hc.y.1 hc.y.2 w)
  clear ha hb hc
  unfold area
  go_enter Try.func39, Try.ntmps39
  go_wp2_with fail
  with_reducible refine (HC.out _).mono ?_
  rintro e w1 ⟨rfl, hb⟩
  have K1 := Lib.hid (bstep (HK.out _) (by simp) hb)
  clear hb
  go_wp2
  go_ret
  exact ⟨rfl, K1.out⟩

set_option maxHeartbeats 1000000 in
theorem rarea_any (a b c : P) (ha : a.sm) (hb : b.sm) (hc : c.sm) (w : World) :
    Calls Try.prog 20 #[.agg #[.int .i64 a.x, .int .i64 a.y, .int .i64 a.z, .int .i64 a.a, .int .i64 a.b, .int .i64 a.c, .int .i64 a.d, .int .i64 b.x, .int .i64 b.y, .int .i64 b.z, .int .i64 b.a, .int .i64 b.b, .int .i64 b.c, .int .i64 b.d, .int .i64 c.x, .int .i64 c.y, .int .i64 c.z, .int .i64 c.a, .int .i64 c.b, .int .i64 c.c, .int .i64 c.d]] w fun e w' => e = .returned (.int .i64 (area a b c)) ∧ Below w.heap.size w w' := by
  have HK := Lib.hid fun o => ((Below.refl w.heap.size w).alloc (Nat.le_refl _) o)
  have HC := Lib.hid (fun w => rcross_any a b c.x c.y ha hb hc.x.1 hc.x.2 hc.y.1 hc.y.2 w)
  clear ha hb hc
  unfold area
  go_enter Try.func20, Try.ntmps20
  go_wp2_with fail
  with_reducible refine (HC.out _).mono ?_
  rintro e w1 ⟨rfl, hb⟩
  have K1 := Lib.hid (bstep (HK.out _) (by simp) hb)
  clear hb
  go_wp2
  go_ret
  exact ⟨rfl, K1.out⟩
end Go.Proofs.Ytfdlfjecgefgfaa
