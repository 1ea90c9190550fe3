/-
  ViewPixels' walk.
-/
import Derived.Test.YthehpfepklmoiaaPix
namespace Go.Proofs.Ythehpfepklmoiaa
open Go.RowKit
attribute [local go_sem ↓] Go.wp_at_zero Go.wp_at_succ

set_option maxRecDepth 100000 in
set_option maxHeartbeats 1000000 in
theorem pixels_walk (n : Int) (w : World) :
    Calls Try.prog 4 #[.int .i64 n] w fun e w' => e = .returned (.bool true) ∧ Below w.heap.size w w' := by
  have HS := Lib.hid (shown_any w)
  obtain ⟨k, hk⟩ : ∃ k, n.tmod 1099511627777 = k := ⟨_, rfl⟩
  have b0 := Int.lt_tmod_of_pos n (show (0 : Int) < 1099511627777 by decide)
  have b1 := Int.tmod_lt_of_pos n (show (0 : Int) < 1099511627777 by decide)
  rw [hk] at b0 b1
  have LS := Lib.hid (lawsmall_any n k hk)
  clear hk
  obtain ⟨p, hp⟩ : ∃ p, k / 16 = p := ⟨_, rfl⟩
  have P1 := Lib.hid (pixel_any k p (by omega) (by omega) hp)
  obtain ⟨c, hc⟩ : ∃ c, 16 * p + 8 = c := ⟨_, rfl⟩
  have C1 := Lib.hid (centre_any p c (by omega) (by omega) hc)
  obtain ⟨m, hm⟩ : ∃ c, 16 * k + 8 = c := ⟨_, rfl⟩
  have C2 := Lib.hid (centre_any k m (by omega) (by omega) hm)
  have P2 := Lib.hid (pixel_any m k (by omega) (by omega) (by omega))
  have P3 := Lib.hid (pixel_any (k + 16) (p + 1) (by omega) (by omega) (by omega))
  obtain ⟨d, hd⟩ : ∃ d, k - c = d := ⟨_, rfl⟩
  have e1 : IntKind.i64.wrap (k - c) = d := by rw [IntKind.wrap_i64]; omega
  have e2 : IntKind.i64.wrap (k + 16) = k + 16 := by rw [IntKind.wrap_i64]; omega
  have e3 : IntKind.i64.wrap (p + 1) = p + 1 := by rw [IntKind.wrap_i64]; omega
  have d0 : -8 ≤ d := by omega
  have d1 : d < 8 := by omega
  clear hp hc hm hd
  go_enter Try.func4, Try.ntmps4
  go_wp2_with fail
  with_reducible refine (HS.out).mono ?_
  rintro e w1 ⟨rfl, hb⟩
  have H1 := Lib.hid hb
  clear hb
  go_wp2_with (first
    | (go_at_call 16; with_reducible refine (LS.out _).mono ?_; rintro e w' ⟨rfl, rfl⟩)
    | (go_at_call 17; with_reducible refine (P1.out _).mono ?_; rintro e w' ⟨rfl, rfl⟩)
    | (go_at_call 17; with_reducible refine (P2.out _).mono ?_; rintro e w' ⟨rfl, rfl⟩)
    | (go_at_call 17; with_reducible refine (P3.out _).mono ?_; rintro e w' ⟨rfl, rfl⟩)
    | (go_at_call 19; with_reducible refine (C1.out _).mono ?_; rintro e w' ⟨rfl, rfl⟩)
    | (go_at_call 19; with_reducible refine (C2.out _).mono ?_; rintro e w' ⟨rfl, rfl⟩))
  go_ret
  exact ⟨rfl, H1.out⟩
end Go.Proofs.Ythehpfepklmoiaa
