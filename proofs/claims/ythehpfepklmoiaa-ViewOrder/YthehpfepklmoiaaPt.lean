/-
  What view.Point answers of vertices that may be, on screens that may be.
-/
import Derived.Test.YthehpfepklmoiaaPix
import Derived.Test.YthehpfepklmoiaaFit
import Derived.Test.YthehpfepklmoiaaPb
namespace Go.Proofs.Ythehpfepklmoiaa
open Go.RowKit

theorem okP_fit (m k : Int) (v : V) (hv : v.ok) (hm0 : 1 ≤ m) (hm1 : m ≤ 64) (hk0 : 1 ≤ k) (hk1 : k ≤ 64) : okP m k v = true ∧ ptO m k v = pt m k v := by
  have h : okP m k v = true := by
    unfold okP scr sideB
    simp [hm0, hm1, hk0, hk1, hv.w.1]
  exact ⟨h, by unfold ptO; rw [if_pos h]⟩
theorem point_ok (m k : Int) (v : V) (hv : v.ok) (hm0 : 1 ≤ m) (hm1 : m ≤ 64) (hk0 : 1 ≤ k) (hk1 : k ≤ 64) (w : World) :
    Calls Try.prog 11 #[.int .i64 m, .int .i64 k, .agg #[.int .i64 v.x, .int .i64 v.y, .int .i64 v.z, .int .i64 v.w, .int .i64 v.a, .int .i64 v.b, .int .i64 v.c, .int .i64 v.d]] w fun e w' => e = .returned (.tuple #[.agg #[.int .i64 (pt m k v).x, .int .i64 (pt m k v).y, .int .i64 (pt m k v).z, .int .i64 (pt m k v).a, .int .i64 (pt m k v).b, .int .i64 (pt m k v).c, .int .i64 (pt m k v).d], .bool true]) ∧ Below w.heap.size w w' := by
  obtain ⟨h1, h2⟩ := okP_fit m k v hv hm0 hm1 hk0 hk1
  have h := point_any v m k w hv.sm
  rw [h1, h2] at h
  exact h
end Go.Proofs.Ythehpfepklmoiaa
