/-
  The walk of glazierlaw04.VecEnds.
-/
import Derived.Test.YtjnmebdjgnenoaaEndsW1
import Derived.Test.YtjnmebdjgnenoaaEndsW2
import Derived.Test.YtjnmebdjgnenoaaEndsW3
import Derived.Test.YtjnmebdjgnenoaaEndsW4
namespace Go.Proofs.Ytjnmebdjgnenoaa
open Go.RowKit
theorem ends_walk (a b : V) (n : Int) (w : World) (n0 : 0 ≤ n) (n1 : n ≤ 255) :
    Calls Try.prog 6 #[.agg #[.int .i64 a.x, .int .i64 a.y, .int .i64 a.z, .int .i64 a.w, .int .i64 a.a, .int .i64 a.b, .int .i64 a.c, .int .i64 a.d, .int .i64 b.x, .int .i64 b.y, .int .i64 b.z, .int .i64 b.w, .int .i64 b.a, .int .i64 b.b, .int .i64 b.c, .int .i64 b.d], .int .u8 n] w fun e w' => e = .returned (.bool true) ∧ Below w.heap.size w w' := by
  have h : n.tmod 5 = n % 5 := Int.tmod_eq_emod_of_nonneg n0
  rcases (show n % 5 = 0 ∨ n % 5 = 1 ∨ n % 5 = 2 ∨ n % 5 = 3 ∨ n % 5 = 4 by omega) with k | k | k | k | k
  · exact ends_walk0 a b n w n0 n1 (h.trans k)
  · exact ends_walk1 a b n w n0 n1 (h.trans k)
  · exact ends_walk2 a b n w n0 n1 (h.trans k)
  · exact ends_walk3 a b n w n0 n1 (h.trans k)
  · exact ends_walk4 a b n w n0 n1 (h.trans k)
end Go.Proofs.Ytjnmebdjgnenoaa
