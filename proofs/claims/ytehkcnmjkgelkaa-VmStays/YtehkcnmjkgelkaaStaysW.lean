/-
  glazierlaw13.VmStays, its walk.
-/
import Derived.Test.YtehkcnmjkgelkaaStayW0
import Derived.Test.YtehkcnmjkgelkaaStayW1
import Derived.Test.YtehkcnmjkgelkaaStayW2
import Derived.Test.YtehkcnmjkgelkaaStayW3
namespace Go.Proofs.Ytehkcnmjkgelkaa
open Go.RowKit C

theorem stays_walk (l : List In) (A : Option Addr) (c : Nat) (m : List In) (B : Option Addr) (k : Nat) (r0' r1' r2' r3' r4' r5' r6' r7' : Int) (hc : l.length ≤ c) (hnil : A = none → l.length = 0) (hok : ∀ x ∈ l, x.ok) (hcm : m.length ≤ k) (hnilm : B = none → m.length = 0) (hokm : ∀ x ∈ m, x.ok)
    (w : World) (he : Es EI w w.heap.size A l) (hem : Es EI w w.heap.size B m) :
    Calls Try.prog 5 #[.slice A l.length c, .slice B m.length k, .agg #[.int .i64 r0', .int .i64 r1', .int .i64 r2', .int .i64 r3', .int .i64 r4', .int .i64 r5', .int .i64 r6', .int .i64 r7']] w fun e w' => e = .returned (.bool true) ∧ Below w.heap.size w w' := by
  by_cases h1 : 16 < l.length
  · by_cases h2 : 16 < m.length
    · exact stays_11 l A c m B k r0' r1' r2' r3' r4' r5' r6' r7' hc hnil hok hcm hnilm hokm w he hem h1 h2
    · exact stays_10 l A c m B k r0' r1' r2' r3' r4' r5' r6' r7' hc hnil hok hokm w he hem h1 h2
  · by_cases h2 : 16 < m.length
    · exact stays_01 l A c m B k r0' r1' r2' r3' r4' r5' r6' r7' hok hcm hnilm hokm w he hem h1 h2
    · exact stays_00 l A c m B k r0' r1' r2' r3' r4' r5' r6' r7' hok hokm w he hem h1 h2
end Go.Proofs.Ytehkcnmjkgelkaa
