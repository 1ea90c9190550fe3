/-
  glazierlaw13.VmReckons, in plain numbers: each op by itself.
-/
import Derived.Test.YtehkcnmjkgelkaaShown
import Derived.Test.YtehkcnmjkgelkaaRValue
import Derived.Test.YtehkcnmjkgelkaaCMulNeg
namespace Go.Proofs.Ytehkcnmjkgelkaa
open Go.RowKit C

/-- The instruction of a round: its op, and how far it moves. -/
def insK (k s : Nat) : In := if k = 7 ∨ k = 8 then ⟨k + 2, 2, 0, 0, s⟩ else ⟨k + 2, 2, 0, 1, 0⟩
theorem insK_a (k s : Nat) : (insK k s).a = 0 ∧ (insK k s).d = 2 ∧ (insK k s).o = k + 2 := by unfold insK; split <;> exact ⟨rfl, rfl, rfl⟩
theorem insK_ok {k s : Nat} (hk : k < 10) (hs : s ≤ 31) : ∀ x ∈ [insK k s], x.ok := by
  intro x hx
  obtain rfl : x = insK k s := by simpa using hx
  unfold insK
  split
  · constructor <;> simp <;> omega
  · constructor <;> simp <;> omega
theorem insK_chk {k s : Nat} (hk : k < 10) (hs : s ≤ 31) : chk [insK k s] = 0 := chk_good (by simp) (by simp) fun i x h => by
  obtain ⟨rfl, rfl⟩ : i = 0 ∧ x = insK k s := by
    cases i with
    | zero => exact ⟨rfl, (by simpa using h.symm)⟩
    | succ i => simp at h
  refine decide_eq_true ?_
  have hw : k = 0 ∨ k = 1 ∨ k = 2 ∨ k = 3 ∨ k = 4 ∨ k = 5 ∨ k = 6 ∨ k = 7 ∨ k = 8 ∨ k = 9 := by omega
  rcases hw with rfl | rfl | rfl | rfl | rfl | rfl | rfl | rfl | rfl | rfl <;> simp [insK, us, ms, lo, C.hi] <;> omega
theorem insK_tex {k s : Nat} (hk : k < 10) : [insK k s].any tex = false := by
  have := (insK_a k s).2.2
  simp [tex, this]
  omega
/-- The number that a round makes. -/
def wantK (a b : Int) (k s : Nat) : Int := w32 (rck (insK k s) a (if k = 7 ∨ k = 8 then a else b))
theorem reck_runs {k s : Nat} (hk : k < 10) (hs : s ≤ 31) {a b : Int} (ha : I32 a) (hb : I32 b) :
    runQ [insK k s] noT [a, b, 0, 0, 0, 0, 0, 0] = ([a, b, wantK a b k s, 0, 0, 0, 0, 0], 1, 0) := by
  rw [runQ_ok (chkT_of (insK_chk hk hs) (.inl (insK_tex hk)))]
  have hw : [a, b, 0, 0, 0, 0, 0, 0].map w32 = [a, b, 0, 0, 0, 0, 0, 0] := by
    show [w32 a, w32 b, w32 0, w32 0, w32 0, w32 0, w32 0, w32 0] = _
    rw [w32_id ha, w32_id hb]
    rfl
  obtain ⟨h1, h2, h3⟩ := insK_a k s
  rw [hw]
  show (let r := fin [insK k s] noT 1 0 [a, b, 0, 0, 0, 0, 0, 0] 0; (r.1, r.2, (0 : Int))) = _
  rw [fin_step (x := insK k s) rfl]
  have hn : nxt (insK k s) 0 (ra (insK k s) [a, b, 0, 0, 0, 0, 0, 0]) = 1 := if_neg (by intro h; rw [h3] at h; omega)
  rw [hn, fin_end (by simp)]
  have hra : ra (insK k s) [a, b, 0, 0, 0, 0, 0, 0] = a := by unfold ra; rw [h1]; rfl
  have hrb : rb (insK k s) [a, b, 0, 0, 0, 0, 0, 0] = if k = 7 ∨ k = 8 then a else b := by
    unfold rb insK
    split <;> rfl
  rw [stepR_eq, hra, hrb, h3, if_neg (by omega), if_neg (by omega), if_neg (by omega), h2]
  rfl
theorem bits_32 (both : Bool) (a b : Int) : bits (if both then .and else .or) .i32 a b = w32 (bits (if both then .and else .or) .i64 a b) := by
  rw [bits_w32]
  have lo (n : Int) : (BitVec.ofInt 32 n).toNat = (n % 4294967296).toNat := by rw [BitVec.toNat_ofInt]; rfl
  cases both
  · show IntKind.i32.wrap ((BitVec.ofInt 32 a ||| BitVec.ofInt 32 b).toNat : Int) = w32 (((a % 4294967296).toNat ||| (b % 4294967296).toNat : Nat) : Int)
    rw [w32_eq, BitVec.toNat_or, lo, lo]
  · show IntKind.i32.wrap ((BitVec.ofInt 32 a &&& BitVec.ofInt 32 b).toNat : Int) = w32 (((a % 4294967296).toNat &&& (b % 4294967296).toNat : Nat) : Int)
    rw [w32_eq, BitVec.toNat_and, lo, lo]
/-- The ten numbers. -/
def wants (a b : Int) (s : Nat) : List Int := [w32 (a + b), w32 (a - b), w32 (a * b / 256), min a b, max a b, bits .and .i32 a b, bits .or .i32 a b, w32 (a * 2 ^ s), a / 2 ^ s, if a < b then 1 else 0]
theorem wants_at {k s : Nat} (hk : k < 10) {a b : Int} (ha : I32 a) (hb : I32 b) : (wants a b s)[k]? = some (wantK a b k s) := by
  have hw : k = 0 ∨ k = 1 ∨ k = 2 ∨ k = 3 ∨ k = 4 ∨ k = 5 ∨ k = 6 ∨ k = 7 ∨ k = 8 ∨ k = 9 := by omega
  unfold wantK wants
  rcases hw with rfl | rfl | rfl | rfl | rfl | rfl | rfl | rfl | rfl | rfl
  · rfl
  · rfl
  · rfl
  · show some (min a b) = some (w32 (min a b)); rw [w32_id (by omega)]
  · show some (max a b) = some (w32 (max a b)); rw [w32_id (by omega)]
  · show some (bits .and .i32 a b) = some (w32 (bits .and .i64 a b)); exact congrArg some (bits_32 true a b)
  · show some (bits .or .i32 a b) = some (w32 (bits .or .i64 a b)); exact congrArg some (bits_32 false a b)
  · show some (w32 (a * 2 ^ s)) = some (w32 (a * 2 ^ (s : Int).toNat)); rfl
  · show some (a / 2 ^ s) = some (w32 (a / 2 ^ s)); rw [w32_id (div_in ha)]
  · show some (if a < b then (1 : Int) else 0) = some (w32 (if a < b then 1 else 0)); split <;> rfl
theorem muldiv_256 (a b : Int) (ha : I32 a) (hb : I32 b) (w : World) :
    Calls Try.prog 19 #[.int .i64 a, .int .i64 b, .int .i64 256] w fun e w' => e = .returned (.tuple #[.int .i64 (a * b / 256), .int .i64 0]) ∧ Below w.heap.size w w' := by
  have hm : a.natAbs * b.natAbs < 9223372036854775807 := Nat.lt_of_le_of_lt (Nat.mul_le_mul (show a.natAbs ≤ 2147483648 by omega) (show b.natAbs ≤ 2147483648 by omega)) (by decide)
  by_cases h : b < 0
  · exact C.rmuldiv_neg a b 256 (by omega) (by omega) (by omega) h (by decide) (by decide) hm w
  · exact C.rmuldiv_any a b 256 (by omega) (by omega) (by omega) (by omega) (by decide) (by decide) hm w
theorem muldiv_shl (a : Int) (s : Nat) (ha : I32 a) (hs : s ≤ 31) (w : World) :
    Calls Try.prog 19 #[.int .i64 a, .int .i64 (2 ^ s), .int .i64 1] w fun e w' => e = .returned (.tuple #[.int .i64 (a * 2 ^ s), .int .i64 0]) ∧ Below w.heap.size w w' := by
  have h2 := pow_le31 hs
  have h3 : (0 : Int) ≤ 2 ^ s ∧ (2 : Int) ^ s ≤ 9223372036854775807 ∧ ((2 : Int) ^ s).natAbs ≤ 2147483648 := by
    rw [two_pow]
    generalize 2 ^ s = K at *
    omega
  have h := C.rmuldiv_any a (2 ^ s) 1 (by omega) (by omega) h3.1 h3.2.1 (by decide) (by decide) (Nat.lt_of_le_of_lt (Nat.mul_le_mul (show a.natAbs ≤ 2147483648 by omega) h3.2.2) (by decide)) w
  rw [Int.ediv_one] at h
  exact h
end Go.Proofs.Ytehkcnmjkgelkaa
