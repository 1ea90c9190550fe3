/-
  The contract of the reference's Run, whole; what Run tells, part by part; == of registers that are the same.
-/
import Derived.Test.YtehkcnmjkgelkaaRGood
import Derived.Test.YtehkcnmjkgelkaaShown
namespace Go.Proofs.Ytehkcnmjkgelkaa
open Go.RowKit C

theorem rrun_any (l : List In) (A : Option Addr) (c : Nat) (t : Tx) (B : Option Addr) (kc : Nat) (r0 r1 r2 r3 r4 r5 r6 r7 : Int) (hok : ∀ x ∈ l, x.ok) (ht : t.ok) (hR : ∀ v ∈ [r0, r1, r2, r3, r4, r5, r6, r7], I64 v) (w : World) (he : Es EI w w.heap.size A l) (hp : Es EC w w.heap.size B t.px) :
    Calls Try.prog 12 #[.slice A l.length c, .agg #[.int .i64 t.w, .int .i64 t.h, .slice B t.px.length kc], .agg #[.int .i64 r0, .int .i64 r1, .int .i64 r2, .int .i64 r3, .int .i64 r4, .int .i64 r5, .int .i64 r6, .int .i64 r7]] w fun e w' => e = .returned (runV (runQ l t [r0, r1, r2, r3, r4, r5, r6, r7])) ∧ Below w.heap.size w w' := by
  unfold runQ
  by_cases h : chkT l t = 0
  · rw [if_pos h]
    exact rrun_good l A c t B kc r0 r1 r2 r3 r4 r5 r6 r7 hok ht hR w he hp h (chkT_ok h)
  · rw [if_neg h]
    exact rrun_bad l A c t B kc r0 r1 r2 r3 r4 r5 r6 r7 hok w he h
theorem runQ_parts (l : List In) (t : Tx) (R : List Int) (h : R.length = 8) : ∃ (a0 a1 a2 a3 a4 a5 a6 a7 : Int) (s : Nat) (e : Int), runQ l t R = ([a0, a1, a2, a3, a4, a5, a6, a7], s, e) := by
  obtain ⟨a0, a1, a2, a3, a4, a5, a6, a7, e⟩ := len8 (runQ_len (l := l) (t := t) h)
  exact ⟨a0, a1, a2, a3, a4, a5, a6, a7, (runQ l t R).2.1, (runQ l t R).2.2, by rw [← e]⟩
theorem eql8 (w : World) (a0 a1 a2 a3 a4 a5 a6 a7 : Int) : (binOp .eql 26 (.agg #[.int .i64 a0, .int .i64 a1, .int .i64 a2, .int .i64 a3, .int .i64 a4, .int .i64 a5, .int .i64 a6, .int .i64 a7]) (.agg #[.int .i64 a0, .int .i64 a1, .int .i64 a2, .int .i64 a3, .int .i64 a4, .int .i64 a5, .int .i64 a6, .int .i64 a7])).run Try.prog w = .ok (.bool true) w := by
  have h := eqlR (L := [a0, a1, a2, a3, a4, a5, a6, a7]) (M := [a0, a1, a2, a3, a4, a5, a6, a7]) rfl rfl w
  rw [beq_self_eq_true] at h
  exact h
theorem neq8 (w : World) (a0 a1 a2 a3 a4 a5 a6 a7 : Int) : (binOp .neq 26 (.agg #[.int .i64 a0, .int .i64 a1, .int .i64 a2, .int .i64 a3, .int .i64 a4, .int .i64 a5, .int .i64 a6, .int .i64 a7]) (.agg #[.int .i64 a0, .int .i64 a1, .int .i64 a2, .int .i64 a3, .int .i64 a4, .int .i64 a5, .int .i64 a6, .int .i64 a7])).run Try.prog w = .ok (.bool false) w := by
  have h := neqR (L := [a0, a1, a2, a3, a4, a5, a6, a7]) (M := [a0, a1, a2, a3, a4, a5, a6, a7]) rfl rfl w
  rw [beq_self_eq_true] at h
  exact h
end Go.Proofs.Ytehkcnmjkgelkaa
