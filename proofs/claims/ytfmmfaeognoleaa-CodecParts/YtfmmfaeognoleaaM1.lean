/-
  Plain mathematics of layer 3: numbers folded, put as bytes, and read again. No program is named here.
-/
import Derived.Below
import Derived.Test.YtfmmfaeognoleaaRows
import Derived.WalkKit
import Derived.WalkSpells
import Derived.Deep.QuietTactic
import Derived.BigQuiet
import Derived.Lib.Hide
import Derived.Laws.BitsAllLaws
import Derived.Laws.BitsLemmas
import Derived.Laws.Bits64b
import Derived.Maps.AppendAt
import Derived.RangeFuncBox
import Derived.Laws.BytesArg
import Derived.Deep.Draws
import Derived.ProofKit
import Derived.OpenShut
import Derived.ShutString
import Derived.ChangeOld
import Derived.Lib.SmallJoins
import Derived.Deep.RegionHeld3
import Derived.Deep.DrawnRows
import Derived.StillTailTactics
import Derived.Laws.CopyRow
import Derived.Laws.StructEq
import Derived.Deep.MidRow
import Derived.BigFrame
import Derived.BigRegion
import Derived.Deep.CutRange
import Derived.Deep.DeepCutAuto
namespace Go.Proofs.Ytfmmfaeognoleaa.P

def fold (n : Int) : Nat := if n < 0 then 2 * (-(n + 1)).toNat + 1 else 2 * n.toNat
def unf (u : Nat) : Int := if u % 2 = 1 then -((u / 2 : Nat) : Int) - 1 else ((u / 2 : Nat) : Int)
def In64 (n : Int) : Prop := -9223372036854775808 ≤ n ∧ n ≤ 9223372036854775807

theorem unf_fold (n : Int) : unf (fold n) = n := by
  unfold unf fold
  by_cases h : n < 0
  · rw [if_pos h, if_pos (by omega)]; omega
  · rw [if_neg h, if_neg (by omega)]; omega
theorem fold_unf (u : Nat) : fold (unf u) = u := by
  unfold unf fold
  by_cases h : u % 2 = 1
  · rw [if_pos h, if_pos (by omega)]; omega
  · rw [if_neg h, if_neg (by omega)]; omega
theorem fold_lt {n : Int} (h : In64 n) : fold n < 18446744073709551616 := by
  unfold In64 at h
  unfold fold
  split <;> omega
theorem unf_in {u : Nat} (h : u < 18446744073709551616) : In64 (unf u) := by
  unfold In64 unf
  split <;> omega

def enc (u : Nat) : List Int := if u < 128 then [(u : Int)] else ((u % 128 + 128 : Nat) : Int) :: enc (u / 128)
termination_by u
decreasing_by omega

theorem enc_lt {u : Nat} (h : u < 128) : enc u = [(u : Int)] := by rw [enc, if_pos h]
theorem enc_ge {u : Nat} (h : ¬ u < 128) : enc u = ((u % 128 + 128 : Nat) : Int) :: enc (u / 128) := by rw [enc, if_neg h]

def Byt (l : List Int) : Prop := ∀ x ∈ l, 0 ≤ x ∧ x ≤ 255
theorem Byt.nil : Byt [] := fun _ h => by simp at h
theorem Byt.app {a b : List Int} (h : Byt a) (k : Byt b) : Byt (a ++ b) := fun x hx => (List.mem_append.1 hx).elim (h x) (k x)
theorem Byt.take {a : List Int} (h : Byt a) (n : Nat) : Byt (a.take n) := fun x hx => h x (List.mem_of_mem_take hx)
theorem Byt.drop {a : List Int} (h : Byt a) (n : Nat) : Byt (a.drop n) := fun x hx => h x (List.mem_of_mem_drop hx)
theorem Byt.get {a : List Int} (h : Byt a) (n : Nat) : 0 ≤ a.getD n 0 ∧ a.getD n 0 ≤ 255 := by
  rcases Nat.lt_or_ge n a.length with hl | hl
  · rw [List.getD_eq_getElem?_getD, List.getElem?_eq_getElem hl]; exact h _ (List.getElem_mem hl)
  · rw [List.getD_eq_getElem?_getD, List.getElem?_eq_none hl]; simp

theorem enc_byt (u : Nat) : Byt (enc u) := by
  induction u using Nat.strongRecOn with
  | ind u ih =>
    by_cases h : u < 128
    · rw [enc_lt h]; intro x hx; simp at hx; omega
    · rw [enc_ge h]; intro x hx
      rcases List.mem_cons.1 hx with rfl | hx
      · omega
      · exact ih _ (by omega) x hx

theorem enc_pos (u : Nat) : 1 ≤ (enc u).length := by
  by_cases h : u < 128
  · rw [enc_lt h]; simp
  · rw [enc_ge h]; simp

theorem enc_mono : ∀ (v u : Nat), u ≤ v → (enc u).length ≤ (enc v).length := by
  intro v
  induction v using Nat.strongRecOn with
  | ind v ih =>
    intro u huv
    by_cases h : u < 128
    · rw [enc_lt h]; exact enc_pos v
    · rw [enc_ge h, enc_ge (u := v) (by omega)]
      simp only [List.length_cons]
      have := ih (v / 128) (by omega) (u / 128) (by omega)
      omega

theorem enc_len_step {u k : Nat} (h : (enc (u / 128)).length ≤ k) : (enc u).length ≤ k + 1 := by
  by_cases hu : u < 128
  · rw [enc_lt hu]; simp
  · rw [enc_ge hu]; simp; exact h

theorem enc_len10 {u : Nat} (h : u < 18446744073709551616) : (enc u).length ≤ 10 := by
  have e1 : ∀ x, x < 128 → (enc x).length ≤ 1 := fun x hx => by rw [enc_lt hx]; simp
  refine enc_len_step (enc_len_step (enc_len_step (enc_len_step (enc_len_step (enc_len_step (enc_len_step (enc_len_step (enc_len_step (e1 _ ?_)))))))))
  omega

theorem enc_one (u : Nat) : (enc u).length = 1 ↔ u < 128 := by
  constructor
  · intro h
    rcases Nat.lt_or_ge u 128 with hu | hu
    · exact hu
    · rw [enc_ge (by omega)] at h; simp only [List.length_cons] at h
      have := enc_pos (u / 128); omega
  · intro h; rw [enc_lt h]; simp

theorem enc_two (u : Nat) : (enc u).length ≤ 2 ↔ u < 16384 := by
  by_cases hu : u < 128
  · rw [enc_lt hu]; simp; omega
  · rw [enc_ge hu]; simp only [List.length_cons]
    have h1 := enc_one (u / 128)
    have h2 := enc_pos (u / 128)
    omega

/-- The bytes of an even number and of the next one: the first one is one more, the others are the same. -/
theorem enc_next (m : Nat) : ∃ (a : Int) (t : List Int), enc (2 * m) = a :: t ∧ enc (2 * m + 1) = (a + 1) :: t ∧ 0 ≤ a ∧ a + 1 ≤ 255 := by
  by_cases h : 2 * m < 128
  · exact ⟨((2 * m : Nat) : Int), [], by rw [enc_lt h], by rw [enc_lt (by omega)]; simp, by omega, by omega⟩
  · refine ⟨((2 * m % 128 + 128 : Nat) : Int), enc (2 * m / 128), by rw [enc_ge h], ?_, by omega, by omega⟩
    rw [enc_ge (by omega), show (2 * m + 1) / 128 = 2 * m / 128 by omega]
    congr 1
    omega

def scan : Nat → Nat → List Int → Int × Nat
  | _, _, [] => (0, 0)
  | i, u, p :: r => if 10 ≤ i then (0, 0) else if 128 ≤ p then scan (i + 1) (u + (p.toNat % 128) * 128 ^ i) r else
      if (0 < i ∧ p = 0) ∨ (i = 9 ∧ 1 < p) then (0, 0) else (unf (u + p.toNat * 128 ^ i), i + 1)
def first (b : List Int) : Int × Nat := scan 0 0 b

theorem scan_ten (i u : Nat) (h : 10 ≤ i) : ∀ l, scan i u l = (0, 0)
  | [] => rfl
  | p :: r => by rw [scan, if_pos h]
theorem scan_more {i u : Nat} {p : Int} {r : List Int} (h : i < 10) (hp : 128 ≤ p) : scan i u (p :: r) = scan (i + 1) (u + (p.toNat % 128) * 128 ^ i) r := by
  rw [scan, if_neg (by omega), if_pos hp]
theorem scan_bad {i u : Nat} {p : Int} {r : List Int} (h : i < 10) (hp : p < 128) (hb : (0 < i ∧ p = 0) ∨ (i = 9 ∧ 1 < p)) : scan i u (p :: r) = (0, 0) := by
  rw [scan, if_neg (by omega), if_neg (by omega), if_pos hb]
theorem scan_good {i u : Nat} {p : Int} {r : List Int} (h : i < 10) (hp : p < 128) (hb : ¬ ((0 < i ∧ p = 0) ∨ (i = 9 ∧ 1 < p))) : scan i u (p :: r) = (unf (u + p.toNat * 128 ^ i), i + 1) := by
  rw [scan, if_neg (by omega), if_neg (by omega), if_neg hb]

theorem pow_parts (k : Nat) : 128 ^ (k + 1) = 128 ^ k * 128 := Nat.pow_succ ..

theorem ten_cases {k : Nat} (h : k < 10) : k = 0 ∨ k = 1 ∨ k = 2 ∨ k = 3 ∨ k = 4 ∨ k = 5 ∨ k = 6 ∨ k = 7 ∨ k = 8 ∨ k = 9 := by omega

theorem step_lt {q x A R T : Nat} (hq : q < 128) (hA : 0 < A) (hR : R * (A * 128) = T) (h : x * (A * 128) < T) : (q + 128 * x) * A < T := by
  subst hR
  have hx : x < R := Nat.lt_of_mul_lt_mul_right h
  have h1 : q + 128 * x < R * 128 := by omega
  have h2 := Nat.mul_lt_mul_of_pos_right h1 hA
  rwa [Nat.mul_assoc, Nat.mul_comm 128 A] at h2

theorem step_lt9 {q x k : Nat} (hq : q < 128) (hk : k + 1 < 10) (h : x * 128 ^ (k + 1) < 18446744073709551616) : (q + 128 * x) * 128 ^ k < 18446744073709551616 := by
  rw [pow_parts] at h
  refine step_lt (R := 2 ^ 64 / 128 ^ (k + 1)) hq (Nat.pow_pos (by decide)) ?_ h
  rcases ten_cases (k := k) (by omega) with rfl | rfl | rfl | rfl | rfl | rfl | rfl | rfl | rfl | rfl
  all_goals first | decide | omega

/-- x * 128 ^ k is of 64 bits: at the tenth part x is 0 or 1. -/
theorem last_small {x : Nat} (h : x * 128 ^ 9 < 18446744073709551616) : x ≤ 1 := by
  simp at h; omega

theorem scan_enc : ∀ (x k u : Nat) (r : List Int), k < 10 → x * 128 ^ k < 18446744073709551616 → (k = 0 ∨ 0 < x) →
    scan k u (enc x ++ r) = (unf (u + x * 128 ^ k), k + (enc x).length) := by
  intro x
  induction x using Nat.strongRecOn with
  | ind x ih =>
    intro k u r hk hx h0
    by_cases h : x < 128
    · rw [enc_lt h]
      show scan k u ((x : Int) :: r) = _
      rw [scan_good hk (by omega) ?_]
      · simp
      · rintro (⟨h1, h2⟩ | ⟨h1, h2⟩)
        · omega
        · subst h1; have := last_small hx; omega
    · rw [enc_ge h]
      have hk9 : k ≠ 9 := by rintro rfl; have := last_small hx; omega
      have e1 : x * 128 ^ k = x % 128 * 128 ^ k + x / 128 * 128 ^ (k + 1) := by
        rw [pow_parts, Nat.mul_comm (128 ^ k) 128, ← Nat.mul_assoc, ← Nat.add_mul]
        congr 1; omega
      show scan k u (((x % 128 + 128 : Nat) : Int) :: (enc (x / 128) ++ r)) = _
      rw [scan_more hk (by omega), ih (x / 128) (by omega) (k + 1) _ r (by omega) (by omega) (by omega)]
      rw [show ((x % 128 + 128 : Nat) : Int).toNat % 128 = x % 128 by omega]
      refine Prod.ext ?_ ?_
      · show unf _ = unf _
        congr 1; omega
      · simp only [List.length_cons]; omega

theorem scan_inv : ∀ (l : List Int) (k u : Nat) (n : Int) (s : Nat), Byt l → scan k u l = (n, s) → s ≠ 0 →
    k < 10 ∧ ∃ x r, l = enc x ++ r ∧ s = k + (enc x).length ∧ n = unf (u + x * 128 ^ k) ∧ x * 128 ^ k < 18446744073709551616 ∧ (k = 0 ∨ 0 < x) := by
  intro l
  induction l with
  | nil => intro k u n s _ h hs; simp [scan] at h; omega
  | cons p r ih =>
    intro k u n s hb h hs
    have hp := hb p (by simp)
    by_cases hk : 10 ≤ k
    · rw [scan_ten _ _ hk] at h; simp at h; omega
    by_cases hp128 : 128 ≤ p
    · rw [scan_more (by omega) hp128] at h
      obtain ⟨hk1, x, r', hl, hs', hn, hx, h0⟩ := ih (k + 1) _ n s (fun y hy => hb y (List.mem_cons_of_mem _ hy)) h hs
      have hx0 : 0 < x := by omega
      refine ⟨by omega, p.toNat % 128 + 128 * x, r', ?_, ?_, ?_, ?_, by omega⟩
      · rw [enc_ge (by omega), show (p.toNat % 128 + 128 * x) / 128 = x by omega, hl]
        show p :: (enc x ++ r') = ((_ : Nat) : Int) :: (enc x ++ r')
        congr 1; omega
      · rw [enc_ge (by omega), show (p.toNat % 128 + 128 * x) / 128 = x by omega, hs']
        simp only [List.length_cons]; omega
      · rw [hn]
        congr 1
        rw [Nat.add_mul, pow_parts, Nat.mul_comm 128 x, Nat.mul_assoc, Nat.mul_comm 128 (128 ^ k)]; omega
      · clear ih h hn hl hs' hb
        have hq : p.toNat % 128 < 128 := by omega
        generalize p.toNat % 128 = q at hq ⊢
        exact step_lt9 hq hk1 hx
    · by_cases hbad : (0 < k ∧ p = 0) ∨ (k = 9 ∧ 1 < p)
      · rw [scan_bad (by omega) (by omega) hbad] at h; simp at h; omega
      · rw [scan_good (by omega) (by omega) hbad] at h
        simp only [Prod.mk.injEq] at h
        obtain ⟨hn, hs'⟩ := h
        refine ⟨by omega, p.toNat, r, ?_, ?_, hn.symm, ?_, by omega⟩
        · rw [enc_lt (by omega)]
          show p :: r = ((p.toNat : Nat) : Int) :: r
          congr 1; omega
        · rw [enc_lt (by omega)]; simp; omega
        · rcases ten_cases (k := k) (by omega) with rfl | rfl | rfl | rfl | rfl | rfl | rfl | rfl | rfl | rfl <;> simp only [Nat.reducePow] <;> omega

/-- What was put is read, and nothing behind it. -/
theorem first_put {n : Int} (h : In64 n) (r : List Int) : first (enc (fold n) ++ r) = (n, (enc (fold n)).length) := by
  unfold first
  rw [scan_enc _ 0 0 r (by decide) (by simpa using fold_lt h) (.inl rfl)]
  simp [unf_fold]

/-- What is read was put. -/
theorem first_inv {b : List Int} {n : Int} {s : Nat} (hb : Byt b) (h : first b = (n, s)) (hs : s ≠ 0) :
    In64 n ∧ s = (enc (fold n)).length ∧ b = enc (fold n) ++ b.drop s ∧ s ≤ b.length ∧ 1 ≤ s ∧ s ≤ 10 := by
  obtain ⟨_, x, r, hl, hs', hn, hx, _⟩ := scan_inv b 0 0 n s hb h hs
  simp at hs' hn hx
  have hf : fold n = x := by rw [hn, fold_unf]
  have hin : In64 n := by rw [hn]; exact unf_in hx
  have hd : b.drop s = r := by rw [hl, hs']; simp
  have hlen : s ≤ b.length := by rw [hl, hs']; simp
  have := enc_pos x
  have := enc_len10 hx
  exact ⟨hin, by rw [hf, hs'], by rw [hd, hf]; exact hl, hlen, by omega, by omega⟩

theorem scan_zero : ∀ (l : List Int) (k u : Nat) (n : Int), scan k u l = (n, 0) → n = 0 := by
  intro l
  induction l with
  | nil => intro k u n h; simp [scan] at h; exact h.symm
  | cons p r ih =>
    intro k u n h
    by_cases hk : 10 ≤ k
    · rw [scan_ten _ _ hk] at h; simp at h; exact h.symm
    by_cases hp128 : 128 ≤ p
    · rw [scan_more (by omega) hp128] at h; exact ih _ _ _ h
    · by_cases hbad : (0 < k ∧ p = 0) ∨ (k = 9 ∧ 1 < p)
      · rw [scan_bad (by omega) (by omega) hbad] at h; simp at h; exact h.symm
      · rw [scan_good (by omega) (by omega) hbad] at h
        simp at h

theorem first_zero {b : List Int} {n : Int} (h : first b = (n, 0)) : n = 0 := scan_zero b 0 0 n h

/-- All numbers put, one behind the other. -/
def put (l : List Int) : List Int := l.flatMap fun n => enc (fold n)
theorem put_nil : put [] = [] := rfl
theorem put_cons (n : Int) (l : List Int) : put (n :: l) = enc (fold n) ++ put l := rfl
theorem put_app (a b : List Int) : put (a ++ b) = put a ++ put b := by simp [put]
theorem put_snoc (a : List Int) (n : Int) : put (a ++ [n]) = put a ++ enc (fold n) := by simp [put]
theorem put_byt (l : List Int) : Byt (put l) := by
  induction l with
  | nil => exact Byt.nil
  | cons n l ih => rw [put_cons]; exact (enc_byt _).app ih
def Ins (l : List Int) : Prop := ∀ n ∈ l, In64 n
theorem Ins.take {l : List Int} (h : Ins l) (k : Nat) : Ins (l.take k) := fun n hn => h n (List.mem_of_mem_take hn)
theorem Ins.app {a b : List Int} (h : Ins a) (k : Ins b) : Ins (a ++ b) := fun x hx => (List.mem_append.1 hx).elim (h x) (k x)
theorem Ins.get {l : List Int} (h : Ins l) (k : Nat) : In64 (l.getD k 0) := by
  rcases Nat.lt_or_ge k l.length with hl | hl
  · rw [List.getD_eq_getElem?_getD, List.getElem?_eq_getElem hl]; exact h _ (List.getElem_mem hl)
  · rw [List.getD_eq_getElem?_getD, List.getElem?_eq_none hl]; unfold In64; simp
theorem put_len {l : List Int} (h : Ins l) : l.length ≤ (put l).length ∧ (put l).length ≤ 10 * l.length := by
  induction l with
  | nil => simp [put]
  | cons n l ih =>
    have h1 := ih fun x hx => h x (List.mem_cons_of_mem _ hx)
    have h2 := enc_pos (fold n)
    have h3 := enc_len10 (fold_lt (h n (by simp)))
    rw [put_cons]; simp only [List.length_append, List.length_cons]; omega

/-- The numbers with which bytes begin, each with true; then, if bytes are left, 0 with false. -/
def seq (b : List Int) : List (Int × Bool) :=
  if b = [] then [] else if (first b).2 = 0 then [(0, false)] else if _h : (first b).2 ≤ b.length then ((first b).1, true) :: seq (b.drop (first b).2) else []
termination_by b.length
decreasing_by simp only [List.length_drop]; omega

theorem seq_nil : seq [] = [] := by rw [seq, if_pos rfl]
theorem seq_bad {b : List Int} {n : Int} (hb : b ≠ []) (h : first b = (n, 0)) : seq b = [(0, false)] := by rw [seq, if_neg hb, if_pos (by rw [h])]
theorem seq_good {b : List Int} {n : Int} {s : Nat} (hb : Byt b) (h : first b = (n, s)) (hs : s ≠ 0) : seq b = (n, true) :: seq (b.drop s) := by
  obtain ⟨_, _, _, hl, h1, _⟩ := first_inv hb h hs
  have hne : b ≠ [] := by rintro rfl; simp at hl; omega
  rw [seq, if_neg hne, if_neg (by rw [h]; exact hs), dif_pos (by rw [h]; exact hl), h]

theorem seq_put {l : List Int} (h : Ins l) (r : List Int) : seq (put l ++ r) = l.map (fun n => (n, true)) ++ seq r := by
  induction l with
  | nil => simp [put]
  | cons n l ih =>
    have hn := h n (by simp)
    have hp := enc_pos (fold n)
    rw [put_cons, List.append_assoc]
    have hf := first_put hn (put l ++ r)
    have hne : enc (fold n) ++ (put l ++ r) ≠ [] := by intro e; have := congrArg List.length e; simp only [List.length_append, List.length_nil] at this; omega
    rw [seq, if_neg hne, if_neg (by rw [hf]; show ¬ (enc (fold n)).length = 0; omega), dif_pos (by rw [hf]; simp), hf]
    simp [ih fun x hx => h x (List.mem_cons_of_mem _ hx)]

def nums (q : List (Int × Bool)) : List Int := (q.filter (·.2)).map (·.1)
def flag (q : List (Int × Bool)) : Bool := q.any fun x => !x.2
theorem nums_snoc_t (q : List (Int × Bool)) (n : Int) : nums (q ++ [(n, true)]) = nums q ++ [n] := by simp [nums]
theorem nums_snoc_f (q : List (Int × Bool)) (n : Int) : nums (q ++ [(n, false)]) = nums q := by simp [nums]
theorem flag_snoc_t (q : List (Int × Bool)) (n : Int) : flag (q ++ [(n, true)]) = flag q := by simp [flag]
theorem flag_snoc_f (q : List (Int × Bool)) (n : Int) : flag (q ++ [(n, false)]) = true := by simp [flag]
theorem nums_le (q : List (Int × Bool)) : (nums q).length ≤ q.length := by unfold nums; rw [List.length_map]; exact List.length_filter_le _ _

theorem seq_len : ∀ (k : Nat) (b : List Int), b.length ≤ k → Byt b → (seq b).length ≤ b.length ∧ Ins (nums (seq b)) ∧
    (∃ (q : List Int) (t : List (Int × Bool)), seq b = q.map (fun n => (n, true)) ++ t ∧ (t = [] ∨ t = [(0, false)])) := by
  intro k
  induction k with
  | zero =>
    intro b hb _
    have : b = [] := List.eq_nil_of_length_eq_zero (by omega)
    subst this; rw [seq_nil]; exact ⟨by simp, fun _ h => by simp [nums] at h, [], [], rfl, .inl rfl⟩
  | succ k ih =>
    intro b hbk hb
    by_cases hne : b = []
    · subst hne; rw [seq_nil]; exact ⟨by simp, fun _ h => by simp [nums] at h, [], [], rfl, .inl rfl⟩
    have hl0 : 0 < b.length := List.length_pos_iff.2 hne
    obtain ⟨n, s, hf⟩ : ∃ n s, first b = (n, s) := ⟨_, _, rfl⟩
    by_cases hs : s = 0
    · subst hs; rw [seq_bad hne hf]; exact ⟨by simp; omega, fun _ h => by simp [nums] at h, [], [(0, false)], rfl, .inr rfl⟩
    · obtain ⟨hin, _, _, hl, h1, _⟩ := first_inv hb hf hs
      obtain ⟨ha, hc, q, t, hq, ht⟩ := ih (b.drop s) (by rw [List.length_drop]; omega) (hb.drop s)
      rw [seq_good hb hf hs]
      refine ⟨by rw [List.length_drop] at ha; simp only [List.length_cons]; omega, ?_, n :: q, t, by rw [hq]; rfl, ht⟩
      intro x hx
      rw [show nums ((n, true) :: seq (b.drop s)) = n :: nums (seq (b.drop s)) by simp [nums]] at hx
      rcases List.mem_cons.1 hx with rfl | hx
      · exact hin
      · exact hc x hx

end Go.Proofs.Ytfmmfaeognoleaa.P
/-
  The contracts of the small functions of package wire, at this seat's translation.
-/
namespace Go.Proofs.Ytfmmfaeognoleaa.P
open Go.RowKit

theorem ret_int {k : IntKind} {a b : Int} (h : a = b) : Ending.returned (.int k a) = .returned (.int k b) := by rw [h]

theorem folded_any (n : Int) (w : World) (h0 : -9223372036854775808 ≤ n) (h1 : n ≤ 9223372036854775807) :
    Calls Try.prog 85 #[.int .i64 n] w fun e w' => e = .returned (.int .u64 (fold n : Nat)) ∧ w = w' := by
  by_cases h : n < 0
  · go_enter Try.func85, Try.ntmps85
    go_wp2
    go_ret
    exact ⟨ret_int (by unfold fold; rw [if_pos h]; omega), rfl⟩
  · go_enter Try.func85, Try.ntmps85
    go_wp2
    go_ret
    exact ⟨ret_int (by unfold fold; rw [if_neg (by omega)]; omega), rfl⟩

theorem unfolded_any (u : Nat) (w : World) (h : u < 18446744073709551616) :
    Calls Try.prog 105 #[.int .u64 (u : Int)] w fun e w' => e = .returned (.int .i64 (unf u)) ∧ w = w' := by
  by_cases hu : u % 2 = 1
  · go_enter Try.func105, Try.ntmps105
    go_wp2
    go_ret
    exact ⟨ret_int (by unfold unf; rw [if_pos hu]; omega), rfl⟩
  · go_enter Try.func105, Try.ntmps105
    go_wp2
    go_ret
    exact ⟨ret_int (by unfold unf; rw [if_neg hu]; omega), rfl⟩

def Sl (k : IntKind) (w : World) (B : Nat) (A : Option Addr) (xs : List Int) : Prop :=
  xs ≠ [] → ∃ b off, A = some ⟨b, off, none⟩ ∧ b < B ∧ ∀ j, j < xs.length → w.cell? ⟨b, off + j, none⟩ = some (.int k (xs.getD j 0))

theorem Sl.at {k : IntKind} {w : World} {B : Nat} {A : Option Addr} {xs : List Int} (h : Sl k w B A xs) {j : Nat} (hj : j < xs.length) :
    ∃ b off, A = some ⟨b, off, none⟩ ∧ b < B ∧ w.cell? ⟨b, off + j, none⟩ = some (.int k (xs.getD j 0)) := by
  obtain ⟨b, off, e, hb, hc⟩ := h (by rintro rfl; simp at hj)
  exact ⟨b, off, e, hb, hc j hj⟩

theorem pow_128 (k : Nat) : 2 ^ (7 * k) = 128 ^ k := by rw [Nat.pow_mul]

theorem or_parts (v q k : Nat) (hv : v < 18446744073709551616) :
    ∃ z : Nat, bits BinOp.or .u64 (v : Int) (IntKind.u64.wrap ((q : Int) * 2 ^ (7 * k))) = (z : Int) ∧ z < 18446744073709551616 ∧ (v < 128 ^ k → q * 128 ^ k < 18446744073709551616 → z = v + q * 128 ^ k) := by
  have e : IntKind.u64.wrap ((q : Int) * 2 ^ (7 * k)) = ((q * 128 ^ k % 18446744073709551616 : Nat) : Int) := by
    rw [IntKind.wrap_u64, ← pow_128, Int.natCast_emod, Int.natCast_mul, Int.natCast_pow]
    rfl
  rw [e]
  have hlt : q * 128 ^ k % 18446744073709551616 < 18446744073709551616 := Nat.mod_lt _ (by decide)
  refine ⟨v ||| (q * 128 ^ k % 18446744073709551616), bits_or_u64_nat _ _ hv hlt, Nat.or_lt_two_pow (n := 64) hv hlt, fun h1 h2 => ?_⟩
  rw [Nat.mod_eq_of_lt h2, ← pow_128, Nat.or_comm, Nat.mul_comm q, ← Nat.two_pow_add_eq_or_of_lt (by rw [pow_128]; exact h1)]
  omega

theorem drop_at {xs : List Int} {k : Nat} {p : Int} (hk : k < xs.length) (hp : xs.getD k 0 = p) : xs.drop k = p :: xs.drop (k + 1) := by
  rw [List.drop_eq_getElem_cons hk, ← hp, List.getD_eq_getElem?_getD, List.getElem?_eq_getElem hk]; rfl

theorem ret_pair {q : Int × Nat} {a b : Int} {s : Nat} (h : q = (a, s)) (hb : b = (s : Int)) : Ending.returned (.tuple #[.int .i64 a, .int .i64 b]) = .returned (.tuple #[.int .i64 q.1, .int .i64 (q.2 : Nat)]) := by rw [h, hb]

theorem small_part {p : Int} {k : Nat} (h0 : 0 ≤ p) (h1 : p < 128) (hk : k < 10) (hl : k = 9 → p ≤ 1) : p.toNat * 128 ^ k < 18446744073709551616 := by
  rcases ten_cases hk with rfl | rfl | rfl | rfl | rfl | rfl | rfl | rfl | rfl | rfl <;> simp only [Nat.reducePow] <;> omega
theorem small_sum {v q k : Nat} (hv : v < 128 ^ k) (hq : q < 128) : v + q * 128 ^ k < 128 ^ (k + 1) := by
  rw [pow_parts, Nat.mul_comm (128 ^ k) 128]
  have := Nat.mul_le_mul_right (128 ^ k) (show q + 1 ≤ 128 by omega)
  rw [Nat.add_mul] at this; omega
theorem small_more {q k : Nat} (hq : q < 128) (hk : k < 9) : q * 128 ^ k < 18446744073709551616 := by
  rcases ten_cases (k := k) (by omega) with rfl | rfl | rfl | rfl | rfl | rfl | rfl | rfl | rfl | rfl <;> simp only [Nat.reducePow] <;> omega

/-- What the loop of first knows at its k-th part. -/
def At (xs : List Int) (k v : Nat) : Prop := (k ≤ 9 → v < 128 ^ k) ∧ first xs = scan k v (xs.drop k)
theorem At.start (xs : List Int) : At xs 0 0 := ⟨fun _ => by decide, rfl⟩
theorem At.more {xs : List Int} {k v z : Nat} {p : Int} (h : At xs k v) (hk : k < 10) (hl : k < xs.length) (hp : xs.getD k 0 = p) (h1 : p ≤ 255) (h2 : 128 ≤ p)
    (hz : v < 128 ^ k → (p % 128).toNat * 128 ^ k < 18446744073709551616 → z = v + (p % 128).toNat * 128 ^ k) : At xs (k + 1) z := by
  obtain ⟨ha, hb⟩ := h
  have hpp : (p % 128).toNat = p.toNat % 128 := by omega
  rw [hpp] at hz
  rw [drop_at hl hp, scan_more hk h2] at hb
  by_cases h9 : k = 9
  · subst h9
    exact ⟨fun h => by omega, by rw [hb, scan_ten _ _ (by omega), scan_ten _ _ (by omega)]⟩
  · have e := hz (ha (by omega)) (small_more (by omega) (by omega))
    refine ⟨fun _ => ?_, by rw [hb, e]⟩
    rw [e]; exact small_sum (ha (by omega)) (by omega)
theorem At.bad {xs : List Int} {k v : Nat} {p : Int} (h : At xs k v) (hk : k < 10) (hl : k < xs.length) (hp : xs.getD k 0 = p) (h1 : p < 128) (h2 : (0 < k ∧ p = 0) ∨ (k = 9 ∧ 1 < p)) : first xs = (0, 0) := by
  rw [h.2, drop_at hl hp, scan_bad hk h1 h2]
theorem At.good {xs : List Int} {k v z : Nat} {p : Int} (h : At xs k v) (hk : k < 10) (hl : k < xs.length) (hp : xs.getD k 0 = p) (h0 : 0 ≤ p) (h1 : p < 128) (h2 : ¬ ((0 < k ∧ p = 0) ∨ (k = 9 ∧ 1 < p)))
    (hz : v < 128 ^ k → (p % 128).toNat * 128 ^ k < 18446744073709551616 → z = v + (p % 128).toNat * 128 ^ k) : first xs = (unf z, k + 1) := by
  have hpp : (p % 128).toNat = p.toNat := by omega
  rw [hpp] at hz
  rw [h.2, drop_at hl hp, scan_good hk h1 h2, hz (h.1 (by omega)) (small_part h0 h1 hk (by omega))]
theorem At.ends {xs : List Int} {k v : Nat} (h : At xs k v) (hk : 10 ≤ k ∨ xs.length ≤ k) : first xs = (0, 0) := by
  rw [h.2]
  rcases hk with hk | hk
  · exact scan_ten _ _ hk _
  · rw [List.drop_eq_nil_of_le hk]; rfl

set_option maxHeartbeats 1000000 in
theorem first_any (A : Option Addr) (c : Nat) (xs : List Int) (B : Nat) (w : World) (hs : Sl .u8 w B A xs) (hb : Byt xs) (hc : xs.length ≤ c) (hm : xs.length ≤ 9223372036854775807) :
    Calls Try.prog 87 #[.slice A xs.length c] w fun e w' => e = .returned (.tuple #[.int .i64 (first xs).1, .int .i64 ((first xs).2 : Nat)]) ∧ w = w' := by
  have HS := Lib.hid hs
  have HB := Lib.hid hb
  clear hs hb
  rcases Nat.lt_or_ge 10 xs.length with hbig | hsmall
  all_goals
    go_enter Try.func87, Try.ntmps87
    go_wp2
    go_loop [4, 13] (fun u i => ∃ k v : Nat, k ≤ 10 ∧ k ≤ xs.length ∧ v < 18446744073709551616 ∧ i = .int .i64 k ∧ u = .int .u64 v ∧ At xs k v) (fun _ i => 10 - (intOf i).toNat)
    case atStart => exact ⟨0, 0, by omega, by omega, by decide, rfl, rfl, At.start xs⟩
    case round =>
      obtain ⟨k, v, hk, hkl, hv, rfl, rfl, hAt⟩ := hrel
      have HA := Lib.hid hAt
      clear hAt
      by_cases hlt : k < 10 ∧ k < xs.length
      · obtain ⟨hlt, hlx⟩ := hlt
        obtain ⟨b, off, rfl, _, hcell⟩ := HS.out.at (j := k) (by omega)
        have hpb := HB.out.get k
        generalize hp : xs.getD k 0 = p at hcell hpb
        obtain ⟨hp0, hp1⟩ := hpb
        have HP := Lib.hid hp
        clear hp
        obtain ⟨z, hor, hz, hzz⟩ := or_parts v (p % 128).toNat k hv
        rw [show (((p % 128).toNat : Nat) : Int) = p % 128 by omega] at hor
        have HZ := Lib.hid hzz
        clear hzz
        go_wp2_with (go_at_call 105; refine (unfolded_any _ _ (by omega)).mono ?_; rintro e w' ⟨rfl, rfl⟩)
        all_goals first
          | (go_round
             case rel => exact ⟨k + 1, z, by omega, by omega, hz, by go_num, rfl, HA.out.more hlt hlx HP.out hp1 (by omega) HZ.out⟩
             case measure => simp [intOf]; omega)
          | (go_ret2; exact ⟨ret_pair (HA.out.bad hlt hlx HP.out (by omega) (by omega)) (by simp), rfl⟩)
          | (go_ret2; exact ⟨ret_pair (HA.out.good hlt hlx HP.out hp0 (by omega) (by omega) HZ.out) (by omega), rfl⟩)
          | (have hd : p = 0 ∨ 1 < p := by simpa using ‹(p == 0) = true ∨ 1 < p›
             go_ret2; exact ⟨ret_pair (HA.out.bad hlt hlx HP.out (by omega) (by omega)) (by simp), rfl⟩)
      · go_wp2
        go_ret2
        exact ⟨ret_pair (HA.out.ends (by omega)) (by simp), rfl⟩
end Go.Proofs.Ytfmmfaeognoleaa.P
/-
  wire.putOne and wire.Put, at this seat's translation.
-/
namespace Go.Proofs.Ytfmmfaeognoleaa.P
open Go.RowKit

theorem Try.info5 : (Try.prog.info? 5).map (fun i => (i.zero, i.size, i.bytes)) = some (some (.int .u8 0), 1, 1) := by kernel_rfl
theorem Try.info3 : (Try.prog.info? 3).map (fun i => (i.zero, i.size, i.bytes)) = some (some (.int .i64 0), 1, 8) := by kernel_rfl

def OwnS (t : TypeId) (k : IntKind) (w : World) (base : Nat) (v : Value) (xs : List Int) : Prop := w.ownsRow base t 1 v xs.length (xs.map (Value.int k))

theorem OwnS.row {t : TypeId} {k : IntKind} {w : World} {base : Nat} {v : Value} {xs : List Int} (h : OwnS t k w base v xs) : w.ownsRow base t 1 v xs.length (xs.map (Value.int k)) := h

theorem OwnS.sl {t : TypeId} {k : IntKind} {w : World} {base : Nat} {v : Value} {xs : List Int} (h : OwnS t k w base v xs) :
    ∃ A c, v = .slice A xs.length c ∧ xs.length ≤ c ∧ c ≤ 9223372036854775807 ∧ Sl k w w.heap.size A xs := by
  obtain ⟨hl, ⟨rfl, h0⟩ | ⟨g, cap, cur, rfl, _, hh, hc, hm, _, ht⟩⟩ := h
  · have : xs = [] := List.eq_nil_of_length_eq_zero h0
    subst this
    exact ⟨none, 0, rfl, Nat.le_refl _, by decide, fun h => absurd rfl h⟩
  · refine ⟨some ⟨g, 0, none⟩, cap, rfl, hc, by unfold maxLen at hm; exact hm, fun _ => ⟨g, 0, rfl, (Array.getElem?_eq_some_iff.1 hh).1, fun j hj => ?_⟩⟩
    rw [cell_of_row w g (0 + j) cur t (0, 0) hh, Nat.zero_add]
    have e : (cur.toList.take (xs.length * 1))[j]? = (xs.map (Value.int k))[j]? := by rw [ht]
    rw [List.getElem?_take_of_lt (by omega), Array.getElem?_toList] at e
    rw [e, List.getElem?_map, List.getElem?_eq_getElem hj, List.getD_eq_getElem?_getD, List.getElem?_eq_getElem hj]
    rfl

theorem OwnS.nil (t : TypeId) (k : IntKind) (w : World) (base : Nat) : OwnS t k w base (.slice none 0 0) [] := World.ownsRow_nil _ _ _ _

theorem own_ge {w : World} {base size : Nat} {t : TypeId} {v : Value} {n : Nat} {xs : List Value} (h : w.ownsRow base t size v n xs) : ∀ j, v.ownBlock = some j → base ≤ j := by
  intro j ej
  rcases h.2 with ⟨rfl, _⟩ | ⟨g, cap, cur, rfl, hb, _, _⟩
  · simp [Value.ownBlock] at ej
  · obtain rfl : g = j := by simpa [Value.ownBlock] using ej
    exact hb

theorem OwnS.keep {t : TypeId} {k : IntKind} {w w' : World} {base : Nat} {v : Value} {xs : List Int} (h : OwnS t k w base v xs) (hb : Below w.heap.size w w') : OwnS t k w' base v xs := by
  obtain ⟨hl, h2⟩ := h
  refine ⟨hl, ?_⟩
  rcases h2 with h2 | ⟨g, cap, cur, rfl, hg, hh, hr⟩
  · exact .inl h2
  · exact .inr ⟨g, cap, cur, rfl, hg, (hb.block g (Array.getElem?_eq_some_iff.1 hh).1).trans hh, hr⟩
theorem OwnS.less {t : TypeId} {k : IntKind} {w : World} {base base' : Nat} {v : Value} {xs : List Int} (h : OwnS t k w base v xs) (hb : base' ≤ base) : OwnS t k w base' v xs := by
  obtain ⟨hl, h2⟩ := h
  refine ⟨hl, ?_⟩
  rcases h2 with h2 | ⟨g, cap, cur, rfl, hg, hr⟩
  · exact .inl h2
  · exact .inr ⟨g, cap, cur, rfl, by omega, hr⟩

/-- A call answers a new row of numbers, and what lay lies as it lay. -/
def Made (t : TypeId) (k : IntKind) (base : Nat) (w : World) (xs : List Int) (e : Ending) (w' : World) : Prop :=
  ∃ v, e = .returned v ∧ OwnS t k w' base v xs ∧ Below base w w'

def PutAt (base : Nat) (w : World) (bs : List Int) (n : Int) (b u : Value) (wr : World) : Prop :=
  ∃ (k : Nat) (cs : List Int), u = .int .u64 k ∧ k < 18446744073709551616 ∧ OwnS 5 .u8 wr base b cs ∧ cs ++ enc k = bs ++ enc (fold n) ∧ Below base w wr

theorem append_of {w w1 : World} {base : Nat} {t : TypeId} {k : IntKind} {v v' : Value} {cs : List Int} {x : Int} (ho : OwnS t k w base v cs) (hbase : base ≤ w.heap.size) {T : Obj}
    (hown : w1.ownsRow base t 1 v' (cs.length + 1) (cs.map (Value.int k) ++ [Value.int k x])) (hg : (w.alloc T).grownBy w1 v.ownBlock) : OwnS t k w1 base v' (cs ++ [x]) ∧ Below base w w1 := by
  refine ⟨by unfold OwnS; simpa using hown, ((Below.refl base w).alloc hbase T).grown hg (by simp; omega) fun j ej => own_ge ho j ej⟩

set_option maxRecDepth 100000 in
set_option maxHeartbeats 1000000 in
theorem putOne_any (v : Value) (n : Int) (bs : List Int) (base : Nat) (w : World) (hown : OwnS 5 .u8 w base v bs) (hbase : base ≤ w.heap.size) (hl : bs.length ≤ 10000000000) (h0 : -9223372036854775808 ≤ n) (h1 : n ≤ 9223372036854775807) :
    Calls Try.prog 54 #[v, .int .i64 n] w (Made 5 .u8 base w (bs ++ enc (fold n))) := by
  obtain ⟨i0, hi, hz0, hz1, hz2⟩ := info_parts Try.info5
  have HI := Lib.hid hi
  have HZ := Lib.hid (And.intro hz0 (And.intro hz1 hz2))
  clear hi hz0 hz1 hz2
  have hf := fold_lt ⟨h0, h1⟩
  have hel := enc_len10 hf
  have HO := Lib.hid hown
  clear hown
  go_enter Try.func54, Try.ntmps54
  go_wp2_with (go_at_call 85; refine (folded_any _ _ h0 h1).mono ?_; rintro e w' ⟨rfl, rfl⟩)
  go_loopw [0, 5] (fun b u wr => PutAt base w bs n b u wr) (fun _ u _ => (intOf u).toNat)
  case atStart => exact ⟨fold n, bs, rfl, hf, HO.out, rfl, Below.refl _ _⟩
  case round =>
    obtain ⟨k, cs, rfl, hk, ho, hcs, hb⟩ := hrel
    have hlen : cs.length + (enc k).length = bs.length + (enc (fold n)).length := by simpa using congrArg List.length hcs
    have hsz := hb.size
    have HB := Lib.hid hb
    have HW := Lib.hid ho
    have HC := Lib.hid hcs
    clear hb ho hcs
    have hep := enc_pos k
    have hcl : cs.length ≤ 10000000010 := by omega
    have HL := Lib.hid hlen
    clear hlen hel hep
    by_cases hge : 128 ≤ k
    · go_wp2_with (at_builtin; refine wpList_append_own _ rfl _ _ 24 rfl base 5 i0 (.int .u8 0) 1 1 Try.underlying24 HI.out HZ.out.1 HZ.out.2.1 HZ.out.2.2 rfl (by decide) _ _ _ rfl (HW.out.row.alloc _) _ 1 1 [_] rfl rfl (cell_one_new _ _ _) (by simp [Value.oneCell']) (by unfold maxLen; omega) (by omega) (by simp; omega) ?_; intro v' w1 hown' hgrow _)
      obtain ⟨ho', hb'⟩ := append_of HW.out (by omega) hown' hgrow
      refine ⟨⟨k / 128, cs ++ [((k % 128 + 128 : Nat) : Int)], by simp, by omega, by simpa using ho', ?_, HB.out.trans hb'⟩, by simp [intOf]; omega⟩
      rw [← HC.out, enc_ge (u := k) (by omega)]; simp
    · go_wp2_with (at_builtin; refine wpList_append_own _ rfl _ _ 24 rfl base 5 i0 (.int .u8 0) 1 1 Try.underlying24 HI.out HZ.out.1 HZ.out.2.1 HZ.out.2.2 rfl (by decide) _ _ _ rfl (HW.out.row.alloc _) _ 1 1 [_] rfl rfl (cell_one_new _ _ _) (by simp [Value.oneCell']) (by unfold maxLen; omega) (by omega) (by simp; omega) ?_; intro v' w1 hown' hgrow _)
      go_ret
      obtain ⟨ho', hb'⟩ := append_of HW.out (by omega) hown' hgrow
      refine ⟨v', rfl, ?_, HB.out.trans hb'⟩
      rw [← HC.out, enc_lt (u := k) (by omega)]; exact ho'

def AllAt (base : Nat) (w : World) (l : List Int) (b i : Value) (wr : World) : Prop :=
  ∃ k : Nat, k ≤ l.length ∧ i = .int .i64 k ∧ OwnS 5 .u8 wr base b (put (l.take k)) ∧ Below base w wr

theorem take_at {xs : List Int} {k : Nat} {p : Int} (hk : k < xs.length) (hp : xs.getD k 0 = p) : xs.take (k + 1) = xs.take k ++ [p] := by
  rw [List.take_succ_eq_append_getElem hk, ← hp, List.getD_eq_getElem?_getD, List.getElem?_eq_getElem hk]; rfl

set_option maxRecDepth 100000 in
set_option maxHeartbeats 1000000 in
theorem put_any (A : Option Addr) (c : Nat) (l : List Int) (B : Nat) (w : World) (hs : Sl .i64 w B A l) (hB : B ≤ w.heap.size) (hi : Ins l) (hl : l.length ≤ 100000000) :
    Calls Try.prog 27 #[.slice A l.length c] w (Made 5 .u8 w.heap.size w (put l)) := by
  have HS := Lib.hid hs
  have HI := Lib.hid hi
  clear hs hi
  go_enter Try.func27, Try.ntmps27
  go_wp2
  go_loopw [3, 8] (fun b i wr => AllAt w.heap.size w l b i wr) (fun _ i _ => l.length - (intOf i).toNat)
  case atStart => exact ⟨0, by omega, rfl, by simpa [put] using OwnS.nil 5 .u8 w w.heap.size, Below.refl _ _⟩
  case round =>
    obtain ⟨k, hk, rfl, ho, hb⟩ := hrel
    have hpl := put_len (HI.out.take k)
    have hlt' : (l.take k).length ≤ 100000000 := by simp; omega
    have hpl2 : (put (l.take k)).length ≤ 1000000000 := by omega
    have hsz := hb.size
    have HO := Lib.hid ho
    have HB := Lib.hid hb
    clear ho hb hpl hlt'
    by_cases hlt : k < l.length
    · obtain ⟨b, off, rfl, hbB, hcell⟩ := HS.out.at hlt
      have hn := HI.out.get k
      generalize hp : l.getD k 0 = n at hcell hn
      obtain ⟨hn0, hn1⟩ := hn
      have HP := Lib.hid hp
      clear hp
      have hcell' : wr.cell? ⟨b, off + k, none⟩ = some (.int .i64 n) := (HB.out.cell (p := ⟨b, off + k, none⟩) (by show b < _; omega)).trans hcell
      clear hcell
      go_wp2_with (go_at_call 54; refine (putOne_any _ n _ w.heap.size _ HO.out hsz (by omega) hn0 hn1).mono ?_; rintro e w' ⟨v', rfl, ho', hb'⟩)
      go_roundw
      case rel => exact ⟨k + 1, by omega, by go_num, by rw [take_at hlt HP.out, put_snoc]; exact ho', HB.out.trans hb'⟩
      case measure => simp [intOf]; omega
    · go_wp2
      go_ret
      have e : l.take k = l := List.take_of_length_le (by omega)
      exact ⟨_, rfl, by have := HO.out; rwa [e] at this, HB.out⟩
end Go.Proofs.Ytfmmfaeognoleaa.P
/-
  few, short, bytes.Clone, wire.Take, glazierref03.Same, wire.All, glazierlaw03.shown, at this seat's translation.
-/
namespace Go.Proofs.Ytfmmfaeognoleaa.P
open Go.RowKit

section
variable {k : IntKind} {w w' : World} {B B' : Nat} {A : Option Addr} {xs : List Int}
theorem Sl.none_ : Sl k w B A [] := fun h => absurd rfl h
theorem Sl.take (h : Sl k w B A xs) (n : Nat) : Sl k w B A (xs.take n) := fun hne => by
  obtain ⟨b, off, e, hb, hc⟩ := h (by rintro rfl; simp at hne)
  refine ⟨b, off, e, hb, fun j hj => ?_⟩
  simp only [List.length_take] at hj
  rw [hc j (by omega), List.getD_eq_getElem?_getD, List.getD_eq_getElem?_getD, List.getElem?_take_of_lt (by omega)]
theorem Sl.below (h : Sl k w B A xs) (hb : Below B w w') : Sl k w' B A xs := fun hne => by
  obtain ⟨b, off, e, hbB, hc⟩ := h hne
  exact ⟨b, off, e, hbB, fun j hj => (hb.cell (p := ⟨b, off + j, none⟩) hbB).trans (hc j hj)⟩
theorem Sl.more (h : Sl k w B A xs) (hB : B ≤ B') : Sl k w B' A xs := fun hne => by
  obtain ⟨b, off, e, hbB, hc⟩ := h hne
  exact ⟨b, off, e, by omega, hc⟩
theorem Sl.drewN (h : Sl k w B A xs) (n : Nat) : Sl k (w.drewN n) B A xs := h
theorem Sl.cut (h : Sl k w B A xs) {n c : Nat} (hc : xs.length ≤ c) : Sl k w B (if c = n then A else A.map fun x => x.add n) (xs.drop n) := fun hne => by
  have hl : n < xs.length := by
    rcases Nat.lt_or_ge n xs.length with h | h
    · exact h
    · exact absurd (List.drop_eq_nil_of_le h) hne
  obtain ⟨b, off, rfl, hb, hcell⟩ := h (by rintro rfl; simp at hl)
  rw [if_neg (by omega)]
  refine ⟨b, off + n, by simp [Addr.add_lit], hb, fun j hj => ?_⟩
  rw [List.length_drop] at hj
  rw [Nat.add_assoc, hcell (n + j) (by omega), List.getD_eq_getElem?_getD, List.getD_eq_getElem?_getD, List.getElem?_drop]
end

theorem Sl.conv {w : World} {B : Nat} {A : Option Addr} {xs : List Int} (h : Sl .u8 w B A xs) (c : Nat) :
    (convert 24 9 (.slice A xs.length c)).run Try.prog w = .ok (.string (strOfNums xs)) w := by
  by_cases hne : xs = []
  · subst hne
    show (convert 24 9 (.slice A 0 c)).run Try.prog w = .ok (.string ByteArray.empty) w
    rw [run_convert_bytes_string w 24 9 5 _ 0 c Try.underlying24 Try.underlying5 Try.underlying9]
    cases A <;> simp [Conv.bytesToString, loadCells]
    all_goals rfl
  · obtain ⟨b, off, rfl, _, hc⟩ := h hne
    exact run_convert_bytes_arg w 24 5 Try.underlying24 Try.underlying5 b off xs.length c xs rfl hc 9 Try.underlying9

theorem eqIn23 (w : World) (d : Nat) (a : Addr) (n c : Nat) : (Op.equalIn (d + 1) 24 (.slice (some a) n c) (.slice none 0 0)).run Try.prog w = .ok false w := by
  simp [Op.equalIn, run_underlying Try.underlying24]
theorem eql23 (w : World) (a : Addr) (n c : Nat) : (binOp .eql 24 (.slice (some a) n c) (.slice none 0 0)).run Try.prog w = .ok (.bool false) w := by
  simp only [binOp]
  simp [Op.equal, Op.maxDepth, eqIn23 w 9999]
theorem eqIn40 (w : World) (d : Nat) (f : Fn) (a b : Array Value) : (Op.equalIn (d + 1) 111 (.func f a b) .nilFunc).run Try.prog w = .ok false w := by
  simp [Op.equalIn, run_underlying Try.underlying111]
theorem neq40 (w : World) (f : Fn) (a b : Array Value) : (binOp .neq 111 (.func f a b) .nilFunc).run Try.prog w = .ok (.bool true) w := by
  simp only [binOp]
  simp [Op.equal, Op.maxDepth, eqIn40 w 9999]
theorem eql40 (w : World) (f : Fn) (a b : Array Value) : (binOp .eql 111 (.func f a b) .nilFunc).run Try.prog w = .ok (.bool false) w := by
  simp only [binOp]
  simp [Op.equal, Op.maxDepth, eqIn40 w 9999]
theorem mk_func (fn : Fn) (first cap : Array Value) (w : World) : (Instr.makeFunc fn first cap).run Try.prog w = .ok (.func fn first cap) w := rfl

theorem all_any (A : Option Addr) (n c : Nat) (w : World) :
    Calls Try.prog 55 #[.slice A n c] w fun e w' => e = .returned (.func (.func 86) #[] #[.pointer (some ⟨w.heap.size, 0, none⟩)]) ∧ w' = w.alloc (.cells #[.slice A n c] 24) := by
  have hmf := mk_func
  go_enter Try.func55, Try.ntmps55
  go_wp2
  go_ret
  exact ⟨rfl, rfl⟩

theorem own_empty (t : TypeId) (w : World) : (w.alloc (.cells #[] t)).ownsRow w.heap.size t 1 (.slice (some ⟨w.heap.size, 0, none⟩) 0 0) 0 [] :=
  ⟨rfl, .inr ⟨w.heap.size, 0, #[], rfl, Nat.le_refl _, World.alloc_heap_new w _, Nat.le_refl _, by unfold maxLen; omega, rfl, rfl⟩⟩

theorem news_of {k : IntKind} {w : World} {b off : Nat} {xs : List Int} (hc : ∀ j, j < xs.length → w.cell? ⟨b, off + j, none⟩ = some (.int k (xs.getD j 0))) :
    ∀ j u, (xs.map (Value.int k))[j]? = some u → w.cell? ((⟨b, off, none⟩ : Addr).add j) = some u := by
  intro j u hu
  have hj : j < xs.length := by simpa using (List.getElem?_eq_some_iff.1 hu).1
  rw [Addr.add_lit, hc j hj, ← hu, List.getElem?_map, List.getElem?_eq_getElem hj, List.getD_eq_getElem?_getD, List.getElem?_eq_getElem hj]
  rfl

def TookS (w : World) (n : Int) (xs : List Int) (e : Ending) (w' : World) : Prop :=
  ∃ v, e = .returned (.tuple #[.int .i64 n, v, .bool true]) ∧ OwnS 5 .u8 w' w.heap.size v xs ∧ Below w.heap.size w w'

theorem below_draws {B : Nat} {a w : World} (h : Below B a w) (n : Nat) : Below B a (w.drewN n) := ⟨h.os, h.tape, h.output, h.size, h.block⟩

def Yes (w : World) (e : Ending) (w' : World) : Prop := e = .returned (.bool true) ∧ Below w.heap.size w w'

theorem str_shown : strOfNums (put [0, -1, 64]) = { data := #[0, 1, 128, 1] } := by
  have e : put [0, -1, 64] = [0, 1, 128, 1] := by
    simp only [put_cons, put_nil]
    rw [show fold 0 = 0 by decide, show fold (-1) = 1 by decide, show fold 64 = 128 by decide, enc_lt (u := 0) (by decide), enc_lt (u := 1) (by decide), enc_ge (u := 128) (by decide), enc_lt (u := 128 / 128) (by decide)]
    rfl
  rw [e]; rfl

end Go.Proofs.Ytfmmfaeognoleaa.P
/-
  What an argument that is a slice of integers or of bytes is opened to.
-/
namespace Go.Proofs.Ytfmmfaeognoleaa.P
open Go.ChangeShapes Go.WideShapes Go.ChangeAt Go.RowKit Go.Joins

set_option maxRecDepth 100000 in
theorem own : ownKnob Try.prog.godebug = none := by kernel_rfl
set_option maxRecDepth 100000 in
theorem laidOut : laidOutB Try.prog = true := by kernel_rfl
set_option maxRecDepth 100000 in
theorem cells5 : Try.prog.cellsOf 5 = 1 := by kernel_rfl
set_option maxRecDepth 100000 in
theorem cells3 : Try.prog.cellsOf 3 = 1 := by kernel_rfl

set_option maxRecDepth 100000 in
theorem wf_bounds {k : IntKind} {n : Int} (h : (Lit.int k n).wf = true) : k.min ≤ n ∧ n ≤ k.max := by
  simpa only [Lit.wf, Bool.and_eq_true, decide_eq_true_eq] using h

set_option maxRecDepth 100000 in
theorem open_row {H : Type} {enc : TypeId × Value → H} {W : World} {v : Value} {b0 : Nat} {r : Reach} {d : DataW H} {p : List MemPlace} {t e : TypeId} {k : IntKind}
    (ht : Try.prog.underlying t = some (.slice e)) (he : Try.prog.underlying e = some (.int k)) (hce : Try.prog.cellsOf e = 1)
    (hv : Value.okWide Try.prog W r b0 t v) (h : DataW.Trod enc Try.prog W 0 (fun _ => true) true t v d p) :
    ∃ (A : Option Addr) (xs : List Int) (c : Nat), v = .slice A xs.length c ∧ xs.length ≤ c ∧ c ≤ 9223372036854775807 ∧ Sl k W W.heap.size A xs ∧ (∀ x ∈ xs, k.min ≤ x ∧ x ≤ k.max) := by
  obtain ⟨a0, len, cap, rfl⟩ := okWide_slice ht hv
  obtain ⟨fuel, hf⟩ := h
  rcases open_ints ht he hce hf with ⟨hcs, _⟩ | ⟨a, len', cap', zs, hcs, _, hl, hm, hz, _, hcell, hwz⟩
  · simp [Value.cells] at hcs
    obtain ⟨rfl, rfl, rfl⟩ := hcs
    exact ⟨none, [], 0, rfl, Nat.le_refl _, by decide, Sl.none_, fun _ h => by cases h⟩
  · simp [Value.cells] at hcs
    obtain ⟨rfl, rfl, rfl⟩ := hcs
    simp only [if_true] at hz
    have hlen : (zs.take len).length = len := by simp; omega
    refine ⟨some a, zs.take len, cap, by rw [hlen], by omega, by unfold maxLen at hm; exact hm, fun hne => ?_, fun x hx => wf_bounds (hwz x (List.mem_of_mem_take hx))⟩
    have hpos : 0 < zs.length := by
      rcases Nat.eq_zero_or_pos zs.length with h0 | h0
      · exact absurd (by rw [List.eq_nil_of_length_eq_zero h0]; simp) hne
      · exact h0
    obtain ⟨b, off, rfl, hc⟩ := ints_at hcell hpos
    refine ⟨b, off, rfl, World.block_lt_of_cell? _ _ (hc 0 hpos), fun j hj => ?_⟩
    rw [hlen] at hj
    rw [hc j (by omega), List.getD_eq_getElem?_getD, List.getD_eq_getElem?_getD, List.getElem?_take_of_lt hj]

set_option maxRecDepth 100000 in
theorem open_bytes {H : Type} {enc : TypeId × Value → H} {W : World} {v : Value} {b0 : Nat} {r : Reach} {d : DataW H} {p : List MemPlace}
    (hv : Value.okWide Try.prog W r b0 24 v) (h : DataW.Trod enc Try.prog W 0 (fun _ => true) true 24 v d p) :
    ∃ (A : Option Addr) (xs : List Int) (c : Nat), v = .slice A xs.length c ∧ xs.length ≤ c ∧ c ≤ 9223372036854775807 ∧ Sl .u8 W W.heap.size A xs ∧ Byt xs := by
  obtain ⟨A, xs, c, h1, h2, h3, h4, h5⟩ := open_row Try.underlying24 Try.underlying5 cells5 hv h
  exact ⟨A, xs, c, h1, h2, h3, h4, fun x hx => h5 x hx⟩
set_option maxRecDepth 100000 in
theorem open_nums {H : Type} {enc : TypeId × Value → H} {W : World} {v : Value} {b0 : Nat} {r : Reach} {d : DataW H} {p : List MemPlace}
    (hv : Value.okWide Try.prog W r b0 22 v) (h : DataW.Trod enc Try.prog W 0 (fun _ => true) true 22 v d p) :
    ∃ (A : Option Addr) (xs : List Int) (c : Nat), v = .slice A xs.length c ∧ xs.length ≤ c ∧ c ≤ 9223372036854775807 ∧ Sl .i64 W W.heap.size A xs ∧ Ins xs := by
  obtain ⟨A, xs, c, h1, h2, h3, h4, h5⟩ := open_row Try.underlying22 Try.underlying3 cells3 hv h
  exact ⟨A, xs, c, h1, h2, h3, h4, fun x hx => h5 x hx⟩
end Go.Proofs.Ytfmmfaeognoleaa.P
/-
  The contracts of fixed.Sat, and what products are within; worlds that grow.
-/
namespace Go.Proofs.Ytfmmfaeognoleaa
open Go.RowKit
attribute [local go_sem ↓] Go.wp_at_zero Go.wp_at_succ

def dv (n : Int) : Int := (n + 127) / 255
theorem mul_bd {x a : Int} (h0 : 0 ≤ x) (h1 : x ≤ 255) (k0 : 0 ≤ a) (k1 : a ≤ 255) : 0 ≤ x * a ∧ x * a ≤ 65025 :=
  ⟨Int.mul_nonneg h0 k0, Int.le_trans (Int.mul_le_mul h1 k1 k0 (by decide)) (by decide)⟩
theorem dv_bd {n : Int} (h0 : 0 ≤ n) (h1 : n ≤ 65025) : 0 ≤ dv n ∧ dv n ≤ 255 := by unfold dv; omega
theorem bstep {B : Nat} {a b c : World} (h : Below B a b) (hB : B ≤ b.heap.size) (k : Below b.heap.size b c) : Below B a c := h.trans (k.mono hB)
/-- The worlds that are as w was below its own size. -/
def Grow (w : World) : Type := { w' : World // Below w.heap.size w w' }
def Grow.w {w : World} (x : Grow w) : World := x.1
theorem Grow.below {w : World} (x : Grow w) : Below w.heap.size w x.w := x.2
theorem Grow.ne (w : World) : Nonempty (Grow w) := ⟨⟨w, Below.refl _ _⟩⟩
theorem Grow.cell {w : World} (x : Grow w) {b o : Nat} {v : Value} (h : w.cell? ⟨b, o, none⟩ = some v) : x.w.cell? ⟨b, o, none⟩ = some v := by
  rw [x.below.cell (World.block_lt_of_cell? _ _ h), h]
theorem wp_region_grow {P : Program} {id : Nat} {Q : Exit → Act → World → Prop} {a : Act} {w : World} {l : List Oper} (hm : P.follows .mixedOrders = true) (hB : Region.lexB .any l.toArray = true)
    (h : wpQuiet P l.toArray (fun w' => ∃ x : Grow w, w' = x.w) (fun a' => ∀ w', (∃ x : Grow w, w' = x.w) → Q .normal a' w') l a) : (Code.region id l.toArray true).wp P Q a w :=
  wp_region_quiet (C := fun w' => ∃ x : Grow w, w' = x.w) hm hB ⟨⟨_, (Below.refl _ _).drew⟩, rfl⟩ (by simpa using h)
theorem Grow.calls {P : Program} {f : FuncId} {args : Array Value} {w : World} {x : Grow w} {v : Value}
    (h : Calls P f args x.w fun e w' => e = .returned v ∧ Below x.w.heap.size x.w w') : Calls P f args x.w fun e w'' => e = .returned v ∧ ∃ y : Grow w, w'' = y.w :=
  h.mono fun _ _ ⟨he, hb⟩ => ⟨he, ⟨_, x.below.trans (hb.mono x.below.size)⟩, rfl⟩
end Go.Proofs.Ytfmmfaeognoleaa
/-
  Colours, and blocks that hold one; what is made by closures.
-/
namespace Go.Proofs.Ytfmmfaeognoleaa
open Go.RowKit
attribute [local go_sem ↓] Go.wp_at_zero Go.wp_at_succ

structure Col where
  r : Int
  g : Int
  b : Int
  a : Int
  deriving DecidableEq
def Col.ok (c : Col) : Prop := (0 ≤ c.r ∧ c.r ≤ 255) ∧ (0 ≤ c.g ∧ c.g ≤ 255) ∧ (0 ≤ c.b ∧ c.b ≤ 255) ∧ (0 ≤ c.a ∧ c.a ≤ 255)
/-- A block that holds a colour. -/
def colB (c : Col) : Obj := .cells #[.int .u8 c.r, .int .u8 c.g, .int .u8 c.b, .int .u8 c.a] 27 (0, 0)
theorem colB_cell {w : World} {g : Nat} {c : Col} (h : w.heap[g]? = some (colB c)) :
    w.cell? ⟨g, 0, none⟩ = some (.int .u8 c.r) ∧ w.cell? ⟨g, 1, none⟩ = some (.int .u8 c.g) ∧ w.cell? ⟨g, 2, none⟩ = some (.int .u8 c.b) ∧ w.cell? ⟨g, 3, none⟩ = some (.int .u8 c.a) := by
  unfold colB at h
  exact ⟨Joins.cell_of_block h 0, Joins.cell_of_block h 1, Joins.cell_of_block h 2, Joins.cell_of_block h 3⟩
theorem colB_free {w : World} {g : Nat} {c : Col} (h : w.heap[g]? = some (colB c)) :
    w.frozen? ⟨g, 0, none⟩ = false ∧ w.frozen? ⟨g, 1, none⟩ = false ∧ w.frozen? ⟨g, 2, none⟩ = false ∧ w.frozen? ⟨g, 3, none⟩ = false := by
  unfold colB at h
  refine ⟨?_, ?_, ?_, ?_⟩ <;> simp [World.frozen?, h]
theorem colB_set {w : World} {g : Nat} {c : Col} (d : Col) (h : w.heap[g]? = some (colB c)) :
    ((((w.setCell ⟨g, 0, none⟩ (.int .u8 d.r)).setCell ⟨g, 1, none⟩ (.int .u8 d.g)).setCell ⟨g, 2, none⟩ (.int .u8 d.b)).setCell ⟨g, 3, none⟩ (.int .u8 d.a)).heap[g]? = some (colB d) := by
  unfold colB at h
  rw [heap_setCell_same _ _ _ _ _ _ (heap_setCell_same _ _ _ _ _ _ (heap_setCell_same _ _ _ _ _ _ (heap_setCell_same _ _ _ _ _ _ h)))]
  simp [colB]
theorem below2 {w w1 : World} {A B : Obj} (hb : Below ((w.alloc A).alloc B).heap.size ((w.alloc A).alloc B) w1) : Below w.heap.size w w1 :=
  (((Below.refl _ _).alloc (Nat.le_refl _) _).alloc (by simp) _).trans (hb.mono (by simp; omega))
end Go.Proofs.Ytfmmfaeognoleaa
/-
  The document's Pre, Right and Mix of colours: they are those of package colour.
-/
namespace Go.Proofs.Ytfmmfaeognoleaa
open Go.RowKit
attribute [local go_sem ↓] Go.wp_at_zero Go.wp_at_succ

def rightB (c : Col) : Bool := decide (c.r ≤ c.a) && decide (c.g ≤ c.a) && decide (c.b ≤ c.a)
def Col.right (c : Col) : Prop := c.r ≤ c.a ∧ c.g ≤ c.a ∧ c.b ≤ c.a
theorem rightB_of {c : Col} (h : c.right) : rightB c = true := by
  obtain ⟨h1, h2, h3⟩ := h
  simp [rightB, h1, h2, h3]
def pre (c : Col) : Col := ⟨dv (c.r * c.a), dv (c.g * c.a), dv (c.b * c.a), c.a⟩
theorem pre_ok {c : Col} (h : c.ok) : (pre c).ok := by
  obtain ⟨⟨r0, r1⟩, ⟨g0, g1⟩, ⟨b0, b1⟩, ⟨a0, a1⟩⟩ := h
  have m0 := mul_bd r0 r1 a0 a1
  have m1 := mul_bd g0 g1 a0 a1
  have m2 := mul_bd b0 b1 a0 a1
  exact ⟨dv_bd m0.1 m0.2, dv_bd m1.1 m1.2, dv_bd m2.1 m2.2, a0, a1⟩
theorem dv_le' {x a : Int} (x1 : x ≤ 255) (a0 : 0 ≤ a) : dv (x * a) ≤ a := by
  have h : x * a ≤ 255 * a := Int.mul_le_mul_of_nonneg_right x1 a0
  unfold dv
  omega
theorem pre_right {c : Col} (h : c.ok) : (pre c).right := by
  obtain ⟨⟨r0, r1⟩, ⟨g0, g1⟩, ⟨b0, b1⟩, ⟨a0, a1⟩⟩ := h
  exact ⟨dv_le' r1 a0, dv_le' g1 a0, dv_le' b1 a0⟩
theorem rdv_any (n : Int) (w : World) (h0 : 0 ≤ n) (h1 : n ≤ 65025) :
    Calls Try.prog 77 #[.int .i64 n] w fun e w' => e = .returned (.int .i64 (dv n)) ∧ w = w' := by
  have h : dv n = (2 * n + 255) / 510 := by unfold dv; omega
  rw [h]
  clear h
  go_enter Try.func77, Try.ntmps77
  go_wp2
  go_ret
  exact ⟨rfl, rfl⟩
theorem rpart_any (x a : Int) (w : World) (h0 : 0 ≤ x) (h1 : x ≤ 255) (k0 : 0 ≤ a) (k1 : a ≤ 255) :
    Calls Try.prog 41 #[.int .u8 x, .int .u8 a] w fun e w' => e = .returned (.int .u8 (dv (x * a))) ∧ w = w' := by
  obtain ⟨m0, m1⟩ := mul_bd h0 h1 k0 k1
  obtain ⟨d0, d1⟩ := dv_bd m0 m1
  go_enter Try.func41, Try.ntmps41
  go_wp2_with (go_at_call 77; refine (rdv_any _ _ (by omega) (by omega)).mono ?_; rintro e w' ⟨rfl, rfl⟩)
  go_ret
  exact ⟨rfl, rfl⟩
theorem rpre_col (c : Col) (w : World) (h : c.ok) :
    Calls Try.prog 23 #[.agg #[.int .u8 c.r, .int .u8 c.g, .int .u8 c.b, .int .u8 c.a]] w fun e w' => e = .returned (.agg #[.int .u8 (pre c).r, .int .u8 (pre c).g, .int .u8 (pre c).b, .int .u8 (pre c).a]) ∧ Below w.heap.size w w' := by
  obtain ⟨⟨r0, r1⟩, ⟨g0, g1⟩, ⟨b0, b1⟩, ⟨a0, a1⟩⟩ := h
  show Calls Try.prog 23 #[.agg #[.int .u8 c.r, .int .u8 c.g, .int .u8 c.b, .int .u8 c.a]] w fun e w' => e = .returned (.agg #[.int .u8 (dv (c.r * c.a)), .int .u8 (dv (c.g * c.a)), .int .u8 (dv (c.b * c.a)), .int .u8 c.a]) ∧ Below w.heap.size w w'
  go_enter Try.func23, Try.ntmps23
  go_wp2
  go_region_held3 (fun w' => w'.cell? ⟨w.heap.size, 0, none⟩ = some (.int .u8 c.r) ∧ w'.cell? ⟨w.heap.size, 1, none⟩ = some (.int .u8 c.g) ∧ w'.cell? ⟨w.heap.size, 2, none⟩ = some (.int .u8 c.b) ∧ w'.cell? ⟨w.heap.size, 3, none⟩ = some (.int .u8 c.a)) (simp [go_sem, World.cell?_alloc_past])
    (first
      | (go_at_call 41; ((with_reducible refine (rpart_any _ _ _ (by assumption) (by assumption) (by assumption) (by assumption)).mono ?_); rintro e w' ⟨rfl, rfl⟩)))
  go_wp2
  refine bodyPost_ret (v := .agg #[.int .u8 (dv (c.r * c.a)), .int .u8 (dv (c.g * c.a)), .int .u8 (dv (c.b * c.a)), .int .u8 c.a]) (by simp [results, Try.results23, go_sem]) rfl ⟨rfl, ?_⟩
  exact (((Below.refl _ _).alloc (Nat.le_refl _) _).alloc (by simp) _).drew
end Go.Proofs.Ytfmmfaeognoleaa
/-
  Slices whose elements have several cells: what one reads, and rows of the call's own; for any type of elements.
-/
namespace Go.Proofs.Ytfmmfaeognoleaa
open Go.RowKit
attribute [local go_sem ↓] Go.wp_at_zero Go.wp_at_succ

/-- A type of elements: its number, how many cells, and what is in them. -/
structure Elem (α : Type) where
  t : TypeId
  size : Nat
  cells : α → List Value
  pos : 0 < size
  len : ∀ x, (cells x).length = size
  one : ∀ x, ∀ u ∈ cells x, u.oneCell' = true

section
variable {α : Type} (E : Elem α)
def Elem.flat (l : List α) : List Value := l.flatMap E.cells
theorem Elem.flat_append (k l : List α) : E.flat (k ++ l) = E.flat k ++ E.flat l := by simp [Elem.flat]
theorem Elem.flat_cons (x : α) (l : List α) : E.flat (x :: l) = E.cells x ++ E.flat l := rfl
theorem Elem.flat_length : ∀ l : List α, (E.flat l).length = l.length * E.size
  | [] => by simp [Elem.flat]
  | v :: l => by
    rw [E.flat_cons, List.length_append, Elem.flat_length l, E.len, List.length_cons, Nat.add_mul]
    omega
theorem Elem.flat_one (l : List α) : ∀ u ∈ E.flat l, u.oneCell' = true := by
  intro u hu
  obtain ⟨v, _, hu⟩ := List.mem_flatMap.1 hu
  exact E.one v u hu
theorem Elem.flat_get : ∀ {l : List α} {j : Nat} {u : α}, l[j]? = some u → ∀ r, r < E.size → (E.flat l)[j * E.size + r]? = (E.cells u)[r]?
  | [], j, u, h, _, _ => by simp at h
  | v :: l, 0, u, h, r, hr => by
    obtain rfl : v = u := by simpa using h
    rw [Nat.zero_mul, Nat.zero_add, E.flat_cons, List.getElem?_append_left (by rw [E.len]; exact hr)]
  | v :: l, j + 1, u, h, r, hr => by
    have ih := Elem.flat_get (l := l) (j := j) (u := u) (by simpa using h) r hr
    rw [E.flat_cons, List.getElem?_append_right (by rw [E.len, Nat.add_mul]; omega), ← ih]
    congr 1
    rw [E.len, Nat.add_mul]
    omega

/-- The cells from place o of block b on are those of an element. -/
def AtE (w : World) (b o : Nat) (x : α) : Prop := ∀ j u, (E.cells x)[j]? = some u → w.cell? ⟨b, o + j, none⟩ = some u
/-- A slice at A reads these elements, below block B. -/
def Es (w : World) (B : Nat) (A : Option Addr) (xs : List α) : Prop :=
  xs ≠ [] → ∃ b off, A = some ⟨b, off, none⟩ ∧ b < B ∧ ∀ j u, xs[j]? = some u → AtE E w b (off + j * E.size) u
/-- A row of the call's own that holds these elements. -/
def OwnE (w : World) (base : Nat) (v : Value) (xs : List α) : Prop := w.ownsRow base E.t E.size v xs.length (E.flat xs)
end
section
variable {α : Type} {E : Elem α} {w w' : World} {B B' base base' : Nat} {A : Option Addr} {v : Value} {xs : List α}
theorem AtE.below {b o : Nat} {x : α} (h : AtE E w b o x) (hb : Below B w w') (hB : b < B) : AtE E w' b o x := fun j u hj => (hb.cell (p := ⟨b, o + j, none⟩) hB).trans (h j u hj)
theorem AtE.lt {b o : Nat} {x : α} (h : AtE E w b o x) : b < w.heap.size := by
  have hp := E.pos
  rw [← E.len x] at hp
  exact World.block_lt_of_cell? _ _ (h 0 _ (List.getElem?_eq_getElem hp))
theorem AtE.grow {b o : Nat} {x : α} (h : AtE E w b o x) (hb : Below w.heap.size w w') : AtE E w' b o x := h.below hb h.lt
theorem Es.none_ : Es E w B A [] := fun h => absurd rfl h
theorem Es.below (h : Es E w B A xs) (hb : Below B w w') : Es E w' B A xs := fun hne => by
  obtain ⟨b, off, e, hbB, hc⟩ := h hne
  exact ⟨b, off, e, hbB, fun j u hj => (hc j u hj).below hb hbB⟩
theorem Es.more (h : Es E w B A xs) (hB : B ≤ B') : Es E w B' A xs := fun hne => by
  obtain ⟨b, off, e, hbB, hc⟩ := h hne
  exact ⟨b, off, e, by omega, hc⟩
theorem Es.sharp (h : Es E w B A xs) : Es E w w.heap.size A xs := fun hne => by
  obtain ⟨b, off, e, hbB, hc⟩ := h hne
  obtain ⟨u, hu⟩ : ∃ u, xs[0]? = some u := by
    cases xs with
    | nil => exact absurd rfl hne
    | cons x xs => exact ⟨x, rfl⟩
  exact ⟨b, off, e, (hc 0 u hu).lt, hc⟩
theorem Es.grow (h : Es E w B A xs) (hb : Below w.heap.size w w') : Es E w' w.heap.size A xs := h.sharp.below hb
theorem Es.at (h : Es E w B A xs) {k : Nat} {u : α} (hk : xs[k]? = some u) : ∃ b off, A = some ⟨b, off, none⟩ ∧ b < B ∧ AtE E w b (off + k * E.size) u := by
  obtain ⟨b, off, e, hbB, hc⟩ := h (by rintro rfl; simp at hk)
  exact ⟨b, off, e, hbB, hc _ _ hk⟩
theorem OwnE.row (h : OwnE E w base v xs) : w.ownsRow base E.t E.size v xs.length (E.flat xs) := h
theorem OwnE.nil (w : World) (base : Nat) : OwnE E w base (.slice none 0 0) [] := World.ownsRow_nil _ _ _ _
theorem OwnE.es (h : OwnE E w base v xs) : ∃ A c, v = .slice A xs.length c ∧ xs.length ≤ c ∧ c ≤ 9223372036854775807 ∧ Es E w w.heap.size A xs := by
  obtain ⟨hl, ⟨rfl, h0⟩ | ⟨g, cap, cur, rfl, _, hh, hc, hm, _, ht⟩⟩ := h
  · have : xs = [] := List.eq_nil_of_length_eq_zero h0
    subst this
    exact ⟨none, 0, rfl, Nat.le_refl _, by decide, fun h => absurd rfl h⟩
  · refine ⟨some ⟨g, 0, none⟩, cap, rfl, hc, by unfold maxLen at hm; exact hm, fun _ => ⟨g, 0, rfl, (Array.getElem?_eq_some_iff.1 hh).1, fun j u hj r x hr => ?_⟩⟩
    have hjl : j < xs.length := by
      rcases Nat.lt_or_ge j xs.length with h | h
      · exact h
      · rw [List.getElem?_eq_none h] at hj; cases hj
    have hrl : r < E.size := by
      rcases Nat.lt_or_ge r (E.cells u).length with h | h
      · rw [E.len] at h; exact h
      · rw [List.getElem?_eq_none h] at hr; cases hr
    have hlt : j * E.size + r < xs.length * E.size := by
      have : (j + 1) * E.size ≤ xs.length * E.size := Nat.mul_le_mul_right _ hjl
      rw [Nat.add_mul] at this
      omega
    rw [cell_of_row w g (0 + j * E.size + r) cur E.t (0, 0) hh, Nat.zero_add, ← hr, ← E.flat_get hj r hrl, ← ht, List.getElem?_take_of_lt hlt, Array.getElem?_toList]
theorem ownE_ge (h : OwnE E w base v xs) : ∀ j, v.ownBlock = some j → base ≤ j := by
  intro j ej
  rcases h.2 with ⟨rfl, _⟩ | ⟨g, cap, cur, rfl, hb, _, _⟩
  · simp [Value.ownBlock] at ej
  · obtain rfl : g = j := by simpa [Value.ownBlock] using ej
    exact hb
theorem OwnE.keep (h : OwnE E w base v xs) (hb : Below w.heap.size w w') : OwnE E w' base v xs := by
  obtain ⟨hl, h2⟩ := h
  refine ⟨hl, ?_⟩
  rcases h2 with h2 | ⟨g, cap, cur, rfl, hg, hh, hr⟩
  · exact .inl h2
  · exact .inr ⟨g, cap, cur, rfl, hg, (hb.block g (Array.getElem?_eq_some_iff.1 hh).1).trans hh, hr⟩
theorem OwnE.less (h : OwnE E w base v xs) (hb : base' ≤ base) : OwnE E w base' v xs := by
  obtain ⟨hl, h2⟩ := h
  refine ⟨hl, ?_⟩
  rcases h2 with h2 | ⟨g, cap, cur, rfl, hg, hr⟩
  · exact .inl h2
  · exact .inr ⟨g, cap, cur, rfl, by omega, hr⟩
theorem OwnE.alloc (h : OwnE E w base v xs) (o : Obj) : OwnE E (w.alloc o) base v xs := h.keep ((Below.refl _ _).alloc (Nat.le_refl _) o)
theorem OwnE.form (h : OwnE E w base v xs) : ∃ A c, v = .slice A xs.length c := by
  obtain ⟨A, c, e, -⟩ := h.es
  exact ⟨A, c, e⟩
theorem ownE_empty (w : World) (h : base ≤ w.heap.size) : OwnE E (w.alloc (.cells #[] E.t)) base (.slice (some ⟨w.heap.size, 0, none⟩) 0 0) [] :=
  ⟨by simp [Elem.flat], .inr ⟨w.heap.size, 0, #[], rfl, h, heap_alloc_new _ _, Nat.le_refl _, by unfold maxLen; omega, by simp, by simp [Elem.flat]⟩⟩
theorem append_ofE {w1 : World} {v' : Value} {x : α} (ho : OwnE E w base v xs) (hbase : base ≤ w.heap.size) {T : Obj}
    (hown : w1.ownsRow base E.t E.size v' (xs.length + 1) (E.flat xs ++ E.cells x)) (hg : (w.alloc T).grownBy w1 v.ownBlock) : OwnE E w1 base v' (xs ++ [x]) ∧ Below base w w1 := by
  refine ⟨?_, ((Below.refl base w).alloc hbase T).grown hg (by simp; omega) fun j ej => ownE_ge ho j ej⟩
  unfold OwnE
  rw [List.length_append, E.flat_append, show E.flat [x] = E.cells x by simp [Elem.flat]]
  exact hown
/-- The cells of an element in a block of its own. -/
theorem new_el (w : World) (x : α) (cs : Array Value) (h : cs.toList = E.cells x) : ∀ j u, (E.cells x)[j]? = some u → (w.alloc (.cells cs E.t)).cell? ((⟨w.heap.size, 0, none⟩ : Addr).add j) = some u := by
  intro j u hj
  have e : (w.alloc (.cells cs E.t)).heap[w.heap.size]? = some (.cells cs E.t) := heap_alloc_new _ _
  have hc := cell_of_row (w.alloc (.cells cs E.t)) w.heap.size j cs E.t (0, 0) e
  have ha : (⟨w.heap.size, 0, none⟩ : Addr).add j = ⟨w.heap.size, j, none⟩ := by unfold Addr.add; split <;> simp_all
  rw [ha, hc, ← hj, ← h, Array.getElem?_toList]
end
/-- A call answers a new row of elements, and what lay lies as it lay. -/
def MadeE {α : Type} (E : Elem α) (base : Nat) (w : World) (xs : List α) (e : Ending) (w' : World) : Prop := ∃ v, e = .returned v ∧ OwnE E w' base v xs ∧ Below base w w'
end Go.Proofs.Ytfmmfaeognoleaa
/-
  The contracts of fixed.Floor and texture.split, of the reference's wrap, and of the statements' small.
-/
namespace Go.Proofs.Ytfmmfaeognoleaa
open Go.RowKit
attribute [local go_sem ↓] Go.wp_at_zero Go.wp_at_succ

/-- Numbers that an int holds. -/
def I64 (n : Int) : Prop := -9223372036854775808 ≤ n ∧ n ≤ 9223372036854775807
theorem sides {s : Int} (h0 : 1 ≤ s) (h1 : s ≤ 16) : s = 1 ∨ s = 2 ∨ s = 3 ∨ s = 4 ∨ s = 5 ∨ s = 6 ∨ s = 7 ∨ s = 8 ∨ s = 9 ∨ s = 10 ∨ s = 11 ∨ s = 12 ∨ s = 13 ∨ s = 14 ∨ s = 15 ∨ s = 16 := by omega
/-- glazierref11.wrap: what is left of a number, from 0 on. -/
theorem wrap_any (n s : Int) (hn : I64 n) (h0 : 1 ≤ s) (h1 : s ≤ 16) (w : World) :
    Calls Try.prog 42 #[.int .i64 n, .int .i64 s] w fun e w' => e = .returned (.int .i64 (n % s)) ∧ w = w' := by
  obtain ⟨hn0, hn1⟩ := hn
  obtain ⟨r, hr⟩ : ∃ r, n.tmod s = r := ⟨_, rfl⟩
  obtain ⟨q, hq⟩ : ∃ q, n % s = q := ⟨_, rfl⟩
  have r0 := Int.lt_tmod_of_pos n (show (0 : Int) < s by omega)
  have r1 := Int.tmod_lt_of_pos n (show (0 : Int) < s by omega)
  have q0 := Int.emod_nonneg n (show s ≠ 0 by omega)
  have q1 := Int.emod_lt_of_pos n (show (0 : Int) < s by omega)
  have h2 := Int.mul_tdiv_add_tmod n s
  have h3 := Int.emod_add_mul_ediv n s
  rw [hr] at h2 r0 r1
  rw [hq] at h3 q0 q1
  have hc : (r < 0 → r + s = q) ∧ (0 ≤ r → r = q) := by
    generalize n.tdiv s = a at *
    generalize n / s = b at *
    rcases sides h0 h1 with rfl | rfl | rfl | rfl | rfl | rfl | rfl | rfl | rfl | rfl | rfl | rfl | rfl | rfl | rfl | rfl <;> omega
  have s0 : ¬ s = 0 := by omega
  have s1 : ¬ s = -1 := by omega
  rw [hq]
  clear hq h2 h3
  by_cases hneg : r < 0
  · obtain rfl := hc.1 hneg
    clear hc
    go_enter Try.func42, Try.ntmps42
    go_wp2
    all_goals (go_ret; exact ⟨rfl, rfl⟩)
  · obtain rfl := hc.2 (by omega)
    clear hc
    go_enter Try.func42, Try.ntmps42
    go_wp2
    all_goals (go_ret; exact ⟨rfl, rfl⟩)

theorem tmod_bd (n m : Int) (hm : 0 < m) : -m < n.tmod m ∧ n.tmod m < m := ⟨Int.lt_tmod_of_pos n hm, Int.tmod_lt_of_pos n hm⟩
end Go.Proofs.Ytfmmfaeognoleaa
/-
  Pictures: which may be, and their texels (pure); what comparing two colours comes to; the contracts of texture.Right and of the reference's.
-/
namespace Go.Proofs.Ytfmmfaeognoleaa
open Go.RowKit
attribute [local go_sem ↓] Go.wp_at_zero Go.wp_at_succ

def zC : Col := ⟨0, 0, 0, 0⟩
theorem zC_ok : zC.ok := by unfold zC Col.ok; decide
/-- A picture. -/
structure Tx where
  w : Int
  h : Int
  px : List Col
def Tx.right (t : Tx) : Bool := decide (1 ≤ t.w ∧ t.w ≤ 16 ∧ 1 ≤ t.h ∧ t.h ≤ 16 ∧ (t.px.length : Int) = t.w * t.h)
def Tx.ok (t : Tx) : Prop := ∀ c ∈ t.px, c.ok
theorem getD_ok {l : List Col} (h : ∀ c ∈ l, c.ok) (k : Nat) : (l.getD k zC).ok := by
  rw [List.getD_eq_getElem?_getD]
  cases e : l[k]? with
  | none => exact zC_ok
  | some c => exact h c (List.mem_of_getElem? e)
theorem Tx.fine {t : Tx} (h : t.right = true) : 1 ≤ t.w ∧ t.w ≤ 16 ∧ 1 ≤ t.h ∧ t.h ≤ 16 ∧ (t.px.length : Int) = t.w * t.h := by
  unfold Tx.right at h
  exact of_decide_eq_true h
theorem Tx.right_of {t : Tx} (h : 1 ≤ t.w ∧ t.w ≤ 16 ∧ 1 ≤ t.h ∧ t.h ≤ 16 ∧ (t.px.length : Int) = t.w * t.h) : t.right = true := by
  unfold Tx.right
  exact decide_eq_true h
theorem Tx.not_right {t : Tx} (h : ¬ (1 ≤ t.w ∧ t.w ≤ 16 ∧ 1 ≤ t.h ∧ t.h ≤ 16 ∧ (t.px.length : Int) = t.w * t.h)) : t.right = false := by
  unfold Tx.right
  exact decide_eq_false h
theorem area_bd {a b m : Int} (a0 : 1 ≤ a) (a1 : a ≤ 16) (b0 : 1 ≤ b) (b1 : b ≤ 16) (hm : a * b = m) : 1 ≤ m ∧ m ≤ 256 := by
  rcases sides a0 a1 with rfl | rfl | rfl | rfl | rfl | rfl | rfl | rfl | rfl | rfl | rfl | rfl | rfl | rfl | rfl | rfl <;> omega
/-- The place of a texel in a picture's row of texels. -/
theorem place_bd {a b x y m i : Int} (a0 : 1 ≤ a) (a1 : a ≤ 16) (b0 : 1 ≤ b) (b1 : b ≤ 16) (hm : a * b = m) (x0 : 0 ≤ x) (x1 : x < a) (y0 : 0 ≤ y) (y1 : y < b) (hi : y * a + x = i) : 0 ≤ i ∧ i < m := by
  rcases sides a0 a1 with rfl | rfl | rfl | rfl | rfl | rfl | rfl | rfl | rfl | rfl | rfl | rfl | rfl | rfl | rfl | rfl <;> omega

/-- Two colours are the same. -/
def sameC (u v : Col) : Bool := decide (u = v)
theorem sameC_self (u : Col) : sameC u u = true := by simp [sameC]
theorem eqlC (w : World) (x0 x1 x2 x3 y0 y1 y2 y3 : Int) : (binOp .eql 27 (.agg #[.int .u8 x0, .int .u8 x1, .int .u8 x2, .int .u8 x3]) (.agg #[.int .u8 y0, .int .u8 y1, .int .u8 y2, .int .u8 y3])).run Try.prog w = .ok (.bool (sameC ⟨x0, x1, x2, x3⟩ ⟨y0, y1, y2, y3⟩)) w := by
  have u5 := Try.underlying5
  unfold sameC
  have hS : Try.prog.underlying 27 = some (.struct (Try.prog.fieldsOf 27)) := by kernel_rfl
  have hp : Try.prog.stoodInHeld 27 = false := by kernel_rfl
  rw [run_eql_struct, show (10000 : Nat) = 9999 + 1 from rfl, run_equalIn_agg w 9999 27 _ _ hS hp]
  simp only [Program.fieldsOf, Try.underlying27]
  go_simp
  by_cases h0 : x0 = y0
  · by_cases h1 : x1 = y1
    · by_cases h2 : x2 = y2
      · by_cases h3 : x3 = y3 <;> simp [h0, h1, h2, h3]
      · simp [h0, h1, h2]
    · simp [h0, h1]
  · simp [h0]
theorem guardC : Try.prog.eqGuardType Try.prog.depth 27 = false := by kernel_rfl

/-- A slice's elements are colours. -/
def EC : Elem Col := ⟨27, 4, fun c => [.int .u8 c.r, .int .u8 c.g, .int .u8 c.b, .int .u8 c.a], by decide, fun _ => rfl, fun c u hu => by
  simp only [List.mem_cons, List.not_mem_nil, or_false] at hu
  rcases hu with rfl | rfl | rfl | rfl <;> rfl⟩
theorem atC {w : World} {b o : Nat} {c : Col} (h : AtE EC w b o c) : w.cell? ⟨b, o, none⟩ = some (.int .u8 c.r) ∧ w.cell? ⟨b, o + 1, none⟩ = some (.int .u8 c.g) ∧ w.cell? ⟨b, o + 2, none⟩ = some (.int .u8 c.b) ∧ w.cell? ⟨b, o + 3, none⟩ = some (.int .u8 c.a) :=
  ⟨h 0 _ rfl, h 1 _ rfl, h 2 _ rfl, h 3 _ rfl⟩

theorem new_at1 (w : World) (a : Obj) : (w.alloc a).heap[w.heap.size]? = some a := heap_alloc_new _ _
theorem new_at2 (w : World) (a b : Obj) : ((w.alloc a).alloc b).heap[w.heap.size + 1]? = some b := by
  have h := heap_alloc_new (w.alloc a) b
  rwa [show (w.alloc a).heap.size = w.heap.size + 1 by simp] at h
theorem new_at20 (w : World) (a b : Obj) : ((w.alloc a).alloc b).heap[w.heap.size]? = some a := by
  rw [Below.heap_alloc _ _ _ (by simp)]
  exact heap_alloc_new _ _

set_option maxHeartbeats 1000000 in
theorem areSides_any (a b : Int) (g : Nat) (w : World) (h0 : w.cell? ⟨g, 0, none⟩ = some (.int .i64 a)) (h1 : w.cell? ⟨g, 1, none⟩ = some (.int .i64 b)) :
    Calls Try.prog 70 #[.slice (some ⟨g, 0, none⟩) 2 2] w fun e w' => e = .returned (.bool (decide (1 ≤ a ∧ a ≤ 16 ∧ 1 ≤ b ∧ b ≤ 16))) ∧ w = w' := by
  obtain ⟨r, hr⟩ : ∃ r, decide (1 ≤ a ∧ a ≤ 16 ∧ 1 ≤ b ∧ b ≤ 16) = r := ⟨_, rfl⟩
  rw [hr]
  have HR := Lib.hid hr
  clear hr
  by_cases a0 : a < 1
  · obtain rfl : r = false := by rw [← HR.out]; simp; omega
    go_enter Try.func70, Try.ntmps70
    go_wp2
    refine wp_loop_rounds 3 ?_
    rw [rounds_succ]
    go_wp2
    go_ret
    exact ⟨rfl, rfl⟩
  by_cases a1 : 16 < a
  · obtain rfl : r = false := by rw [← HR.out]; simp; omega
    go_enter Try.func70, Try.ntmps70
    go_wp2
    refine wp_loop_rounds 3 ?_
    rw [rounds_succ]
    go_wp2
    go_ret
    exact ⟨rfl, rfl⟩
  by_cases b0 : b < 1
  · obtain rfl : r = false := by rw [← HR.out]; simp; omega
    go_enter Try.func70, Try.ntmps70
    go_wp2
    refine wp_loop_rounds 3 ?_
    rw [rounds_succ]
    go_wp2
    rw [rounds_succ]
    go_wp2
    go_ret
    exact ⟨rfl, rfl⟩
  by_cases b1 : 16 < b
  · obtain rfl : r = false := by rw [← HR.out]; simp; omega
    go_enter Try.func70, Try.ntmps70
    go_wp2
    refine wp_loop_rounds 3 ?_
    rw [rounds_succ]
    go_wp2
    rw [rounds_succ]
    go_wp2
    go_ret
    exact ⟨rfl, rfl⟩
  obtain rfl : r = true := by rw [← HR.out]; simp; omega
  go_enter Try.func70, Try.ntmps70
  go_wp2
  refine wp_loop_rounds 3 ?_
  rw [rounds_succ]
  go_wp2
  rw [rounds_succ]
  go_wp2
  rw [rounds_succ]
  go_wp2
  go_ret
  exact ⟨rfl, rfl⟩

set_option maxHeartbeats 1000000 in
theorem right_any (t : Tx) (A : Option Addr) (c : Nat) (w : World) :
    Calls Try.prog 37 #[.agg #[.int .i64 t.w, .int .i64 t.h, .slice A t.px.length c]] w fun e w' => e = .returned (.bool t.right) ∧ Below w.heap.size w w' := by
  have HK := Lib.hid fun o o' => (((Below.refl w.heap.size w).alloc (Nat.le_refl _) o).alloc (by simp) o')
  have HS := Lib.hid (areSides_any t.w t.h)
  by_cases hf : 1 ≤ t.w ∧ t.w ≤ 16 ∧ 1 ≤ t.h ∧ t.h ≤ 16
  · obtain ⟨w0, w1, h0, h1⟩ := hf
    obtain ⟨m, hm⟩ : ∃ m, t.w * t.h = m := ⟨_, rfl⟩
    obtain ⟨m0, m1⟩ := area_bd w0 w1 h0 h1 hm
    have hd : decide (1 ≤ t.w ∧ t.w ≤ 16 ∧ 1 ≤ t.h ∧ t.h ≤ 16) = true := by simp; omega
    rw [hd] at HS
    by_cases he : (t.px.length : Int) = m
    · rw [Tx.right_of ⟨w0, w1, h0, h1, by rw [hm]; exact he⟩]
      have d1 : decide ((t.px.length : Int) = m) = true := by simpa using he
      go_enter Try.func37, Try.ntmps37
      go_wp2_with (go_at_call 70; (with_reducible refine (HS.out _ _ (by simp [go_sem]) (by simp [go_sem])).mono ?_); rintro e w' ⟨rfl, rfl⟩)
      go_ret
      exact ⟨rfl, HK.out _ _⟩
    · rw [Tx.not_right (by rw [hm]; omega)]
      have d1 : decide ((t.px.length : Int) = m) = false := by simpa using he
      have d2 : ((t.px.length : Int) == m) = false := by simpa using he
      go_enter Try.func37, Try.ntmps37
      go_wp2_with (go_at_call 70; (with_reducible refine (HS.out _ _ (by simp [go_sem]) (by simp [go_sem])).mono ?_); rintro e w' ⟨rfl, rfl⟩)
      go_ret
      exact ⟨rfl, HK.out _ _⟩
  · have hd : decide (1 ≤ t.w ∧ t.w ≤ 16 ∧ 1 ≤ t.h ∧ t.h ≤ 16) = false := by simpa using hf
    rw [hd] at HS
    rw [Tx.not_right (by omega)]
    clear hf hd
    go_enter Try.func37, Try.ntmps37
    go_wp2_with (go_at_call 70; (with_reducible refine (HS.out _ _ (by simp [go_sem]) (by simp [go_sem])).mono ?_); rintro e w' ⟨rfl, rfl⟩)
    go_ret
    exact ⟨rfl, HK.out _ _⟩

end Go.Proofs.Ytfmmfaeognoleaa
/-
  The statements' few, and the contract of the reference's Fit.
-/
namespace Go.Proofs.Ytfmmfaeognoleaa
open Go.RowKit
attribute [local go_sem ↓] Go.wp_at_zero Go.wp_at_succ

theorem Es.take {w : World} {B : Nat} {A : Option Addr} {xs : List Col} (h : Es EC w B A xs) (k : Nat) : Es EC w B A (xs.take k) := fun hne => by
  obtain ⟨b, off, e, hb, hc⟩ := h (by rintro rfl; simp at hne)
  refine ⟨b, off, e, hb, fun j u hj => hc j u ?_⟩
  rw [List.getElem?_take] at hj
  split at hj
  · exact hj
  · cases hj
/-- A picture of at most 300 texels. -/
def fewT (t : Tx) : Tx := ⟨t.w, t.h, t.px.take 300⟩
theorem fewT_ok {t : Tx} (h : t.ok) : (fewT t).ok := fun c hc => h c (List.mem_of_mem_take hc)

/-- A block that holds a picture. -/
def txB (t : Tx) (A : Option Addr) (c : Nat) : Obj := .cells #[.int .i64 t.w, .int .i64 t.h, .slice A t.px.length c] 49 (0, 0)
theorem txB_cell {w : World} {g : Nat} {t : Tx} {A : Option Addr} {c : Nat} (h : w.heap[g]? = some (txB t A c)) : w.cell? ⟨g, 0, none⟩ = some (.int .i64 t.w) ∧ w.cell? ⟨g, 1, none⟩ = some (.int .i64 t.h) ∧ w.cell? ⟨g, 2, none⟩ = some (.slice A t.px.length c) := by
  unfold txB at h
  exact ⟨Joins.cell_of_block h 0, Joins.cell_of_block h 1, Joins.cell_of_block h 2⟩
theorem txB_free {w : World} {g : Nat} {t : Tx} {A : Option Addr} {c : Nat} (h : w.heap[g]? = some (txB t A c)) : w.frozen? ⟨g, 0, none⟩ = false ∧ w.frozen? ⟨g, 1, none⟩ = false ∧ w.frozen? ⟨g, 2, none⟩ = false := by
  unfold txB at h
  refine ⟨?_, ?_, ?_⟩ <;> simp [World.frozen?, h]
theorem txB_lt {w : World} {g : Nat} {t : Tx} {A : Option Addr} {c : Nat} (h : w.heap[g]? = some (txB t A c)) : g < w.heap.size := (Array.getElem?_eq_some_iff.1 h).1
theorem txB_grow {w w' : World} {g : Nat} {t : Tx} {A : Option Addr} {c : Nat} (h : w.heap[g]? = some (txB t A c)) (k : Below w.heap.size w w') : w'.heap[g]? = some (txB t A c) := (k.block _ (txB_lt h)).trans h
theorem same_below {w w' : World} (h : w = w') : Below w.heap.size w w' := h ▸ Below.refl _ _
theorem rwrap_any (n s : Int) (hn : I64 n) (h0 : 1 ≤ s) (h1 : s ≤ 16) (w : World) :
    Calls Try.prog 42 #[.int .i64 n, .int .i64 s] w fun e w' => e = .returned (.int .i64 (n % s)) ∧ Below w.heap.size w w' := (wrap_any n s hn h0 h1 w).mono fun _ _ h => ⟨h.1, same_below h.2⟩
end Go.Proofs.Ytfmmfaeognoleaa
