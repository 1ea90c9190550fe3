/-
  Plain mathematics of layer 3: numbers folded, put as bytes, and read again. No program is named here.
-/
import Derived.Below
import Derived.Test.YtfmmfaeognoleaaM4
import Derived.Test.YtfmmfaeognoleaaRows
import Derived.WalkKit
import Derived.WalkSpells
import Derived.Deep.QuietTactic
import Derived.BigQuiet
import Derived.Lib.Hide
import Derived.Laws.BitsAllLaws
import Derived.Laws.BitsLemmas
import Derived.Laws.Bits64b
import Derived.Maps.AppendAt
import Derived.RangeFuncBox
namespace Go.Proofs.Ytfmmfaeognoleaa.P

def fold (n : Int) : Nat := if n < 0 then 2 * (-(n + 1)).toNat + 1 else 2 * n.toNat
def unf (u : Nat) : Int := if u % 2 = 1 then -((u / 2 : Nat) : Int) - 1 else ((u / 2 : Nat) : Int)
def In64 (n : Int) : Prop := -9223372036854775808 ≤ n ∧ n ≤ 9223372036854775807

theorem unf_fold (n : Int) : unf (fold n) = n := by
  unfold unf fold
  by_cases h : n < 0
  · rw [if_pos h, if_pos (by omega)]; omega
  · rw [if_neg h, if_neg (by omega)]; omega
theorem fold_unf (u : Nat) : fold (unf u) = u := by
  unfold unf fold
  by_cases h : u % 2 = 1
  · rw [if_pos h, if_pos (by omega)]; omega
  · rw [if_neg h, if_neg (by omega)]; omega
theorem fold_lt {n : Int} (h : In64 n) : fold n < 18446744073709551616 := by
  unfold In64 at h
  unfold fold
  split <;> omega
theorem unf_in {u : Nat} (h : u < 18446744073709551616) : In64 (unf u) := by
  unfold In64 unf
  split <;> omega

def enc (u : Nat) : List Int := if u < 128 then [(u : Int)] else ((u % 128 + 128 : Nat) : Int) :: enc (u / 128)
termination_by u
decreasing_by omega

theorem enc_lt {u : Nat} (h : u < 128) : enc u = [(u : Int)] := by rw [enc, if_pos h]
theorem enc_ge {u : Nat} (h : ¬ u < 128) : enc u = ((u % 128 + 128 : Nat) : Int) :: enc (u / 128) := by rw [enc, if_neg h]

def Byt (l : List Int) : Prop := ∀ x ∈ l, 0 ≤ x ∧ x ≤ 255
theorem Byt.nil : Byt [] := fun _ h => by simp at h
theorem Byt.app {a b : List Int} (h : Byt a) (k : Byt b) : Byt (a ++ b) := fun x hx => (List.mem_append.1 hx).elim (h x) (k x)
theorem Byt.take {a : List Int} (h : Byt a) (n : Nat) : Byt (a.take n) := fun x hx => h x (List.mem_of_mem_take hx)
theorem Byt.drop {a : List Int} (h : Byt a) (n : Nat) : Byt (a.drop n) := fun x hx => h x (List.mem_of_mem_drop hx)
theorem Byt.get {a : List Int} (h : Byt a) (n : Nat) : 0 ≤ a.getD n 0 ∧ a.getD n 0 ≤ 255 := by
  rcases Nat.lt_or_ge n a.length with hl | hl
  · rw [List.getD_eq_getElem?_getD, List.getElem?_eq_getElem hl]; exact h _ (List.getElem_mem hl)
  · rw [List.getD_eq_getElem?_getD, List.getElem?_eq_none hl]; simp

theorem enc_byt (u : Nat) : Byt (enc u) := by
  induction u using Nat.strongRecOn with
  | ind u ih =>
    by_cases h : u < 128
    · rw [enc_lt h]; intro x hx; simp at hx; omega
    · rw [enc_ge h]; intro x hx
      rcases List.mem_cons.1 hx with rfl | hx
      · omega
      · exact ih _ (by omega) x hx

theorem enc_pos (u : Nat) : 1 ≤ (enc u).length := by
  by_cases h : u < 128
  · rw [enc_lt h]; simp
  · rw [enc_ge h]; simp

theorem enc_mono : ∀ (v u : Nat), u ≤ v → (enc u).length ≤ (enc v).length := by
  intro v
  induction v using Nat.strongRecOn with
  | ind v ih =>
    intro u huv
    by_cases h : u < 128
    · rw [enc_lt h]; exact enc_pos v
    · rw [enc_ge h, enc_ge (u := v) (by omega)]
      simp only [List.length_cons]
      have := ih (v / 128) (by omega) (u / 128) (by omega)
      omega

theorem enc_len_step {u k : Nat} (h : (enc (u / 128)).length ≤ k) : (enc u).length ≤ k + 1 := by
  by_cases hu : u < 128
  · rw [enc_lt hu]; simp
  · rw [enc_ge hu]; simp; exact h

theorem enc_len10 {u : Nat} (h : u < 18446744073709551616) : (enc u).length ≤ 10 := by
  have e1 : ∀ x, x < 128 → (enc x).length ≤ 1 := fun x hx => by rw [enc_lt hx]; simp
  refine enc_len_step (enc_len_step (enc_len_step (enc_len_step (enc_len_step (enc_len_step (enc_len_step (enc_len_step (enc_len_step (e1 _ ?_)))))))))
  omega

theorem enc_one (u : Nat) : (enc u).length = 1 ↔ u < 128 := by
  constructor
  · intro h
    rcases Nat.lt_or_ge u 128 with hu | hu
    · exact hu
    · rw [enc_ge (by omega)] at h; simp only [List.length_cons] at h
      have := enc_pos (u / 128); omega
  · intro h; rw [enc_lt h]; simp

theorem enc_two (u : Nat) : (enc u).length ≤ 2 ↔ u < 16384 := by
  by_cases hu : u < 128
  · rw [enc_lt hu]; simp; omega
  · rw [enc_ge hu]; simp only [List.length_cons]
    have h1 := enc_one (u / 128)
    have h2 := enc_pos (u / 128)
    omega

/-- The bytes of an even number and of the next one: the first one is one more, the others are the same. -/
theorem enc_next (m : Nat) : ∃ (a : Int) (t : List Int), enc (2 * m) = a :: t ∧ enc (2 * m + 1) = (a + 1) :: t ∧ 0 ≤ a ∧ a + 1 ≤ 255 := by
  by_cases h : 2 * m < 128
  · exact ⟨((2 * m : Nat) : Int), [], by rw [enc_lt h], by rw [enc_lt (by omega)]; simp, by omega, by omega⟩
  · refine ⟨((2 * m % 128 + 128 : Nat) : Int), enc (2 * m / 128), by rw [enc_ge h], ?_, by omega, by omega⟩
    rw [enc_ge (by omega), show (2 * m + 1) / 128 = 2 * m / 128 by omega]
    congr 1
    omega

def scan : Nat → Nat → List Int → Int × Nat
  | _, _, [] => (0, 0)
  | i, u, p :: r => if 10 ≤ i then (0, 0) else if 128 ≤ p then scan (i + 1) (u + (p.toNat % 128) * 128 ^ i) r else
      if (0 < i ∧ p = 0) ∨ (i = 9 ∧ 1 < p) then (0, 0) else (unf (u + p.toNat * 128 ^ i), i + 1)
def first (b : List Int) : Int × Nat := scan 0 0 b

theorem scan_ten (i u : Nat) (h : 10 ≤ i) : ∀ l, scan i u l = (0, 0)
  | [] => rfl
  | p :: r => by rw [scan, if_pos h]
theorem scan_more {i u : Nat} {p : Int} {r : List Int} (h : i < 10) (hp : 128 ≤ p) : scan i u (p :: r) = scan (i + 1) (u + (p.toNat % 128) * 128 ^ i) r := by
  rw [scan, if_neg (by omega), if_pos hp]
theorem scan_bad {i u : Nat} {p : Int} {r : List Int} (h : i < 10) (hp : p < 128) (hb : (0 < i ∧ p = 0) ∨ (i = 9 ∧ 1 < p)) : scan i u (p :: r) = (0, 0) := by
  rw [scan, if_neg (by omega), if_neg (by omega), if_pos hb]
theorem scan_good {i u : Nat} {p : Int} {r : List Int} (h : i < 10) (hp : p < 128) (hb : ¬ ((0 < i ∧ p = 0) ∨ (i = 9 ∧ 1 < p))) : scan i u (p :: r) = (unf (u + p.toNat * 128 ^ i), i + 1) := by
  rw [scan, if_neg (by omega), if_neg (by omega), if_neg hb]

theorem pow_parts (k : Nat) : 128 ^ (k + 1) = 128 ^ k * 128 := Nat.pow_succ ..

theorem ten_cases {k : Nat} (h : k < 10) : k = 0 ∨ k = 1 ∨ k = 2 ∨ k = 3 ∨ k = 4 ∨ k = 5 ∨ k = 6 ∨ k = 7 ∨ k = 8 ∨ k = 9 := by omega

theorem step_lt {q x A R T : Nat} (hq : q < 128) (hA : 0 < A) (hR : R * (A * 128) = T) (h : x * (A * 128) < T) : (q + 128 * x) * A < T := by
  subst hR
  have hx : x < R := Nat.lt_of_mul_lt_mul_right h
  have h1 : q + 128 * x < R * 128 := by omega
  have h2 := Nat.mul_lt_mul_of_pos_right h1 hA
  rwa [Nat.mul_assoc, Nat.mul_comm 128 A] at h2

theorem step_lt9 {q x k : Nat} (hq : q < 128) (hk : k + 1 < 10) (h : x * 128 ^ (k + 1) < 18446744073709551616) : (q + 128 * x) * 128 ^ k < 18446744073709551616 := by
  rw [pow_parts] at h
  refine step_lt (R := 2 ^ 64 / 128 ^ (k + 1)) hq (Nat.pow_pos (by decide)) ?_ h
  rcases ten_cases (k := k) (by omega) with rfl | rfl | rfl | rfl | rfl | rfl | rfl | rfl | rfl | rfl
  all_goals first | decide | omega

/-- x * 128 ^ k is of 64 bits: at the tenth part x is 0 or 1. -/
theorem last_small {x : Nat} (h : x * 128 ^ 9 < 18446744073709551616) : x ≤ 1 := by
  simp at h; omega

theorem scan_enc : ∀ (x k u : Nat) (r : List Int), k < 10 → x * 128 ^ k < 18446744073709551616 → (k = 0 ∨ 0 < x) →
    scan k u (enc x ++ r) = (unf (u + x * 128 ^ k), k + (enc x).length) := by
  intro x
  induction x using Nat.strongRecOn with
  | ind x ih =>
    intro k u r hk hx h0
    by_cases h : x < 128
    · rw [enc_lt h]
      show scan k u ((x : Int) :: r) = _
      rw [scan_good hk (by omega) ?_]
      · simp
      · rintro (⟨h1, h2⟩ | ⟨h1, h2⟩)
        · omega
        · subst h1; have := last_small hx; omega
    · rw [enc_ge h]
      have hk9 : k ≠ 9 := by rintro rfl; have := last_small hx; omega
      have e1 : x * 128 ^ k = x % 128 * 128 ^ k + x / 128 * 128 ^ (k + 1) := by
        rw [pow_parts, Nat.mul_comm (128 ^ k) 128, ← Nat.mul_assoc, ← Nat.add_mul]
        congr 1; omega
      show scan k u (((x % 128 + 128 : Nat) : Int) :: (enc (x / 128) ++ r)) = _
      rw [scan_more hk (by omega), ih (x / 128) (by omega) (k + 1) _ r (by omega) (by omega) (by omega)]
      rw [show ((x % 128 + 128 : Nat) : Int).toNat % 128 = x % 128 by omega]
      refine Prod.ext ?_ ?_
      · show unf _ = unf _
        congr 1; omega
      · simp only [List.length_cons]; omega

theorem scan_inv : ∀ (l : List Int) (k u : Nat) (n : Int) (s : Nat), Byt l → scan k u l = (n, s) → s ≠ 0 →
    k < 10 ∧ ∃ x r, l = enc x ++ r ∧ s = k + (enc x).length ∧ n = unf (u + x * 128 ^ k) ∧ x * 128 ^ k < 18446744073709551616 ∧ (k = 0 ∨ 0 < x) := by
  intro l
  induction l with
  | nil => intro k u n s _ h hs; simp [scan] at h; omega
  | cons p r ih =>
    intro k u n s hb h hs
    have hp := hb p (by simp)
    by_cases hk : 10 ≤ k
    · rw [scan_ten _ _ hk] at h; simp at h; omega
    by_cases hp128 : 128 ≤ p
    · rw [scan_more (by omega) hp128] at h
      obtain ⟨hk1, x, r', hl, hs', hn, hx, h0⟩ := ih (k + 1) _ n s (fun y hy => hb y (List.mem_cons_of_mem _ hy)) h hs
      have hx0 : 0 < x := by omega
      refine ⟨by omega, p.toNat % 128 + 128 * x, r', ?_, ?_, ?_, ?_, by omega⟩
      · rw [enc_ge (by omega), show (p.toNat % 128 + 128 * x) / 128 = x by omega, hl]
        show p :: (enc x ++ r') = ((_ : Nat) : Int) :: (enc x ++ r')
        congr 1; omega
      · rw [enc_ge (by omega), show (p.toNat % 128 + 128 * x) / 128 = x by omega, hs']
        simp only [List.length_cons]; omega
      · rw [hn]
        congr 1
        rw [Nat.add_mul, pow_parts, Nat.mul_comm 128 x, Nat.mul_assoc, Nat.mul_comm 128 (128 ^ k)]; omega
      · clear ih h hn hl hs' hb
        have hq : p.toNat % 128 < 128 := by omega
        generalize p.toNat % 128 = q at hq ⊢
        exact step_lt9 hq hk1 hx
    · by_cases hbad : (0 < k ∧ p = 0) ∨ (k = 9 ∧ 1 < p)
      · rw [scan_bad (by omega) (by omega) hbad] at h; simp at h; omega
      · rw [scan_good (by omega) (by omega) hbad] at h
        simp only [Prod.mk.injEq] at h
        obtain ⟨hn, hs'⟩ := h
        refine ⟨by omega, p.toNat, r, ?_, ?_, hn.symm, ?_, by omega⟩
        · rw [enc_lt (by omega)]
          show p :: r = ((p.toNat : Nat) : Int) :: r
          congr 1; omega
        · rw [enc_lt (by omega)]; simp; omega
        · rcases ten_cases (k := k) (by omega) with rfl | rfl | rfl | rfl | rfl | rfl | rfl | rfl | rfl | rfl <;> simp only [Nat.reducePow] <;> omega

/-- What was put is read, and nothing behind it. -/
theorem first_put {n : Int} (h : In64 n) (r : List Int) : first (enc (fold n) ++ r) = (n, (enc (fold n)).length) := by
  unfold first
  rw [scan_enc _ 0 0 r (by decide) (by simpa using fold_lt h) (.inl rfl)]
  simp [unf_fold]

/-- What is read was put. -/
theorem first_inv {b : List Int} {n : Int} {s : Nat} (hb : Byt b) (h : first b = (n, s)) (hs : s ≠ 0) :
    In64 n ∧ s = (enc (fold n)).length ∧ b = enc (fold n) ++ b.drop s ∧ s ≤ b.length ∧ 1 ≤ s ∧ s ≤ 10 := by
  obtain ⟨_, x, r, hl, hs', hn, hx, _⟩ := scan_inv b 0 0 n s hb h hs
  simp at hs' hn hx
  have hf : fold n = x := by rw [hn, fold_unf]
  have hin : In64 n := by rw [hn]; exact unf_in hx
  have hd : b.drop s = r := by rw [hl, hs']; simp
  have hlen : s ≤ b.length := by rw [hl, hs']; simp
  have := enc_pos x
  have := enc_len10 hx
  exact ⟨hin, by rw [hf, hs'], by rw [hd, hf]; exact hl, hlen, by omega, by omega⟩

theorem scan_zero : ∀ (l : List Int) (k u : Nat) (n : Int), scan k u l = (n, 0) → n = 0 := by
  intro l
  induction l with
  | nil => intro k u n h; simp [scan] at h; exact h.symm
  | cons p r ih =>
    intro k u n h
    by_cases hk : 10 ≤ k
    · rw [scan_ten _ _ hk] at h; simp at h; exact h.symm
    by_cases hp128 : 128 ≤ p
    · rw [scan_more (by omega) hp128] at h; exact ih _ _ _ h
    · by_cases hbad : (0 < k ∧ p = 0) ∨ (k = 9 ∧ 1 < p)
      · rw [scan_bad (by omega) (by omega) hbad] at h; simp at h; exact h.symm
      · rw [scan_good (by omega) (by omega) hbad] at h
        simp at h

theorem first_zero {b : List Int} {n : Int} (h : first b = (n, 0)) : n = 0 := scan_zero b 0 0 n h

/-- All numbers put, one behind the other. -/
def put (l : List Int) : List Int := l.flatMap fun n => enc (fold n)
theorem put_nil : put [] = [] := rfl
theorem put_cons (n : Int) (l : List Int) : put (n :: l) = enc (fold n) ++ put l := rfl
theorem put_app (a b : List Int) : put (a ++ b) = put a ++ put b := by simp [put]
theorem put_snoc (a : List Int) (n : Int) : put (a ++ [n]) = put a ++ enc (fold n) := by simp [put]
theorem put_byt (l : List Int) : Byt (put l) := by
  induction l with
  | nil => exact Byt.nil
  | cons n l ih => rw [put_cons]; exact (enc_byt _).app ih
def Ins (l : List Int) : Prop := ∀ n ∈ l, In64 n
theorem Ins.take {l : List Int} (h : Ins l) (k : Nat) : Ins (l.take k) := fun n hn => h n (List.mem_of_mem_take hn)
theorem Ins.app {a b : List Int} (h : Ins a) (k : Ins b) : Ins (a ++ b) := fun x hx => (List.mem_append.1 hx).elim (h x) (k x)
theorem Ins.get {l : List Int} (h : Ins l) (k : Nat) : In64 (l.getD k 0) := by
  rcases Nat.lt_or_ge k l.length with hl | hl
  · rw [List.getD_eq_getElem?_getD, List.getElem?_eq_getElem hl]; exact h _ (List.getElem_mem hl)
  · rw [List.getD_eq_getElem?_getD, List.getElem?_eq_none hl]; unfold In64; simp
theorem put_len {l : List Int} (h : Ins l) : l.length ≤ (put l).length ∧ (put l).length ≤ 10 * l.length := by
  induction l with
  | nil => simp [put]
  | cons n l ih =>
    have h1 := ih fun x hx => h x (List.mem_cons_of_mem _ hx)
    have h2 := enc_pos (fold n)
    have h3 := enc_len10 (fold_lt (h n (by simp)))
    rw [put_cons]; simp only [List.length_append, List.length_cons]; omega

/-- The numbers with which bytes begin, each with true; then, if bytes are left, 0 with false. -/
def seq (b : List Int) : List (Int × Bool) :=
  if b = [] then [] else if (first b).2 = 0 then [(0, false)] else if _h : (first b).2 ≤ b.length then ((first b).1, true) :: seq (b.drop (first b).2) else []
termination_by b.length
decreasing_by simp only [List.length_drop]; omega

theorem seq_nil : seq [] = [] := by rw [seq, if_pos rfl]
theorem seq_bad {b : List Int} {n : Int} (hb : b ≠ []) (h : first b = (n, 0)) : seq b = [(0, false)] := by rw [seq, if_neg hb, if_pos (by rw [h])]
theorem seq_good {b : List Int} {n : Int} {s : Nat} (hb : Byt b) (h : first b = (n, s)) (hs : s ≠ 0) : seq b = (n, true) :: seq (b.drop s) := by
  obtain ⟨_, _, _, hl, h1, _⟩ := first_inv hb h hs
  have hne : b ≠ [] := by rintro rfl; simp at hl; omega
  rw [seq, if_neg hne, if_neg (by rw [h]; exact hs), dif_pos (by rw [h]; exact hl), h]

theorem seq_put {l : List Int} (h : Ins l) (r : List Int) : seq (put l ++ r) = l.map (fun n => (n, true)) ++ seq r := by
  induction l with
  | nil => simp [put]
  | cons n l ih =>
    have hn := h n (by simp)
    have hp := enc_pos (fold n)
    rw [put_cons, List.append_assoc]
    have hf := first_put hn (put l ++ r)
    have hne : enc (fold n) ++ (put l ++ r) ≠ [] := by intro e; have := congrArg List.length e; simp only [List.length_append, List.length_nil] at this; omega
    rw [seq, if_neg hne, if_neg (by rw [hf]; show ¬ (enc (fold n)).length = 0; omega), dif_pos (by rw [hf]; simp), hf]
    simp [ih fun x hx => h x (List.mem_cons_of_mem _ hx)]

def nums (q : List (Int × Bool)) : List Int := (q.filter (·.2)).map (·.1)
def flag (q : List (Int × Bool)) : Bool := q.any fun x => !x.2
theorem nums_snoc_t (q : List (Int × Bool)) (n : Int) : nums (q ++ [(n, true)]) = nums q ++ [n] := by simp [nums]
theorem nums_snoc_f (q : List (Int × Bool)) (n : Int) : nums (q ++ [(n, false)]) = nums q := by simp [nums]
theorem flag_snoc_t (q : List (Int × Bool)) (n : Int) : flag (q ++ [(n, true)]) = flag q := by simp [flag]
theorem flag_snoc_f (q : List (Int × Bool)) (n : Int) : flag (q ++ [(n, false)]) = true := by simp [flag]
theorem nums_le (q : List (Int × Bool)) : (nums q).length ≤ q.length := by unfold nums; rw [List.length_map]; exact List.length_filter_le _ _

theorem seq_len : ∀ (k : Nat) (b : List Int), b.length ≤ k → Byt b → (seq b).length ≤ b.length ∧ Ins (nums (seq b)) ∧
    (∃ (q : List Int) (t : List (Int × Bool)), seq b = q.map (fun n => (n, true)) ++ t ∧ (t = [] ∨ t = [(0, false)])) := by
  intro k
  induction k with
  | zero =>
    intro b hb _
    have : b = [] := List.eq_nil_of_length_eq_zero (by omega)
    subst this; rw [seq_nil]; exact ⟨by simp, fun _ h => by simp [nums] at h, [], [], rfl, .inl rfl⟩
  | succ k ih =>
    intro b hbk hb
    by_cases hne : b = []
    · subst hne; rw [seq_nil]; exact ⟨by simp, fun _ h => by simp [nums] at h, [], [], rfl, .inl rfl⟩
    have hl0 : 0 < b.length := List.length_pos_iff.2 hne
    obtain ⟨n, s, hf⟩ : ∃ n s, first b = (n, s) := ⟨_, _, rfl⟩
    by_cases hs : s = 0
    · subst hs; rw [seq_bad hne hf]; exact ⟨by simp; omega, fun _ h => by simp [nums] at h, [], [(0, false)], rfl, .inr rfl⟩
    · obtain ⟨hin, _, _, hl, h1, _⟩ := first_inv hb hf hs
      obtain ⟨ha, hc, q, t, hq, ht⟩ := ih (b.drop s) (by rw [List.length_drop]; omega) (hb.drop s)
      rw [seq_good hb hf hs]
      refine ⟨by rw [List.length_drop] at ha; simp only [List.length_cons]; omega, ?_, n :: q, t, by rw [hq]; rfl, ht⟩
      intro x hx
      rw [show nums ((n, true) :: seq (b.drop s)) = n :: nums (seq (b.drop s)) by simp [nums]] at hx
      rcases List.mem_cons.1 hx with rfl | hx
      · exact hin
      · exact hc x hx

end Go.Proofs.Ytfmmfaeognoleaa.P
/-
  Plain mathematics for WireBack and WireLeft: what a part of the bytes says.
-/
namespace Go.Proofs.Ytfmmfaeognoleaa.P

theorem nums_trues (q : List Int) : nums (q.map fun n => (n, true)) = q := by simp [nums, List.filter_map, Function.comp_def]
theorem flag_trues (q : List Int) : flag (q.map fun n => (n, true)) = false := by simp [flag]

theorem seq_all {l : List Int} (h : Ins l) : seq (put l) = l.map fun n => (n, true) := by
  have := seq_put h []
  rw [List.append_nil, seq_nil, List.append_nil] at this
  exact this

theorem seq_part {n : Int} (hn : In64 n) {k : Nat} (hk : k < (enc (fold n)).length) : nums (seq ((enc (fold n)).take k)) = [] := by
  by_cases he : (enc (fold n)).take k = []
  · rw [he, seq_nil]; rfl
  obtain ⟨x, s, hf⟩ : ∃ x s, first ((enc (fold n)).take k) = (x, s) := ⟨_, _, rfl⟩
  by_cases hs : s = 0
  · subst hs; rw [seq_bad he hf]; rfl
  exfalso
  obtain ⟨hx, hsl, happ, hle, _, _⟩ := first_inv ((enc_byt _).take k) hf hs
  have h1 := first_put hn []
  rw [List.append_nil] at h1
  have h2 : enc (fold n) = enc (fold x) ++ (((enc (fold n)).take k).drop s ++ (enc (fold n)).drop k) := by
    rw [← List.append_assoc, ← happ, List.take_append_drop]
  have h3 := first_put hx (((enc (fold n)).take k).drop s ++ (enc (fold n)).drop k)
  rw [← h2, h1] at h3
  have h4 := congrArg Prod.snd h3
  simp only at h4
  rw [List.length_take] at hle
  omega

theorem seq_cut : ∀ {l : List Int} (_ : Ins l) (k : Nat), k ≤ (put l).length → ∃ j, j ≤ l.length ∧ nums (seq ((put l).take k)) = l.take j ∧ (k < (put l).length → j < l.length) := by
  intro l
  induction l with
  | nil => intro _ k hk; exact ⟨0, by simp, by simp [put, seq_nil, nums], fun h => by simp [put] at h⟩
  | cons n l ih =>
    intro h k hk
    have hn := h n (by simp)
    have hl : Ins l := fun x hx => h x (List.mem_cons_of_mem _ hx)
    by_cases hkn : k < (enc (fold n)).length
    · refine ⟨0, by simp, ?_, fun _ => by simp⟩
      rw [put_cons, List.take_append_of_le_length (by omega), seq_part hn hkn]; rfl
    · rw [put_cons, List.length_append] at hk
      obtain ⟨j, hj, hjn, hjk⟩ := ih hl (k - (enc (fold n)).length) (by omega)
      refine ⟨j + 1, by simp; omega, ?_, fun hlt => ?_⟩
      · have e : (put (n :: l)).take k = put [n] ++ (put l).take (k - (enc (fold n)).length) := by
          rw [put_cons, put_cons, put_nil, List.append_nil, List.take_append, List.take_of_length_le (by omega)]
        rw [e, seq_put (fun x hx => by simp at hx; subst hx; exact hn)]
        show nums ((n, true) :: seq _) = _
        rw [show nums ((n, true) :: seq ((put l).take (k - (enc (fold n)).length))) = n :: nums (seq ((put l).take (k - (enc (fold n)).length))) by simp [nums], hjn]; rfl
      · rw [put_cons, List.length_append] at hlt
        have := hjk (by omega)
        simp; omega

theorem first_here {l : List Int} (h : Ins l) {i : Nat} (hi : i < l.length) {n : Int} (hn : l.getD i 0 = n) : first (put (l.drop i)) = (n, (enc (fold n)).length) ∧ (put (l.drop i)).drop (enc (fold n)).length = put (l.drop (i + 1)) := by
  have e : l.drop i = n :: l.drop (i + 1) := by
    rw [List.drop_eq_getElem_cons hi, ← hn, List.getD_eq_getElem?_getD, List.getElem?_eq_getElem hi]; rfl
  have hin : In64 n := by rw [← hn]; exact h.get i
  rw [e, put_cons]
  exact ⟨first_put hin _, by simp⟩
theorem Ins.drop {l : List Int} (h : Ins l) (k : Nat) : Ins (l.drop k) := fun n hn => h n (List.mem_of_mem_drop hn)
end Go.Proofs.Ytfmmfaeognoleaa.P
/-
  Scenes as numbers, and numbers as scenes (pure): what is said, and how it is read, as package codec reads it.
-/
namespace Go.Proofs.Ytfmmfaeognoleaa

def nC (c : Col) : List Int := [c.r, c.g, c.b, c.a]
def nV (v : U.V) : List Int := [v.x, v.y, v.z, v.w, v.a, v.b, v.c, v.d]
def nI (x : C.In) : List Int := [x.o, x.d, x.a, x.b, x.n]
def nR (t : Tr) : List Int := [t.i, t.a, t.b, t.c]
def nAll {α : Type} (g : α → List Int) (l : List α) : List Int := (l.length : Int) :: l.flatMap g
def nT (t : Tx) : List Int := t.w :: t.h :: nAll nC t.px
def nP (l : List C.In) : List Int := nAll nI l
def nB (b : Bool) : Int := if b then 1 else 0
def nD (d : Dr) : List Int := d.id :: d.prog :: d.tex :: nB d.op :: nAll nR d.tris
def nS (p : PS) : List Int := p.w :: p.h :: (nC p.k ++ (nAll nV p.vs ++ (nAll nT p.ts ++ (nAll nP p.ps ++ nAll nD p.ds))))

/-- What is left to be read, and whether it went bad. -/
structure St where
  l : List Int
  bad : Bool
def rNum (s : St) : Int × St := match s.l with
  | [] => (0, ⟨[], true⟩)
  | n :: r => (n, ⟨r, s.bad⟩)
def rUp (m : Int) (s : St) : Int × St := if (rNum s).1 < 0 ∨ m < (rNum s).1 then (0, ⟨(rNum s).2.l, true⟩) else rNum s
def rSm (s : St) : Int × St := rUp 255 s
def rSign (s : St) : Bool × St := (decide ((rUp 1 s).1 = 1), (rUp 1 s).2)
/-- So many, one behind the other. -/
def rRep {α : Type} (f : St → α × St) : Nat → St → List α × St
  | 0, s => ([], s)
  | k + 1, s => ((rRep f k s).1 ++ [(f (rRep f k s).2).1], (f (rRep f k s).2).2)
def rMany (s : St) : Int × St := rUp (s.l.length - 1) s
def rAll {α : Type} (f : St → α × St) (s : St) : List α × St := rRep f (rMany s).1.toNat (rMany s).2
def rC (s : St) : Col × St :=
  let a := rSm s; let b := rSm a.2; let c := rSm b.2; let d := rSm c.2
  (⟨a.1, b.1, c.1, d.1⟩, d.2)
def rV (s : St) : U.V × St :=
  let a := rNum s; let b := rNum a.2; let c := rNum b.2; let d := rNum c.2; let e := rNum d.2; let f := rNum e.2; let g := rNum f.2; let h := rNum g.2
  (⟨a.1, b.1, c.1, d.1, e.1, f.1, g.1, h.1⟩, h.2)
def rI (s : St) : C.In × St :=
  let a := rSm s; let b := rSm a.2; let c := rSm b.2; let d := rSm c.2; let e := rNum d.2
  (⟨a.1, b.1, c.1, d.1, e.1⟩, e.2)
def rR (s : St) : Tr × St :=
  let a := rNum s; let b := rNum a.2; let c := rNum b.2; let d := rNum c.2
  (⟨a.1, b.1, c.1, d.1⟩, d.2)
def rT (s : St) : Tx × St :=
  let a := rNum s; let b := rNum a.2; let c := rAll rC b.2
  (⟨a.1, b.1, c.1⟩, c.2)
def rP (s : St) : List C.In × St := rAll rI s
def rD (s : St) : Dr × St :=
  let a := rNum s; let b := rNum a.2; let c := rNum b.2; let d := rSign c.2; let e := rAll rR d.2
  (⟨a.1, b.1, c.1, d.1, e.1⟩, e.2)
def rS (s : St) : PS × St :=
  let a := rNum s; let b := rNum a.2; let c := rC b.2; let d := rAll rV c.2; let e := rAll rT d.2; let f := rAll rP e.2; let g := rAll rD f.2
  (⟨a.1, b.1, c.1, d.1, e.1, f.1, g.1⟩, g.2)

/-- A way to read goes with a way to say. -/
structure Goes {α : Type} (f : St → α × St) (g : α → List Int) (ok : α → Prop) : Prop where
  fwd : ∀ x r b, ok x → f ⟨g x ++ r, b⟩ = (x, ⟨r, b⟩)
  mono : ∀ s, (f s).2.bad = false → s.bad = false
  inv : ∀ s, (f s).2.bad = false → s.l = g (f s).1 ++ (f s).2.l
  ok : ∀ s, (f s).2.bad = false → P.Ins s.l → ok (f s).1
section
variable {α : Type} {f : St → α × St} {g : α → List Int} {ok : α → Prop}
theorem ins_right {a b : List Int} (h : P.Ins (a ++ b)) : P.Ins b := fun n hn => h n (List.mem_append_right _ hn)
theorem ins_left {a b : List Int} (h : P.Ins (a ++ b)) : P.Ins a := fun n hn => h n (List.mem_append_left _ hn)
theorem Goes.next (h : Goes f g ok) {s : St} (hb : (f s).2.bad = false) (hi : P.Ins s.l) : P.Ins (f s).2.l := by
  have := h.inv s hb
  rw [this] at hi
  exact ins_right hi
theorem num_goes : Goes rNum (fun n => [n]) I64 where
  fwd x r b _ := rfl
  mono s hb := by
    obtain ⟨l, b⟩ := s
    cases l with
    | nil => cases hb
    | cons n r => exact hb
  inv s hb := by
    obtain ⟨l, b⟩ := s
    cases l with
    | nil => cases hb
    | cons n r => rfl
  ok s hb hi := by
    obtain ⟨l, b⟩ := s
    cases l with
    | nil => cases hb
    | cons n r => exact hi n (by simp)
theorem up_of {m : Int} {s : St} (hb : (rUp m s).2.bad = false) : rUp m s = rNum s ∧ 0 ≤ (rNum s).1 ∧ (rNum s).1 ≤ m := by
  unfold rUp at hb ⊢
  split at hb
  · cases hb
  · rename_i hn
    rw [if_neg hn]
    exact ⟨rfl, by omega, by omega⟩
theorem up_goes (m : Int) : Goes (rUp m) (fun n => [n]) (fun n => 0 ≤ n ∧ n ≤ m) where
  fwd x r b h := by
    show (if x < 0 ∨ m < x then _ else _) = _
    rw [if_neg (by omega)]
    rfl
  mono s hb := by
    have e := (up_of hb).1
    rw [e] at hb
    exact num_goes.mono s hb
  inv s hb := by
    have e := (up_of hb).1
    rw [e] at hb ⊢
    exact num_goes.inv s hb
  ok s hb _ := by
    obtain ⟨e, h1, h2⟩ := up_of hb
    rw [e]
    exact ⟨h1, h2⟩
theorem sign_goes : Goes rSign (fun b => [nB b]) (fun _ => True) where
  fwd x r b _ := by
    unfold rSign
    cases x
    · rw [show ([nB false] ++ r : List Int) = [0] ++ r from rfl, (up_goes 1).fwd 0 r b (by omega)]
      rfl
    · rw [show ([nB true] ++ r : List Int) = [1] ++ r from rfl, (up_goes 1).fwd 1 r b (by omega)]
      rfl
  mono s hb := (up_goes 1).mono s hb
  inv s hb := by
    obtain ⟨e, h1, h2⟩ := up_of (s := s) (m := 1) hb
    have h3 := (up_goes 1).inv s hb
    rw [h3]
    unfold rSign
    rw [e]
    have : (rNum s).1 = 0 ∨ (rNum s).1 = 1 := by omega
    rcases this with e | e <;> rw [e] <;> rfl
  ok s _ _ := trivial
theorem rep_mono (h : Goes f g ok) : ∀ (k : Nat) (s : St), (rRep f k s).2.bad = false → s.bad = false
  | 0, _, hb => hb
  | k + 1, s, hb => rep_mono h k s (h.mono _ hb)
theorem rep_len : ∀ (k : Nat) (s : St), (rRep f k s).1.length = k
  | 0, _ => rfl
  | k + 1, s => by
    show ((rRep f k s).1 ++ [_]).length = _
    rw [List.length_append, rep_len k s]
    rfl
theorem rep_inv (h : Goes f g ok) : ∀ (k : Nat) (s : St), (rRep f k s).2.bad = false → s.l = (rRep f k s).1.flatMap g ++ (rRep f k s).2.l
  | 0, s, _ => rfl
  | k + 1, s, hb => by
    have e1 := rep_inv h k s (h.mono _ hb)
    have e2 := h.inv _ hb
    show _ = ((rRep f k s).1 ++ [_]).flatMap g ++ (f (rRep f k s).2).2.l
    rw [List.flatMap_append, List.append_assoc, e1]
    congr 1
    simpa using e2
theorem rep_ok (h : Goes f g ok) : ∀ (k : Nat) (s : St), (rRep f k s).2.bad = false → P.Ins s.l → ∀ x ∈ (rRep f k s).1, ok x
  | 0, s, _, _ => fun x hx => (by cases hx)
  | k + 1, s, hb, hi => fun x hx => by
    have e1 := rep_inv h k s (h.mono _ hb)
    rcases List.mem_append.1 (show x ∈ (rRep f k s).1 ++ [(f (rRep f k s).2).1] from hx) with hx | hx
    · exact rep_ok h k s (h.mono _ hb) hi x hx
    · obtain rfl : x = (f (rRep f k s).2).1 := by simpa using hx
      rw [e1] at hi
      exact h.ok _ hb (ins_right hi)
theorem rep_fwd (h : Goes f g ok) (l : List α) (r : List Int) (b : Bool) (ho : ∀ x ∈ l, ok x) : ∀ n, n ≤ l.length → rRep f n ⟨l.flatMap g ++ r, b⟩ = (l.take n, ⟨(l.drop n).flatMap g ++ r, b⟩)
  | 0, _ => rfl
  | n + 1, hn => by
    have e := rep_fwd h l r b ho n (by omega)
    have hx : l.drop n = l[n] :: l.drop (n + 1) := List.drop_eq_getElem_cons (by omega)
    show ((rRep f n _).1 ++ [(f (rRep f n _).2).1], (f (rRep f n _).2).2) = _
    rw [e]
    have e5 := h.fwd l[n] ((l.drop (n + 1)).flatMap g ++ r) b (ho _ (List.getElem_mem _))
    rw [hx, List.flatMap_cons, List.append_assoc, e5, List.take_succ_eq_append_getElem (by omega)]
theorem all_goes (h : Goes f g ok) (pos : ∀ x, 1 ≤ (g x).length) : Goes (rAll f) (nAll g) (fun l => ∀ x ∈ l, ok x) where
  fwd l r b ho := by
    have hm : rMany ⟨nAll g l ++ r, b⟩ = ((l.length : Int), ⟨l.flatMap g ++ r, b⟩) := by
      unfold rMany
      have hl : l.length ≤ (l.flatMap g).length := by
        clear ho
        induction l with
        | nil => simp
        | cons x l ih =>
          have := pos x
          rw [List.flatMap_cons, List.length_append, List.length_cons]
          omega
      refine (up_goes _).fwd (l.length : Int) (l.flatMap g ++ r) b ⟨by omega, ?_⟩
      show (l.length : Int) ≤ (((l.length : Int) :: l.flatMap g ++ r).length : Int) - 1
      simp only [List.cons_append, List.length_cons, List.length_append]
      omega
    unfold rAll
    rw [hm]
    have := rep_fwd h l r b ho l.length (Nat.le_refl _)
    simpa using this
  mono s hb := (up_goes _).mono s (rep_mono h _ _ hb)
  inv s hb := by
    have h1 : (rMany s).2.bad = false := rep_mono h _ _ hb
    obtain ⟨e, h2, h3⟩ := up_of (s := s) h1
    have h4 : s.l = [(rMany s).1] ++ (rMany s).2.l := (up_goes _).inv s h1
    have h5 : (rMany s).2.l = (rAll f s).1.flatMap g ++ (rAll f s).2.l := rep_inv h _ _ hb
    have h6 : (rAll f s).1.length = (rMany s).1.toNat := rep_len _ _
    have h7 : (rMany s).1 = ((rAll f s).1.length : Int) := by
      have h8 : rMany s = rNum s := e
      rw [h6, h8]
      omega
    rw [h4, h5, h7]
    rfl
  ok s hb hi := rep_ok h _ _ hb ((up_goes _).next (rep_mono h _ _ hb) hi)
theorem Goes.imp {ok' : α → Prop} (h : Goes f g ok) (h1 : ∀ x, ok' x → ok x) (h2 : ∀ x, ok x → ok' x) : Goes f g ok' := ⟨fun x r b hx => h.fwd x r b (h1 x hx), h.mono, h.inv, fun s hb hi => h2 _ (h.ok s hb hi)⟩
end
section
variable {α β : Type} {f1 : St → α × St} {g1 : α → List Int} {ok1 : α → Prop} {f2 : St → β × St} {g2 : β → List Int} {ok2 : β → Prop}
def rPair (f1 : St → α × St) (f2 : St → β × St) (s : St) : (α × β) × St := (((f1 s).1, (f2 (f1 s).2).1), (f2 (f1 s).2).2)
theorem pair_goes (h1 : Goes f1 g1 ok1) (h2 : Goes f2 g2 ok2) : Goes (rPair f1 f2) (fun x => g1 x.1 ++ g2 x.2) (fun x => ok1 x.1 ∧ ok2 x.2) where
  fwd x r b h := by
    unfold rPair
    rw [List.append_assoc, h1.fwd _ _ _ h.1]
    show (_, _) = _
    rw [h2.fwd _ _ _ h.2]
  mono s hb := h1.mono s (h2.mono _ hb)
  inv s hb := by
    have e1 := h1.inv s (h2.mono _ hb)
    have e2 := h2.inv _ hb
    show s.l = (g1 (f1 s).1 ++ g2 (f2 (f1 s).2).1) ++ (f2 (f1 s).2).2.l
    rw [List.append_assoc, ← e2, ← e1]
  ok s hb hi := ⟨h1.ok s (h2.mono _ hb) hi, h2.ok _ hb (h1.next (h2.mono _ hb) hi)⟩
theorem map_goes (h : Goes f1 g1 ok1) (e : α → β) (d : β → α) (he : ∀ y, e (d y) = y) (hd : ∀ x, d (e x) = x) : Goes (fun s => (e (f1 s).1, (f1 s).2)) (fun y => g1 (d y)) (fun y => ok1 (d y)) where
  fwd y r b h2 := by
    show (e (f1 ⟨g1 (d y) ++ r, b⟩).1, (f1 ⟨g1 (d y) ++ r, b⟩).2) = _
    rw [h.fwd _ _ _ h2, he]
  mono s hb := h.mono s hb
  inv s hb := by
    show s.l = g1 (d (e (f1 s).1)) ++ (f1 s).2.l
    rw [hd]
    exact h.inv s hb
  ok s hb hi := by
    show ok1 (d (e (f1 s).1))
    rw [hd]
    exact h.ok s hb hi
end
theorem sm_goes : Goes rSm (fun n => [n]) (fun n => 0 ≤ n ∧ n ≤ 255) := up_goes 255
theorem col_goes : Goes rC nC Col.ok := map_goes (pair_goes sm_goes (pair_goes sm_goes (pair_goes sm_goes sm_goes))) (fun x => (⟨x.1, x.2.1, x.2.2.1, x.2.2.2⟩ : Col)) (fun c => (c.r, c.g, c.b, c.a)) (fun _ => rfl) (fun _ => rfl)
theorem vert_goes : Goes rV nV U.V.i64 :=
  (map_goes (pair_goes num_goes (pair_goes num_goes (pair_goes num_goes (pair_goes num_goes (pair_goes num_goes (pair_goes num_goes (pair_goes num_goes num_goes))))))) (fun x => (⟨x.1, x.2.1, x.2.2.1, x.2.2.2.1, x.2.2.2.2.1, x.2.2.2.2.2.1, x.2.2.2.2.2.2.1, x.2.2.2.2.2.2.2⟩ : U.V))
    (fun v => (v.x, v.y, v.z, v.w, v.a, v.b, v.c, v.d)) (fun _ => rfl) (fun _ => rfl)).imp (fun _ h => ⟨h.x, h.y, h.z, h.w, h.a, h.b, h.c, h.d⟩) (fun _ h => ⟨h.1, h.2.1, h.2.2.1, h.2.2.2.1, h.2.2.2.2.1, h.2.2.2.2.2.1, h.2.2.2.2.2.2.1, h.2.2.2.2.2.2.2⟩)
theorem ins_goes : Goes rI nI C.In.ok :=
  (map_goes (pair_goes sm_goes (pair_goes sm_goes (pair_goes sm_goes (pair_goes sm_goes num_goes)))) (fun x => (⟨x.1, x.2.1, x.2.2.1, x.2.2.2.1, x.2.2.2.2⟩ : C.In)) (fun x => (x.o, x.d, x.a, x.b, x.n)) (fun _ => rfl) (fun _ => rfl)).imp
    (fun _ h => ⟨h.o, h.d, h.a, h.b, h.n⟩) (fun _ h => ⟨h.1, h.2.1, h.2.2.1, h.2.2.2.1, h.2.2.2.2⟩)
theorem tri_goes : Goes rR nR Tr.ok :=
  (map_goes (pair_goes num_goes (pair_goes num_goes (pair_goes num_goes num_goes))) (fun x => (⟨x.1, x.2.1, x.2.2.1, x.2.2.2⟩ : Tr)) (fun t => (t.i, t.a, t.b, t.c)) (fun _ => rfl) (fun _ => rfl)).imp
    (fun _ h => ⟨h.i, h.a, h.b, h.c⟩) (fun _ h => ⟨h.1, h.2.1, h.2.2.1, h.2.2.2⟩)
theorem tex_goes : Goes rT nT (fun t => I64 t.w ∧ I64 t.h ∧ t.ok) :=
  map_goes (pair_goes num_goes (pair_goes num_goes (all_goes col_goes (fun _ => by simp [nC])))) (fun x => (⟨x.1, x.2.1, x.2.2⟩ : Tx)) (fun t => (t.w, t.h, t.px)) (fun _ => rfl) (fun _ => rfl)
theorem prog_goes : Goes rP nP (fun l => ∀ x ∈ l, x.ok) := all_goes ins_goes (fun _ => by simp [nI])
theorem draw_goes : Goes rD nD Dr.ok :=
  (map_goes (pair_goes num_goes (pair_goes num_goes (pair_goes num_goes (pair_goes sign_goes (all_goes tri_goes (fun _ => by simp [nR])))))) (fun x => (⟨x.1, x.2.1, x.2.2.1, x.2.2.2.1, x.2.2.2.2⟩ : Dr)) (fun d => (d.id, d.prog, d.tex, d.op, d.tris)) (fun _ => rfl) (fun _ => rfl)).imp
    (fun _ h => ⟨h.id, h.prog, h.tex, trivial, h.tris⟩) (fun _ h => ⟨h.1, h.2.1, h.2.2.1, h.2.2.2.2⟩)
theorem scene_goes : Goes rS nS PS.ok :=
  (map_goes (pair_goes num_goes (pair_goes num_goes (pair_goes col_goes (pair_goes (all_goes vert_goes (fun _ => by simp [nV])) (pair_goes (all_goes tex_goes (fun _ => by simp [nT])) (pair_goes (all_goes prog_goes (fun _ => by simp [nP, nAll])) (all_goes draw_goes (fun _ => by simp [nD]))))))))
    (fun x => (⟨x.1, x.2.1, x.2.2.1, x.2.2.2.1, x.2.2.2.2.1, x.2.2.2.2.2.1, x.2.2.2.2.2.2⟩ : PS)) (fun p => (p.w, p.h, p.k, p.vs, p.ts, p.ps, p.ds)) (fun _ => rfl) (fun _ => rfl)).imp
    (fun _ h => ⟨h.w, h.h, h.k, h.vs, h.ts, h.ps, h.ds⟩) (fun _ h => ⟨h.1, h.2.1, h.2.2.1, h.2.2.2.1, h.2.2.2.2.1, h.2.2.2.2.2.1, h.2.2.2.2.2.2⟩)

/-- What numbers say that are all told. -/
def scanP (l : List Int) : Option PS := if (rS ⟨l, false⟩).2.bad = false ∧ (rS ⟨l, false⟩).2.l = [] then some (rS ⟨l, false⟩).1 else none
theorem scan_nS {p : PS} (h : p.ok) : scanP (nS p) = some p := by
  have e := scene_goes.fwd p [] false h
  rw [List.append_nil] at e
  unfold scanP
  rw [e]
  rfl
theorem scan_inv {l : List Int} {p : PS} (hi : P.Ins l) (h : scanP l = some p) : p.ok ∧ nS p = l := by
  unfold scanP at h
  split at h
  · rename_i hc
    obtain rfl : (rS ⟨l, false⟩).1 = p := by simpa using h
    have e := scene_goes.inv ⟨l, false⟩ hc.1
    rw [hc.2, List.append_nil] at e
    exact ⟨scene_goes.ok ⟨l, false⟩ hc.1 hi, e.symm⟩
  · cases h
/-- Numbers with more behind them, or fewer, are none. -/
theorem scan_cut {p q : PS} {l r : List Int} (hp : p.ok) (hi : P.Ins l) (he : nS p = l ++ r) (h : scanP l = some q) : r = [] := by
  obtain ⟨hq, e⟩ := scan_inv hi h
  have e1 := scene_goes.fwd q r false hq
  have e2 := scene_goes.fwd p [] false hp
  rw [List.append_nil, he, ← e, e1] at e2
  simpa using congrArg (fun x => x.2.l) e2
theorem scan_more {p q : PS} {r : List Int} (hp : p.ok) (hi : P.Ins (nS p ++ r)) (h : scanP (nS p ++ r) = some q) : r = [] := by
  obtain ⟨hq, e⟩ := scan_inv hi h
  have e1 := scene_goes.fwd p r false hp
  have e2 := scene_goes.fwd q [] false hq
  rw [List.append_nil, e, e1] at e2
  simpa using congrArg (fun x => x.2.l) e2
theorem goes_ins {α : Type} {g : α → List Int} {l : List α} (h : ∀ x ∈ l, P.Ins (g x)) (hl : l.length ≤ 100000) : P.Ins (nAll g l) := fun n hn => by
  rcases List.mem_cons.1 hn with rfl | hn
  · unfold P.In64; omega
  · obtain ⟨x, hx, hn⟩ := List.mem_flatMap.1 hn
    exact h x hx n hn
theorem ins_cons {n : Int} {l : List Int} (h : I64 n) (k : P.Ins l) : P.Ins (n :: l) := fun x hx => by
  rcases List.mem_cons.1 hx with rfl | hx
  · exact h
  · exact k x hx
theorem ins_nil : P.Ins [] := fun x hx => by cases hx
theorem ins_nC {c : Col} (h : c.ok) : P.Ins (nC c) := by
  obtain ⟨a, b, c, d⟩ := h
  exact ins_cons (by unfold I64; omega) (ins_cons (by unfold I64; omega) (ins_cons (by unfold I64; omega) (ins_cons (by unfold I64; omega) ins_nil)))
theorem ins_nV {v : U.V} (h : v.i64) : P.Ins (nV v) := ins_cons h.x (ins_cons h.y (ins_cons h.z (ins_cons h.w (ins_cons h.a (ins_cons h.b (ins_cons h.c (ins_cons h.d ins_nil)))))))
theorem ins_nI {x : C.In} (h : x.ok) : P.Ins (nI x) := by
  obtain ⟨a, b, c, d, e⟩ := h
  exact ins_cons (by unfold I64; omega) (ins_cons (by unfold I64; omega) (ins_cons (by unfold I64; omega) (ins_cons (by unfold I64; omega) (ins_cons e ins_nil))))
theorem ins_nR {t : Tr} (h : t.ok) : P.Ins (nR t) := ins_cons h.i (ins_cons h.a (ins_cons h.b (ins_cons h.c ins_nil)))
theorem ins_nT {t : Tx} (h : I64 t.w ∧ I64 t.h ∧ t.ok) (hl : t.px.length ≤ 100000) : P.Ins (nT t) := ins_cons h.1 (ins_cons h.2.1 (goes_ins (fun c hc => ins_nC (h.2.2 c hc)) hl))
theorem ins_nP {l : List C.In} (h : ∀ x ∈ l, x.ok) (hl : l.length ≤ 100000) : P.Ins (nP l) := goes_ins (fun x hx => ins_nI (h x hx)) hl
theorem ins_nD {d : Dr} (h : d.ok) (hl : d.tris.length ≤ 100000) : P.Ins (nD d) :=
  ins_cons h.id (ins_cons h.prog (ins_cons h.tex (ins_cons (by unfold nB I64; split <;> omega) (goes_ins (fun t ht => ins_nR (h.tris t ht)) hl))))
theorem ins_nS {p : PS} (h : p.ok) (f : p.few) : P.Ins (nS p) :=
  ins_cons h.w (ins_cons h.h ((ins_nC h.k).app ((goes_ins (fun v hv => ins_nV (h.vs v hv)) f.vs).app ((goes_ins (fun t ht => ins_nT (h.ts t ht) (f.tx t ht)) f.ts).app
    ((goes_ins (fun l hl => ins_nP (h.ps l hl) (f.px l hl)) f.ps).app (goes_ins (fun d hd => ins_nD (h.ds d hd) (f.dx d hd)) f.ds))))))

theorem few_p {s : Sc} (h : s.few) : s.p.few := by
  refine ⟨h.vs, ?_, fun t ht => ?_, ?_, fun l hl => ?_, ?_, fun d hd => ?_⟩
  · show (s.ts.map Lo.x).length ≤ _
    rw [List.length_map]
    exact h.ts
  · obtain ⟨l, hl, rfl⟩ := List.mem_map.1 (show t ∈ s.ts.map Lo.x from ht)
    exact h.tx l hl
  · show (s.ps.map Lo.x).length ≤ _
    rw [List.length_map]
    exact h.ps
  · obtain ⟨x, hx, rfl⟩ := List.mem_map.1 (show l ∈ s.ps.map Lo.x from hl)
    exact h.px x hx
  · show (s.ds.map Lo.x).length ≤ _
    rw [List.length_map]
    exact h.ds
  · obtain ⟨x, hx, rfl⟩ := List.mem_map.1 (show d ∈ s.ds.map Lo.x from hd)
    exact h.dx x hx
/-- What bytes say that are all told. -/
def readP (b : List Int) : Option PS := if P.flag (P.seq b) = true then none else scanP (P.nums (P.seq b))
theorem flag_put : ∀ (k : Nat) {b : List Int}, b.length ≤ k → P.Byt b → P.flag (P.seq b) = false → b = P.put (P.nums (P.seq b))
  | k, b, hk, hb, hf => by
    by_cases hne : b = []
    · subst hne
      rw [P.seq_nil]
      rfl
    obtain ⟨n, s, he⟩ : ∃ n s, P.first b = (n, s) := ⟨_, _, rfl⟩
    by_cases hs : s = 0
    · subst hs
      rw [P.seq_bad hne he] at hf
      cases hf
    · obtain ⟨-, e1, e2, e3, e4, -⟩ := P.first_inv hb he hs
      rw [P.seq_good hb he hs] at hf ⊢
      have hl := List.length_pos_iff.2 hne
      cases k with
      | zero => omega
      | succ k =>
        have ih := flag_put k (b := b.drop s) (by rw [List.length_drop]; omega) (hb.drop s) (by simpa [P.flag] using hf)
        show b = P.put (n :: P.nums (P.seq (b.drop s)))
        rw [P.put_cons, ← ih]
        exact e2
theorem read_some {b : List Int} {p : PS} (hb : P.Byt b) (h : readP b = some p) : p.ok ∧ P.put (nS p) = b ∧ P.nums (P.seq b) = nS p := by
  unfold readP at h
  split at h
  · cases h
  · rename_i hf
    obtain ⟨h1, h2⟩ := scan_inv (P.seq_len _ b (Nat.le_refl _) hb).2.1 h
    have h3 := flag_put _ (Nat.le_refl _) hb (by simpa using hf)
    exact ⟨h1, by rw [h2, ← h3], h2.symm⟩
theorem read_put {p : PS} (h : p.ok) (hf : p.few) : readP (P.put (nS p)) = some p := by
  unfold readP
  rw [P.seq_all (ins_nS h hf), P.flag_trues, P.nums_trues]
  exact scan_nS h
end Go.Proofs.Ytfmmfaeognoleaa
/-
  The contracts of the small functions of package wire, at this seat's translation.
-/
namespace Go.Proofs.Ytfmmfaeognoleaa.P
open Go.RowKit

theorem ret_int {k : IntKind} {a b : Int} (h : a = b) : Ending.returned (.int k a) = .returned (.int k b) := by rw [h]

theorem folded_any (n : Int) (w : World) (h0 : -9223372036854775808 ≤ n) (h1 : n ≤ 9223372036854775807) :
    Calls Try.prog 85 #[.int .i64 n] w fun e w' => e = .returned (.int .u64 (fold n : Nat)) ∧ w = w' := by
  by_cases h : n < 0
  · go_enter Try.func85, Try.ntmps85
    go_wp2
    go_ret
    exact ⟨ret_int (by unfold fold; rw [if_pos h]; omega), rfl⟩
  · go_enter Try.func85, Try.ntmps85
    go_wp2
    go_ret
    exact ⟨ret_int (by unfold fold; rw [if_neg (by omega)]; omega), rfl⟩

theorem unfolded_any (u : Nat) (w : World) (h : u < 18446744073709551616) :
    Calls Try.prog 105 #[.int .u64 (u : Int)] w fun e w' => e = .returned (.int .i64 (unf u)) ∧ w = w' := by
  by_cases hu : u % 2 = 1
  · go_enter Try.func105, Try.ntmps105
    go_wp2
    go_ret
    exact ⟨ret_int (by unfold unf; rw [if_pos hu]; omega), rfl⟩
  · go_enter Try.func105, Try.ntmps105
    go_wp2
    go_ret
    exact ⟨ret_int (by unfold unf; rw [if_neg hu]; omega), rfl⟩

def Sl (k : IntKind) (w : World) (B : Nat) (A : Option Addr) (xs : List Int) : Prop :=
  xs ≠ [] → ∃ b off, A = some ⟨b, off, none⟩ ∧ b < B ∧ ∀ j, j < xs.length → w.cell? ⟨b, off + j, none⟩ = some (.int k (xs.getD j 0))

theorem Sl.at {k : IntKind} {w : World} {B : Nat} {A : Option Addr} {xs : List Int} (h : Sl k w B A xs) {j : Nat} (hj : j < xs.length) :
    ∃ b off, A = some ⟨b, off, none⟩ ∧ b < B ∧ w.cell? ⟨b, off + j, none⟩ = some (.int k (xs.getD j 0)) := by
  obtain ⟨b, off, e, hb, hc⟩ := h (by rintro rfl; simp at hj)
  exact ⟨b, off, e, hb, hc j hj⟩

theorem pow_128 (k : Nat) : 2 ^ (7 * k) = 128 ^ k := by rw [Nat.pow_mul]

theorem or_parts (v q k : Nat) (hv : v < 18446744073709551616) :
    ∃ z : Nat, bits BinOp.or .u64 (v : Int) (IntKind.u64.wrap ((q : Int) * 2 ^ (7 * k))) = (z : Int) ∧ z < 18446744073709551616 ∧ (v < 128 ^ k → q * 128 ^ k < 18446744073709551616 → z = v + q * 128 ^ k) := by
  have e : IntKind.u64.wrap ((q : Int) * 2 ^ (7 * k)) = ((q * 128 ^ k % 18446744073709551616 : Nat) : Int) := by
    rw [IntKind.wrap_u64, ← pow_128, Int.natCast_emod, Int.natCast_mul, Int.natCast_pow]
    rfl
  rw [e]
  have hlt : q * 128 ^ k % 18446744073709551616 < 18446744073709551616 := Nat.mod_lt _ (by decide)
  refine ⟨v ||| (q * 128 ^ k % 18446744073709551616), bits_or_u64_nat _ _ hv hlt, Nat.or_lt_two_pow (n := 64) hv hlt, fun h1 h2 => ?_⟩
  rw [Nat.mod_eq_of_lt h2, ← pow_128, Nat.or_comm, Nat.mul_comm q, ← Nat.two_pow_add_eq_or_of_lt (by rw [pow_128]; exact h1)]
  omega

theorem drop_at {xs : List Int} {k : Nat} {p : Int} (hk : k < xs.length) (hp : xs.getD k 0 = p) : xs.drop k = p :: xs.drop (k + 1) := by
  rw [List.drop_eq_getElem_cons hk, ← hp, List.getD_eq_getElem?_getD, List.getElem?_eq_getElem hk]; rfl

theorem ret_pair {q : Int × Nat} {a b : Int} {s : Nat} (h : q = (a, s)) (hb : b = (s : Int)) : Ending.returned (.tuple #[.int .i64 a, .int .i64 b]) = .returned (.tuple #[.int .i64 q.1, .int .i64 (q.2 : Nat)]) := by rw [h, hb]

theorem small_part {p : Int} {k : Nat} (h0 : 0 ≤ p) (h1 : p < 128) (hk : k < 10) (hl : k = 9 → p ≤ 1) : p.toNat * 128 ^ k < 18446744073709551616 := by
  rcases ten_cases hk with rfl | rfl | rfl | rfl | rfl | rfl | rfl | rfl | rfl | rfl <;> simp only [Nat.reducePow] <;> omega
theorem small_sum {v q k : Nat} (hv : v < 128 ^ k) (hq : q < 128) : v + q * 128 ^ k < 128 ^ (k + 1) := by
  rw [pow_parts, Nat.mul_comm (128 ^ k) 128]
  have := Nat.mul_le_mul_right (128 ^ k) (show q + 1 ≤ 128 by omega)
  rw [Nat.add_mul] at this; omega
theorem small_more {q k : Nat} (hq : q < 128) (hk : k < 9) : q * 128 ^ k < 18446744073709551616 := by
  rcases ten_cases (k := k) (by omega) with rfl | rfl | rfl | rfl | rfl | rfl | rfl | rfl | rfl | rfl <;> simp only [Nat.reducePow] <;> omega

/-- What the loop of first knows at its k-th part. -/
def At (xs : List Int) (k v : Nat) : Prop := (k ≤ 9 → v < 128 ^ k) ∧ first xs = scan k v (xs.drop k)
theorem At.start (xs : List Int) : At xs 0 0 := ⟨fun _ => by decide, rfl⟩
theorem At.more {xs : List Int} {k v z : Nat} {p : Int} (h : At xs k v) (hk : k < 10) (hl : k < xs.length) (hp : xs.getD k 0 = p) (h1 : p ≤ 255) (h2 : 128 ≤ p)
    (hz : v < 128 ^ k → (p % 128).toNat * 128 ^ k < 18446744073709551616 → z = v + (p % 128).toNat * 128 ^ k) : At xs (k + 1) z := by
  obtain ⟨ha, hb⟩ := h
  have hpp : (p % 128).toNat = p.toNat % 128 := by omega
  rw [hpp] at hz
  rw [drop_at hl hp, scan_more hk h2] at hb
  by_cases h9 : k = 9
  · subst h9
    exact ⟨fun h => by omega, by rw [hb, scan_ten _ _ (by omega), scan_ten _ _ (by omega)]⟩
  · have e := hz (ha (by omega)) (small_more (by omega) (by omega))
    refine ⟨fun _ => ?_, by rw [hb, e]⟩
    rw [e]; exact small_sum (ha (by omega)) (by omega)
theorem At.bad {xs : List Int} {k v : Nat} {p : Int} (h : At xs k v) (hk : k < 10) (hl : k < xs.length) (hp : xs.getD k 0 = p) (h1 : p < 128) (h2 : (0 < k ∧ p = 0) ∨ (k = 9 ∧ 1 < p)) : first xs = (0, 0) := by
  rw [h.2, drop_at hl hp, scan_bad hk h1 h2]
theorem At.good {xs : List Int} {k v z : Nat} {p : Int} (h : At xs k v) (hk : k < 10) (hl : k < xs.length) (hp : xs.getD k 0 = p) (h0 : 0 ≤ p) (h1 : p < 128) (h2 : ¬ ((0 < k ∧ p = 0) ∨ (k = 9 ∧ 1 < p)))
    (hz : v < 128 ^ k → (p % 128).toNat * 128 ^ k < 18446744073709551616 → z = v + (p % 128).toNat * 128 ^ k) : first xs = (unf z, k + 1) := by
  have hpp : (p % 128).toNat = p.toNat := by omega
  rw [hpp] at hz
  rw [h.2, drop_at hl hp, scan_good hk h1 h2, hz (h.1 (by omega)) (small_part h0 h1 hk (by omega))]
theorem At.ends {xs : List Int} {k v : Nat} (h : At xs k v) (hk : 10 ≤ k ∨ xs.length ≤ k) : first xs = (0, 0) := by
  rw [h.2]
  rcases hk with hk | hk
  · exact scan_ten _ _ hk _
  · rw [List.drop_eq_nil_of_le hk]; rfl

set_option maxHeartbeats 1000000 in
theorem first_any (A : Option Addr) (c : Nat) (xs : List Int) (B : Nat) (w : World) (hs : Sl .u8 w B A xs) (hb : Byt xs) (hc : xs.length ≤ c) (hm : xs.length ≤ 9223372036854775807) :
    Calls Try.prog 87 #[.slice A xs.length c] w fun e w' => e = .returned (.tuple #[.int .i64 (first xs).1, .int .i64 ((first xs).2 : Nat)]) ∧ w = w' := by
  have HS := Lib.hid hs
  have HB := Lib.hid hb
  clear hs hb
  rcases Nat.lt_or_ge 10 xs.length with hbig | hsmall
  all_goals
    go_enter Try.func87, Try.ntmps87
    go_wp2
    go_loop [4, 13] (fun u i => ∃ k v : Nat, k ≤ 10 ∧ k ≤ xs.length ∧ v < 18446744073709551616 ∧ i = .int .i64 k ∧ u = .int .u64 v ∧ At xs k v) (fun _ i => 10 - (intOf i).toNat)
    case atStart => exact ⟨0, 0, by omega, by omega, by decide, rfl, rfl, At.start xs⟩
    case round =>
      obtain ⟨k, v, hk, hkl, hv, rfl, rfl, hAt⟩ := hrel
      have HA := Lib.hid hAt
      clear hAt
      by_cases hlt : k < 10 ∧ k < xs.length
      · obtain ⟨hlt, hlx⟩ := hlt
        obtain ⟨b, off, rfl, _, hcell⟩ := HS.out.at (j := k) (by omega)
        have hpb := HB.out.get k
        generalize hp : xs.getD k 0 = p at hcell hpb
        obtain ⟨hp0, hp1⟩ := hpb
        have HP := Lib.hid hp
        clear hp
        obtain ⟨z, hor, hz, hzz⟩ := or_parts v (p % 128).toNat k hv
        rw [show (((p % 128).toNat : Nat) : Int) = p % 128 by omega] at hor
        have HZ := Lib.hid hzz
        clear hzz
        go_wp2_with (go_at_call 105; refine (unfolded_any _ _ (by omega)).mono ?_; rintro e w' ⟨rfl, rfl⟩)
        all_goals first
          | (go_round
             case rel => exact ⟨k + 1, z, by omega, by omega, hz, by go_num, rfl, HA.out.more hlt hlx HP.out hp1 (by omega) HZ.out⟩
             case measure => simp [intOf]; omega)
          | (go_ret2; exact ⟨ret_pair (HA.out.bad hlt hlx HP.out (by omega) (by omega)) (by simp), rfl⟩)
          | (go_ret2; exact ⟨ret_pair (HA.out.good hlt hlx HP.out hp0 (by omega) (by omega) HZ.out) (by omega), rfl⟩)
          | (have hd : p = 0 ∨ 1 < p := by simpa using ‹(p == 0) = true ∨ 1 < p›
             go_ret2; exact ⟨ret_pair (HA.out.bad hlt hlx HP.out (by omega) (by omega)) (by simp), rfl⟩)
      · go_wp2
        go_ret2
        exact ⟨ret_pair (HA.out.ends (by omega)) (by simp), rfl⟩
end Go.Proofs.Ytfmmfaeognoleaa.P
/-
  wire.putOne and wire.Put, at this seat's translation.
-/
namespace Go.Proofs.Ytfmmfaeognoleaa.P
open Go.RowKit

theorem Try.info5 : (Try.prog.info? 5).map (fun i => (i.zero, i.size, i.bytes)) = some (some (.int .u8 0), 1, 1) := by kernel_rfl
theorem Try.info3 : (Try.prog.info? 3).map (fun i => (i.zero, i.size, i.bytes)) = some (some (.int .i64 0), 1, 8) := by kernel_rfl

def OwnS (t : TypeId) (k : IntKind) (w : World) (base : Nat) (v : Value) (xs : List Int) : Prop := w.ownsRow base t 1 v xs.length (xs.map (Value.int k))

theorem OwnS.row {t : TypeId} {k : IntKind} {w : World} {base : Nat} {v : Value} {xs : List Int} (h : OwnS t k w base v xs) : w.ownsRow base t 1 v xs.length (xs.map (Value.int k)) := h

theorem OwnS.sl {t : TypeId} {k : IntKind} {w : World} {base : Nat} {v : Value} {xs : List Int} (h : OwnS t k w base v xs) :
    ∃ A c, v = .slice A xs.length c ∧ xs.length ≤ c ∧ c ≤ 9223372036854775807 ∧ Sl k w w.heap.size A xs := by
  obtain ⟨hl, ⟨rfl, h0⟩ | ⟨g, cap, cur, rfl, _, hh, hc, hm, _, ht⟩⟩ := h
  · have : xs = [] := List.eq_nil_of_length_eq_zero h0
    subst this
    exact ⟨none, 0, rfl, Nat.le_refl _, by decide, fun h => absurd rfl h⟩
  · refine ⟨some ⟨g, 0, none⟩, cap, rfl, hc, by unfold maxLen at hm; exact hm, fun _ => ⟨g, 0, rfl, (Array.getElem?_eq_some_iff.1 hh).1, fun j hj => ?_⟩⟩
    rw [cell_of_row w g (0 + j) cur t (0, 0) hh, Nat.zero_add]
    have e : (cur.toList.take (xs.length * 1))[j]? = (xs.map (Value.int k))[j]? := by rw [ht]
    rw [List.getElem?_take_of_lt (by omega), Array.getElem?_toList] at e
    rw [e, List.getElem?_map, List.getElem?_eq_getElem hj, List.getD_eq_getElem?_getD, List.getElem?_eq_getElem hj]
    rfl

theorem OwnS.nil (t : TypeId) (k : IntKind) (w : World) (base : Nat) : OwnS t k w base (.slice none 0 0) [] := World.ownsRow_nil _ _ _ _

theorem own_ge {w : World} {base size : Nat} {t : TypeId} {v : Value} {n : Nat} {xs : List Value} (h : w.ownsRow base t size v n xs) : ∀ j, v.ownBlock = some j → base ≤ j := by
  intro j ej
  rcases h.2 with ⟨rfl, _⟩ | ⟨g, cap, cur, rfl, hb, _, _⟩
  · simp [Value.ownBlock] at ej
  · obtain rfl : g = j := by simpa [Value.ownBlock] using ej
    exact hb

theorem OwnS.keep {t : TypeId} {k : IntKind} {w w' : World} {base : Nat} {v : Value} {xs : List Int} (h : OwnS t k w base v xs) (hb : Below w.heap.size w w') : OwnS t k w' base v xs := by
  obtain ⟨hl, h2⟩ := h
  refine ⟨hl, ?_⟩
  rcases h2 with h2 | ⟨g, cap, cur, rfl, hg, hh, hr⟩
  · exact .inl h2
  · exact .inr ⟨g, cap, cur, rfl, hg, (hb.block g (Array.getElem?_eq_some_iff.1 hh).1).trans hh, hr⟩
theorem OwnS.less {t : TypeId} {k : IntKind} {w : World} {base base' : Nat} {v : Value} {xs : List Int} (h : OwnS t k w base v xs) (hb : base' ≤ base) : OwnS t k w base' v xs := by
  obtain ⟨hl, h2⟩ := h
  refine ⟨hl, ?_⟩
  rcases h2 with h2 | ⟨g, cap, cur, rfl, hg, hr⟩
  · exact .inl h2
  · exact .inr ⟨g, cap, cur, rfl, by omega, hr⟩

/-- A call answers a new row of numbers, and what lay lies as it lay. -/
def Made (t : TypeId) (k : IntKind) (base : Nat) (w : World) (xs : List Int) (e : Ending) (w' : World) : Prop :=
  ∃ v, e = .returned v ∧ OwnS t k w' base v xs ∧ Below base w w'

def PutAt (base : Nat) (w : World) (bs : List Int) (n : Int) (b u : Value) (wr : World) : Prop :=
  ∃ (k : Nat) (cs : List Int), u = .int .u64 k ∧ k < 18446744073709551616 ∧ OwnS 5 .u8 wr base b cs ∧ cs ++ enc k = bs ++ enc (fold n) ∧ Below base w wr

theorem append_of {w w1 : World} {base : Nat} {t : TypeId} {k : IntKind} {v v' : Value} {cs : List Int} {x : Int} (ho : OwnS t k w base v cs) (hbase : base ≤ w.heap.size) {T : Obj}
    (hown : w1.ownsRow base t 1 v' (cs.length + 1) (cs.map (Value.int k) ++ [Value.int k x])) (hg : (w.alloc T).grownBy w1 v.ownBlock) : OwnS t k w1 base v' (cs ++ [x]) ∧ Below base w w1 := by
  refine ⟨by unfold OwnS; simpa using hown, ((Below.refl base w).alloc hbase T).grown hg (by simp; omega) fun j ej => own_ge ho j ej⟩

set_option maxRecDepth 100000 in
set_option maxHeartbeats 1000000 in
theorem putOne_any (v : Value) (n : Int) (bs : List Int) (base : Nat) (w : World) (hown : OwnS 5 .u8 w base v bs) (hbase : base ≤ w.heap.size) (hl : bs.length ≤ 10000000000) (h0 : -9223372036854775808 ≤ n) (h1 : n ≤ 9223372036854775807) :
    Calls Try.prog 54 #[v, .int .i64 n] w (Made 5 .u8 base w (bs ++ enc (fold n))) := by
  obtain ⟨i0, hi, hz0, hz1, hz2⟩ := info_parts Try.info5
  have HI := Lib.hid hi
  have HZ := Lib.hid (And.intro hz0 (And.intro hz1 hz2))
  clear hi hz0 hz1 hz2
  have hf := fold_lt ⟨h0, h1⟩
  have hel := enc_len10 hf
  have HO := Lib.hid hown
  clear hown
  go_enter Try.func54, Try.ntmps54
  go_wp2_with (go_at_call 85; refine (folded_any _ _ h0 h1).mono ?_; rintro e w' ⟨rfl, rfl⟩)
  go_loopw [0, 5] (fun b u wr => PutAt base w bs n b u wr) (fun _ u _ => (intOf u).toNat)
  case atStart => exact ⟨fold n, bs, rfl, hf, HO.out, rfl, Below.refl _ _⟩
  case round =>
    obtain ⟨k, cs, rfl, hk, ho, hcs, hb⟩ := hrel
    have hlen : cs.length + (enc k).length = bs.length + (enc (fold n)).length := by simpa using congrArg List.length hcs
    have hsz := hb.size
    have HB := Lib.hid hb
    have HW := Lib.hid ho
    have HC := Lib.hid hcs
    clear hb ho hcs
    have hep := enc_pos k
    have hcl : cs.length ≤ 10000000010 := by omega
    have HL := Lib.hid hlen
    clear hlen hel hep
    by_cases hge : 128 ≤ k
    · go_wp2_with (at_builtin; refine wpList_append_own _ rfl _ _ 24 rfl base 5 i0 (.int .u8 0) 1 1 Try.underlying24 HI.out HZ.out.1 HZ.out.2.1 HZ.out.2.2 rfl (by decide) _ _ _ rfl (HW.out.row.alloc _) _ 1 1 [_] rfl rfl (cell_one_new _ _ _) (by simp [Value.oneCell']) (by unfold maxLen; omega) (by omega) (by simp; omega) ?_; intro v' w1 hown' hgrow _)
      obtain ⟨ho', hb'⟩ := append_of HW.out (by omega) hown' hgrow
      refine ⟨⟨k / 128, cs ++ [((k % 128 + 128 : Nat) : Int)], by simp, by omega, by simpa using ho', ?_, HB.out.trans hb'⟩, by simp [intOf]; omega⟩
      rw [← HC.out, enc_ge (u := k) (by omega)]; simp
    · go_wp2_with (at_builtin; refine wpList_append_own _ rfl _ _ 24 rfl base 5 i0 (.int .u8 0) 1 1 Try.underlying24 HI.out HZ.out.1 HZ.out.2.1 HZ.out.2.2 rfl (by decide) _ _ _ rfl (HW.out.row.alloc _) _ 1 1 [_] rfl rfl (cell_one_new _ _ _) (by simp [Value.oneCell']) (by unfold maxLen; omega) (by omega) (by simp; omega) ?_; intro v' w1 hown' hgrow _)
      go_ret
      obtain ⟨ho', hb'⟩ := append_of HW.out (by omega) hown' hgrow
      refine ⟨v', rfl, ?_, HB.out.trans hb'⟩
      rw [← HC.out, enc_lt (u := k) (by omega)]; exact ho'

def AllAt (base : Nat) (w : World) (l : List Int) (b i : Value) (wr : World) : Prop :=
  ∃ k : Nat, k ≤ l.length ∧ i = .int .i64 k ∧ OwnS 5 .u8 wr base b (put (l.take k)) ∧ Below base w wr

theorem take_at {xs : List Int} {k : Nat} {p : Int} (hk : k < xs.length) (hp : xs.getD k 0 = p) : xs.take (k + 1) = xs.take k ++ [p] := by
  rw [List.take_succ_eq_append_getElem hk, ← hp, List.getD_eq_getElem?_getD, List.getElem?_eq_getElem hk]; rfl

set_option maxRecDepth 100000 in
set_option maxHeartbeats 1000000 in
theorem put_any (A : Option Addr) (c : Nat) (l : List Int) (B : Nat) (w : World) (hs : Sl .i64 w B A l) (hB : B ≤ w.heap.size) (hi : Ins l) (hl : l.length ≤ 100000000) :
    Calls Try.prog 27 #[.slice A l.length c] w (Made 5 .u8 w.heap.size w (put l)) := by
  have HS := Lib.hid hs
  have HI := Lib.hid hi
  clear hs hi
  go_enter Try.func27, Try.ntmps27
  go_wp2
  go_loopw [3, 8] (fun b i wr => AllAt w.heap.size w l b i wr) (fun _ i _ => l.length - (intOf i).toNat)
  case atStart => exact ⟨0, by omega, rfl, by simpa [put] using OwnS.nil 5 .u8 w w.heap.size, Below.refl _ _⟩
  case round =>
    obtain ⟨k, hk, rfl, ho, hb⟩ := hrel
    have hpl := put_len (HI.out.take k)
    have hlt' : (l.take k).length ≤ 100000000 := by simp; omega
    have hpl2 : (put (l.take k)).length ≤ 1000000000 := by omega
    have hsz := hb.size
    have HO := Lib.hid ho
    have HB := Lib.hid hb
    clear ho hb hpl hlt'
    by_cases hlt : k < l.length
    · obtain ⟨b, off, rfl, hbB, hcell⟩ := HS.out.at hlt
      have hn := HI.out.get k
      generalize hp : l.getD k 0 = n at hcell hn
      obtain ⟨hn0, hn1⟩ := hn
      have HP := Lib.hid hp
      clear hp
      have hcell' : wr.cell? ⟨b, off + k, none⟩ = some (.int .i64 n) := (HB.out.cell (p := ⟨b, off + k, none⟩) (by show b < _; omega)).trans hcell
      clear hcell
      go_wp2_with (go_at_call 54; refine (putOne_any _ n _ w.heap.size _ HO.out hsz (by omega) hn0 hn1).mono ?_; rintro e w' ⟨v', rfl, ho', hb'⟩)
      go_roundw
      case rel => exact ⟨k + 1, by omega, by go_num, by rw [take_at hlt HP.out, put_snoc]; exact ho', HB.out.trans hb'⟩
      case measure => simp [intOf]; omega
    · go_wp2
      go_ret
      have e : l.take k = l := List.take_of_length_le (by omega)
      exact ⟨_, rfl, by have := HO.out; rwa [e] at this, HB.out⟩
end Go.Proofs.Ytfmmfaeognoleaa.P
/-
  What a reader's, and a writer's, block holds, and what stays when they go on.
-/
namespace Go.Proofs.Ytfmmfaeognoleaa
open Go.RowKit
attribute [local go_sem ↓] Go.wp_at_zero Go.wp_at_succ

/-- But for block p, what lay lies as it lay. -/
structure But (p : Nat) (w w' : World) : Prop where
  b : Below p w w'
  f : Fx (p + 1) w.heap.size w w'
section
variable {p q g o B : Nat} {a b c w w' : World} {u : Value}
theorem But.refl (p : Nat) (w : World) : But p w w := ⟨Below.refl _ _, Fx.refl _ _ _⟩
theorem But.size (h : But p w w') : w.heap.size ≤ w'.heap.size := h.b.size
theorem But.trans (h : But p a b) (k : But p b c) : But p a c := ⟨h.b.trans k.b, fun i h1 h2 => (k.f i h1 (Nat.lt_of_lt_of_le h2 h.size)).trans (h.f i h1 h2)⟩
theorem But.block (h : But p w w') {k : Nat} (hk : k < w.heap.size) (hne : k ≠ p) : w'.heap[k]? = w.heap[k]? := by
  rcases Nat.lt_or_ge k p with h1 | h1
  · exact h.b.block k h1
  · exact h.f k (by omega) hk
theorem but_of (h : Below w.heap.size w w') (hp : p ≤ w.heap.size) : But p w w' := ⟨h.mono hp, Below.fx h⟩
theorem But.alloc (h : But p a b) (hp : p < a.heap.size) (o : Obj) : But p a (b.alloc o) :=
  h.trans (but_of (new_below b o) (by have := h.size; omega))
theorem But.set (h : But p a b) : But p a (b.setCell ⟨p, o, none⟩ u) := ⟨h.b.setCell (Nat.le_refl _) u, h.f.set (Nat.lt_succ_self p)⟩
theorem But.setNew (h : But p a b) (hp : p ≤ a.heap.size) (hg : a.heap.size ≤ g) : But p a (b.setCell ⟨g, o, none⟩ u) :=
  ⟨h.b.setCell (show p ≤ g by omega) u, fun k h1 h2 => by
    rw [heap_setCell_other _ _ _ _ (by simp; omega)]
    exact h.f k h1 h2⟩
theorem But.grown {j : Option Nat} (h : But p a b) (hp : p ≤ a.heap.size) (hg : b.grownBy c j) (hj : ∀ k, j = some k → a.heap.size ≤ k) : But p a c :=
  ⟨h.b.grown hg (by have := h.size; omega) fun k e => by have := hj k e; omega, fun k h1 h2 => (hg.block k (Nat.lt_of_lt_of_le h2 h.size) (fun e => by have := hj k e.symm; omega)).trans (h.f k h1 h2)⟩
theorem But.below (h : But p w w') (hB : B ≤ p) : Below B w w' := h.b.mono hB
theorem But.at (h : But p w w') {α : Type} {E : Elem α} {A : Option Addr} {xs : List α} (hE : Es E w p A xs) : Es E w' p A xs := hE.below h.b
theorem But.own (h : But p w w') {α : Type} {E : Elem α} {base : Nat} {v : Value} {xs : List α} (ho : OwnE E w base v xs) (hp : p < base) : OwnE E w' base v xs := ho.fx h.f (by omega) (Nat.le_refl _)
theorem But.ownN (h : But p w w') {α β : Type} {E : Elem (Lo α)} {F : Elem β} {inn : α → List β} {base : Nat} {v : Value} {xs : List (Lo α)} (ho : OwnN E F inn w base v xs) (hp : p < base) : OwnN E F inn w' base v xs := ho.fx h.f (by omega) (Nat.le_refl _)
end

theorem wpList_append_ln {α : Type} {E : Elem α} {T : TypeId} {w : World} {base B : Nat} {v : Value} {xs ys : List α} {A : Option Addr} {ops : Array Oper} {rest : List Oper} {o : Oper} {k : Act} {Q : Exit → Act → World → Prop} (hgd : o.guard = none) (R : Row E T) (s x : Operand) (c m : Nat) (hm : ys.length = m)
    (ho : o.op = .call { callee := .builtin .append, args := #[s, x], argTypes := #[T, T] }) (hs : k.eval s = v) (hx : k.eval x = .slice A m c)
    (hown : OwnE E w base v xs) (he : Es E w B A ys) (hn : xs.length ≤ 100000000) (hn2 : ys.length ≤ 100000000) (hbase : base ≤ w.heap.size)
    (h : ∀ v' w', w'.ownsRow base E.t E.size v' (xs.length + ys.length) (E.flat xs ++ E.flat ys) → w.grownBy w' v.ownBlock → (v'.ownBlock = v.ownBlock ∨ v'.ownBlock = some w.heap.size) → wpList Try.prog ops Q rest (k.put o.dst v') w') : wpList Try.prog ops Q (o :: rest) k w := by
  subst hm
  exact wpList_append_es hgd R s x c ho hs hx hown he hn hn2 hbase h
/-- A scene of two sides, and nothing else. -/
def flat0 (W H : Int) : Sc := ⟨W, H, zC, [], none, 0, [], none, 0, [], none, 0, [], none, 0⟩
/-- A reader's block. -/
def rdB (A : Option Addr) (n c : Nat) (bad : Bool) : Obj := .cells #[.slice A n c, .bool bad] 85 (0, 0)
section
variable {w w' : World} {p n c : Nat} {A : Option Addr} {bad : Bool}
theorem rdB_cell (h : w.heap[p]? = some (rdB A n c bad)) : w.cell? ⟨p, 0, none⟩ = some (.slice A n c) ∧ w.cell? ⟨p, 1, none⟩ = some (.bool bad) := by
  unfold rdB at h
  exact ⟨Joins.cell_of_block h 0, Joins.cell_of_block h 1⟩
theorem rdB_free (h : w.heap[p]? = some (rdB A n c bad)) : ∀ o, w.frozen? ⟨p, o, none⟩ = false := by
  unfold rdB at h
  intro o
  simp [World.frozen?, h]
theorem rdB_lt (h : w.heap[p]? = some (rdB A n c bad)) : p < w.heap.size := (Array.getElem?_eq_some_iff.1 h).1
theorem rdB_set0 {A' : Option Addr} {n' c' : Nat} (h : w.heap[p]? = some (rdB A n c bad)) : (w.setCell ⟨p, 0, none⟩ (.slice A' n' c')).heap[p]? = some (rdB A' n' c' bad) := by
  unfold rdB at h
  rw [heap_setCell_same _ _ _ _ _ _ h]
  simp [rdB]
theorem rdB_set1 {b' : Bool} (h : w.heap[p]? = some (rdB A n c bad)) : (w.setCell ⟨p, 1, none⟩ (.bool b')).heap[p]? = some (rdB A n c b') := by
  unfold rdB at h
  rw [heap_setCell_same _ _ _ _ _ _ h]
  simp [rdB]
end
/-- The reader at p: what is left, in a row that lies below it. -/
def Rd (w : World) (p : Nat) (s : St) : Prop := ∃ A c, w.heap[p]? = some (rdB A s.l.length c s.bad) ∧ s.l.length ≤ c ∧ Es EN w p A s.l
theorem Rd.lt {w : World} {p : Nat} {s : St} (h : Rd w p s) : p < w.heap.size := by
  obtain ⟨A, c, h1, -⟩ := h
  exact rdB_lt h1
theorem Rd.keep {w w' : World} {p : Nat} {s : St} (h : Rd w p s) (hb : Below w.heap.size w w') : Rd w' p s := by
  have hl := h.lt
  obtain ⟨A, c, h1, h2, h3⟩ := h
  exact ⟨A, c, (hb.block p hl).trans h1, h2, h3.below (hb.mono (by omega))⟩
theorem Rd.alloc {w : World} {p : Nat} {s : St} (h : Rd w p s) (o : Obj) : Rd (w.alloc o) p s := h.keep (new_below w o)
theorem Rd.setNew {w : World} {p g o : Nat} {u : Value} {s : St} (h : Rd w p s) (hg : p < g) : Rd (w.setCell ⟨g, o, none⟩ u) p s := by
  obtain ⟨A, c, h1, h2, h3⟩ := h
  refine ⟨A, c, ?_, h2, h3.below ((Below.refl p w).setCell (show p ≤ g by omega) u)⟩
  rw [heap_setCell_other _ _ _ _ (by simp; omega)]
  exact h1
theorem Rd.grown {w w' : World} {p B : Nat} {j : Option Nat} {s : St} (h : Rd w p s) (hg : w.grownBy w' j) (hj : ∀ k, j = some k → B ≤ k) (hB : p < B) : Rd w' p s := by
  have hl := h.lt
  obtain ⟨A, c, h1, h2, h3⟩ := h
  have hb : Below p w w' := (Below.refl p w).grown hg (by omega) fun k e => by have := hj k e; omega
  refine ⟨A, c, (hg.block p hl (fun e => by have := hj p e.symm; omega)).trans h1, h2, h3.below hb⟩
theorem es_tail {w : World} {B c : Nat} {A : Option Addr} {n : Int} {r : List Int} (h : Es EN w B A (n :: r)) (hc : r.length + 1 ≤ c) : Es EN w B (if c = 1 then A else A.map fun x => x.add 1) r := fun hne => by
  obtain ⟨b, off, rfl, hb, hr⟩ := h (by simp)
  have hl := List.length_pos_iff.2 hne
  rw [if_neg (by omega)]
  refine ⟨b, off + 1, by simp [Addr.add], hb, fun j u hj => ?_⟩
  have h2 := hr (j + 1) u (by simpa using hj)
  have e : off + 1 + j * EN.size = off + (j + 1) * EN.size := by
    rw [show EN.size = 1 from rfl]
    omega
  rw [e]
  exact h2
theorem slice_tail (A : Option Addr) (n c : Nat) (W : World) :
    (Instr.slice 22 (.slice A (n + 1) c) (some (.int .i64 1)) none none).run Try.prog W = .ok (.slice (if c = 1 then A else A.map fun x => x.add 1) n (c - 1)) W := by
  go_simp
  intro h
  omega

/-- The writer's block, and its row. -/
def wrB (A : Option Addr) (n c : Nat) : Obj := .cells #[.slice A n c] 77 (0, 0)
/-- The writer at q has said xs; its row is in a block j, if there is one, of its own, above it. -/
structure Wr (w : World) (q : Nat) (xs : List Int) (v : Value) : Prop where
  blk : w.heap[q]? = some (.cells #[v] 77 (0, 0))
  own : OwnE EN w (q + 1) v xs
/-- Those blocks lie as they lay that are neither the writer's nor its row's. -/
structure Wf (q : Nat) (v : Value) (w : World) (v' : Value) (w' : World) : Prop where
  b : Below q w w'
  f : ∀ k, k < w.heap.size → k ≠ q → v.ownBlock ≠ some k → w'.heap[k]? = w.heap[k]?
  row : v'.ownBlock = v.ownBlock ∨ ∃ k, v'.ownBlock = some k ∧ w.heap.size ≤ k
section
variable {q g o : Nat} {v v1 v2 : Value} {w w1 w2 w' : World} {xs : List Int} {u : Value}
theorem Wf.refl (q : Nat) (v : Value) (w : World) : Wf q v w v w := ⟨Below.refl _ _, fun _ _ _ _ => rfl, .inl rfl⟩
theorem Wf.size (h : Wf q v w v1 w1) : w.heap.size ≤ w1.heap.size := h.b.size
theorem Wf.trans (h : Wf q v w v1 w1) (k : Wf q v1 w1 v2 w2) : Wf q v w v2 w2 := by
  refine ⟨h.b.trans k.b, fun i h1 h2 h3 => (k.f i (Nat.lt_of_lt_of_le h1 h.size) h2 fun e => ?_).trans (h.f i h1 h2 h3), ?_⟩
  · rcases h.row with e1 | ⟨j, e1, e2⟩
    · exact h3 (e1 ▸ e)
    · rw [e1] at e
      cases e
      omega
  · rcases k.row with e1 | ⟨j, e1, e2⟩
    · rcases h.row with e2 | ⟨j, e2, e3⟩
      · exact .inl (e1.trans e2)
      · exact .inr ⟨j, e1.trans e2, e3⟩
    · exact .inr ⟨j, e1, by have := h.size; omega⟩
theorem Wr.lt (h : Wr w q xs v) : q < w.heap.size := (Array.getElem?_eq_some_iff.1 h.blk).1
theorem Wr.cell (h : Wr w q xs v) : w.cell? ⟨q, 0, none⟩ = some v := Joins.cell_of_block h.blk 0
theorem Wr.free (h : Wr w q xs v) : ∀ o, w.frozen? ⟨q, o, none⟩ = false := by
  intro o
  simp [World.frozen?, h.blk]
theorem Wr.keep (h : Wr w q xs v) (hb : Below w.heap.size w w') : Wr w' q xs v := ⟨(hb.block q h.lt).trans h.blk, h.own.keep hb⟩
theorem Wr.alloc (h : Wr w q xs v) (o : Obj) : Wr (w.alloc o) q xs v := h.keep (new_below w o)
theorem Wf.alloc (h : Wf q v w v1 w1) (hq : q < w.heap.size) (o : Obj) : Wf q v w v1 (w1.alloc o) :=
  ⟨h.b.alloc (by have := h.size; omega) o, fun k h1 h2 h3 => ((new_below w1 o).block k (Nat.lt_of_lt_of_le h1 h.size)).trans (h.f k h1 h2 h3), h.row⟩
theorem Wf.keep (h : Wf q v w v1 w1) (hq : q < w.heap.size) (hb : Below w1.heap.size w1 w2) : Wf q v w v1 w2 :=
  ⟨h.b.trans (hb.mono (by have := h.size; omega)), fun k h1 h2 h3 => (hb.block k (Nat.lt_of_lt_of_le h1 h.size)).trans (h.f k h1 h2 h3), h.row⟩
/-- A block that is neither: it stays. -/
theorem Wf.other (h : Wf q v w v1 w1) {O : Obj} (hO : w.heap[g]? = some O) (h1 : g ≠ q) (h2 : v.ownBlock ≠ some g) : w1.heap[g]? = some O := (h.f g (Array.getElem?_eq_some_iff.1 hO).1 h1 h2).trans hO
/-- One that is new when the row is not. -/
theorem Wf.not (h : Wf q v w v1 w1) (hg : g < w.heap.size) (h2 : v.ownBlock ≠ some g) : v1.ownBlock ≠ some g := fun e => by
  rcases h.row with e1 | ⟨j, e1, e2⟩
  · exact h2 (e1 ▸ e)
  · rw [e1] at e
    cases e
    omega
theorem Wr.new (h : Wr w q xs v) : v.ownBlock ≠ some w.heap.size := fun e => by
  have := ownE_lt h.own e
  omega
end
end Go.Proofs.Ytfmmfaeognoleaa
/-
  What a writer says: say, and what is said of one colour, vertex, instruction, triangle, sign.
-/
namespace Go.Proofs.Ytfmmfaeognoleaa
open Go.RowKit
attribute [local go_sem ↓] Go.wp_at_zero Go.wp_at_succ

set_option maxRecDepth 100000 in
theorem rowN : Nonempty (Row EN 22) := row_of Try.underlying22 (z := .int .i64 0) (b := 8) (by kernel_rfl) (by decide) (by kernel_rfl)

/-- What a call says: nothing is answered, the writer has said more. -/
def Says (q : Nat) (v : Value) (xs : List Int) (w : World) (e : Ending) (w' : World) : Prop := e = .returned (.tuple #[]) ∧ ∃ v', Wr w' q xs v' ∧ Wf q v w v' w'

set_option maxRecDepth 100000 in
set_option maxHeartbeats 1000000 in
theorem say_any {q : Nat} {v : Value} {xs : List Int} (ys : List Int) (A : Option Addr) (c B : Nat) (w : World) (h : Wr w q xs v) (hs : Es EN w B A ys) (hn : xs.length + ys.length ≤ 100000000) :
    Calls Try.prog 44 #[.pointer (some ⟨q, 0, none⟩), .slice A ys.length c] w (Says q v (xs ++ ys) w) := by
  obtain ⟨RN⟩ := rowN
  have hq := h.lt
  have hcell := h.cell
  have HO := Lib.hid h.own
  have HS := Lib.hid hs
  have HW := Lib.hid h
  clear h hs
  go_enter Try.func44, Try.ntmps44
  go_wp2_with (at_builtin; refine wpList_append_es rfl RN _ _ c rfl rfl rfl HO.out HS.out (by omega) (by omega) (by omega) ?_; intro v' w1 hown hg hat; obtain ⟨ho, hbl⟩ := ownE_app HO.out hown hg (by omega); have hq1 := (hbl.block q (by omega)).trans HW.out.blk; have hc1 : w1.cell? ⟨q, 0, none⟩ = some v := Joins.cell_of_block hq1 0; have hf1 : w1.frozen? ⟨q, 0, none⟩ = false := (by simp [World.frozen?, hq1]); obtain ⟨A', c', rfl⟩ := ho.form)
  go_end0
  refine ⟨rfl, _, ⟨?_, ho.setCell (Nat.lt_succ_self q)⟩, ⟨(hbl.mono (by omega)).setCell (Nat.le_refl q) _, fun k h1 h2 h3 => ?_, ?_⟩⟩
  · rw [heap_setCell_same _ _ _ _ _ _ hq1]
    simp
  · rw [heap_setCell_other _ _ _ _ (by simpa using h2)]
    exact hg.block k h1 (fun e => h3 e.symm)
  · rcases hat with e | e
    · exact .inl e
    · exact .inr ⟨_, e, Nat.le_refl _⟩
end Go.Proofs.Ytfmmfaeognoleaa
/-
  What a writer says of one colour, vertex, instruction, triangle; of a sign.
-/
namespace Go.Proofs.Ytfmmfaeognoleaa
open Go.RowKit
attribute [local go_sem ↓] Go.wp_at_zero Go.wp_at_succ

theorem es_new {w : World} (xs : List Int) (cs : Array Value) (h : cs.toList = xs.map (Value.int .i64)) : Es EN (w.alloc (.cells cs 3)) (w.heap.size + 1) (some ⟨w.heap.size, 0, none⟩) xs := fun _ => by
  refine ⟨w.heap.size, 0, rfl, Nat.lt_succ_self _, fun j u hj i y hy => ?_⟩
  have hi : i = 0 := by
    rcases Nat.eq_zero_or_pos i with e | e
    · exact e
    · rw [List.getElem?_eq_none (by show 1 ≤ i; omega)] at hy; cases hy
  subst hi
  obtain rfl : Value.int .i64 u = y := by simpa [EN] using hy
  rw [cell_of_row _ w.heap.size _ cs 3 (0, 0) (heap_alloc_new _ _), show 0 + j * EN.size + 0 = j by rw [show EN.size = 1 from rfl]; omega, ← Array.getElem?_toList, h, List.getElem?_map, hj]
  rfl
set_option maxRecDepth 100000 in
set_option maxHeartbeats 1000000 in
theorem wcol_any {q : Nat} {v : Value} {xs : List Int} (c : Col) (hc : c.ok) (w : World) (h : Wr w q xs v) (hn : xs.length + 4 ≤ 100000000) :
    Calls Try.prog 45 #[.pointer (some ⟨q, 0, none⟩), .agg #[.int .u8 c.r, .int .u8 c.g, .int .u8 c.b, .int .u8 c.a]] w (Says q v (xs ++ nC c) w) := by
  obtain ⟨⟨r0, r1⟩, ⟨g0, g1⟩, ⟨b0, b1⟩, ⟨a0, a1⟩⟩ := hc
  have hq := h.lt
  have HS := Lib.hid (fun t (ht : t = (w.alloc (.cells #[.int .u8 c.r, .int .u8 c.g, .int .u8 c.b, .int .u8 c.a] 27)).alloc (.cells #[.int .i64 c.r, .int .i64 c.g, .int .i64 c.b, .int .i64 c.a] 3)) => show Calls Try.prog 44 #[.pointer (some ⟨q, 0, none⟩), .slice (some ⟨w.heap.size + 1, 0, none⟩) 4 4] t (Says q v (xs ++ nC c) t) from by
    subst ht
    have hw := (h.alloc (.cells #[.int .u8 c.r, .int .u8 c.g, .int .u8 c.b, .int .u8 c.a] 27)).alloc (.cells #[.int .i64 c.r, .int .i64 c.g, .int .i64 c.b, .int .i64 c.a] 3)
    have he := es_new (w := w.alloc (.cells #[.int .u8 c.r, .int .u8 c.g, .int .u8 c.b, .int .u8 c.a] 27)) (nC c) #[.int .i64 c.r, .int .i64 c.g, .int .i64 c.b, .int .i64 c.a] rfl
    simp only [World.size_alloc] at he
    exact say_any (nC c) _ 4 _ _ hw he hn)
  have HF := Lib.hid (((Wf.refl q v w).alloc hq (.cells #[.int .u8 c.r, .int .u8 c.g, .int .u8 c.b, .int .u8 c.a] 27)).alloc hq (.cells #[.int .i64 c.r, .int .i64 c.g, .int .i64 c.b, .int .i64 c.a] 3))
  clear h hn
  go_enter Try.func45, Try.ntmps45
  go_wp2_with fail
  with_reducible refine (HS.out _ rfl).mono ?_
  rintro e w' ⟨rfl, v', hw', hf'⟩
  go_wp2
  go_end0
  exact ⟨rfl, v', hw', HF.out.trans hf'⟩
/-- Some cells of a block of their own, read as numbers. -/
theorem es_mid {w : World} {g t off : Nat} {cs : Array Value} (hg : w.heap[g]? = some (.cells cs t (0, 0))) (ys : List Int) (h : (cs.toList.drop off).take ys.length = ys.map (Value.int .i64)) : Es EN w (g + 1) (some ⟨g, off, none⟩) ys := fun _ => by
  refine ⟨g, off, rfl, Nat.lt_succ_self _, fun j u hj i y hy => ?_⟩
  have hjl : j < ys.length := (List.getElem?_eq_some_iff.1 hj).1
  have hi : i = 0 := by
    rcases Nat.eq_zero_or_pos i with e | e
    · exact e
    · rw [List.getElem?_eq_none (by show 1 ≤ i; omega)] at hy; cases hy
  subst hi
  obtain rfl : Value.int .i64 u = y := by simpa [EN] using hy
  rw [cell_of_row _ g _ cs t (0, 0) hg, show off + j * EN.size + 0 = off + j by rw [show EN.size = 1 from rfl]; omega, ← Array.getElem?_toList]
  have h2 : ((cs.toList.drop off).take ys.length)[j]? = (ys.map (Value.int .i64))[j]? := by rw [h]
  rw [List.getElem?_take_of_lt hjl, List.getElem?_drop, List.getElem?_map, hj] at h2
  exact h2
set_option maxRecDepth 100000 in
set_option maxHeartbeats 1000000 in
theorem wins_any {q : Nat} {v : Value} {xs : List Int} (x : C.In) (hx : x.ok) (w : World) (h : Wr w q xs v) (hn : xs.length + 5 ≤ 100000000) :
    Calls Try.prog 81 #[.pointer (some ⟨q, 0, none⟩), .agg #[.int .u8 x.o, .int .u8 x.d, .int .u8 x.a, .int .u8 x.b, .int .i64 x.n]] w (Says q v (xs ++ nI x) w) := by
  obtain ⟨⟨r0, r1⟩, ⟨g0, g1⟩, ⟨b0, b1⟩, ⟨a0, a1⟩, -⟩ := hx
  have hq := h.lt
  have HS := Lib.hid (fun t (ht : t = (w.alloc (.cells #[.int .u8 x.o, .int .u8 x.d, .int .u8 x.a, .int .u8 x.b, .int .i64 x.n] 70)).alloc (.cells #[.int .i64 x.o, .int .i64 x.d, .int .i64 x.a, .int .i64 x.b, .int .i64 x.n] 3)) => show Calls Try.prog 44 #[.pointer (some ⟨q, 0, none⟩), .slice (some ⟨w.heap.size + 1, 0, none⟩) 5 5] t (Says q v (xs ++ nI x) t) from by
    subst ht
    have hw := (h.alloc (.cells #[.int .u8 x.o, .int .u8 x.d, .int .u8 x.a, .int .u8 x.b, .int .i64 x.n] 70)).alloc (.cells #[.int .i64 x.o, .int .i64 x.d, .int .i64 x.a, .int .i64 x.b, .int .i64 x.n] 3)
    have he := es_new (w := w.alloc (.cells #[.int .u8 x.o, .int .u8 x.d, .int .u8 x.a, .int .u8 x.b, .int .i64 x.n] 70)) (nI x) #[.int .i64 x.o, .int .i64 x.d, .int .i64 x.a, .int .i64 x.b, .int .i64 x.n] rfl
    simp only [World.size_alloc] at he
    exact say_any (nI x) _ 5 _ _ hw he hn)
  have HF := Lib.hid (((Wf.refl q v w).alloc hq (.cells #[.int .u8 x.o, .int .u8 x.d, .int .u8 x.a, .int .u8 x.b, .int .i64 x.n] 70)).alloc hq (.cells #[.int .i64 x.o, .int .i64 x.d, .int .i64 x.a, .int .i64 x.b, .int .i64 x.n] 3))
  clear h hn
  go_enter Try.func81, Try.ntmps81
  go_wp2_with fail
  with_reducible refine (HS.out _ rfl).mono ?_
  rintro e w' ⟨rfl, v', hw', hf'⟩
  go_wp2
  go_end0
  exact ⟨rfl, v', hw', HF.out.trans hf'⟩
set_option maxRecDepth 100000 in
set_option maxHeartbeats 1000000 in
theorem wvec_any {q : Nat} {v : Value} {xs : List Int} (x : U.V) (w : World) (h : Wr w q xs v) (hn : xs.length + 8 ≤ 100000000) :
    Calls Try.prog 47 #[.pointer (some ⟨q, 0, none⟩), .agg #[.int .i64 x.x, .int .i64 x.y, .int .i64 x.z, .int .i64 x.w, .int .i64 x.a, .int .i64 x.b, .int .i64 x.c, .int .i64 x.d]] w (Says q v (xs ++ nV x) w) := by
  have hq := h.lt
  have hnw := h.new
  have HS := Lib.hid (fun t (ht : t = (w.alloc (.cells #[.int .i64 x.x, .int .i64 x.y, .int .i64 x.z, .int .i64 x.w, .int .i64 x.a, .int .i64 x.b, .int .i64 x.c, .int .i64 x.d] 43)).alloc (.cells #[.int .i64 x.x, .int .i64 x.y, .int .i64 x.z, .int .i64 x.w] 3)) => show Calls Try.prog 44 #[.pointer (some ⟨q, 0, none⟩), .slice (some ⟨w.heap.size + 1, 0, none⟩) 4 4] t (Says q v (xs ++ [x.x, x.y, x.z, x.w]) t) from by
    subst ht
    have hw := (h.alloc (.cells #[.int .i64 x.x, .int .i64 x.y, .int .i64 x.z, .int .i64 x.w, .int .i64 x.a, .int .i64 x.b, .int .i64 x.c, .int .i64 x.d] 43)).alloc (.cells #[.int .i64 x.x, .int .i64 x.y, .int .i64 x.z, .int .i64 x.w] 3)
    have he := es_new (w := w.alloc (.cells #[.int .i64 x.x, .int .i64 x.y, .int .i64 x.z, .int .i64 x.w, .int .i64 x.a, .int .i64 x.b, .int .i64 x.c, .int .i64 x.d] 43)) [x.x, x.y, x.z, x.w] #[.int .i64 x.x, .int .i64 x.y, .int .i64 x.z, .int .i64 x.w] rfl
    simp only [World.size_alloc] at he
    exact say_any [x.x, x.y, x.z, x.w] _ 4 _ _ hw he (by show xs.length + 4 ≤ _; omega))
  have HF := Lib.hid (((Wf.refl q v w).alloc hq (.cells #[.int .i64 x.x, .int .i64 x.y, .int .i64 x.z, .int .i64 x.w, .int .i64 x.a, .int .i64 x.b, .int .i64 x.c, .int .i64 x.d] 43)).alloc hq (.cells #[.int .i64 x.x, .int .i64 x.y, .int .i64 x.z, .int .i64 x.w] 3))
  have HG := Lib.hid (show ((w.alloc (.cells #[.int .i64 x.x, .int .i64 x.y, .int .i64 x.z, .int .i64 x.w, .int .i64 x.a, .int .i64 x.b, .int .i64 x.c, .int .i64 x.d] 43)).alloc (.cells #[.int .i64 x.x, .int .i64 x.y, .int .i64 x.z, .int .i64 x.w] 3)).heap[w.heap.size]? = some (.cells #[.int .i64 x.x, .int .i64 x.y, .int .i64 x.z, .int .i64 x.w, .int .i64 x.a, .int .i64 x.b, .int .i64 x.c, .int .i64 x.d] 43 (0, 0)) from (heap_alloc_old _ _ (by simp)).trans (heap_alloc_new _ _))
  have HN := Lib.hid (show xs.length + 8 ≤ 100000000 from hn)
  clear h hn
  go_enter Try.func47, Try.ntmps47
  go_wp2_with fail
  with_reducible refine (HS.out _ rfl).mono ?_
  rintro e w1 ⟨rfl, v1, hw1, hf1⟩
  have hg := hf1.other HG.out (by omega) hnw
  have HF1 := Lib.hid (HF.out.trans hf1)
  have H2 := Lib.hid (show Calls Try.prog 44 #[.pointer (some ⟨q, 0, none⟩), .slice (some ⟨w.heap.size, 4, none⟩) 4 4] w1 (Says q v1 (xs ++ nV x) w1) from by
    have := say_any [x.a, x.b, x.c, x.d] _ 4 _ _ hw1 (es_mid (off := 4) hg [x.a, x.b, x.c, x.d] rfl) (by have := HN.out; simp; omega)
    rw [List.append_assoc] at this
    exact this)
  clear hg hw1 hf1 HS HG HF
  go_wp2_with fail
  with_reducible refine (H2.out).mono ?_
  rintro e w2 ⟨rfl, v2, hw2, hf2⟩
  go_wp2
  go_end0
  exact ⟨rfl, v2, hw2, HF1.out.trans hf2⟩
set_option maxRecDepth 100000 in
set_option maxHeartbeats 1000000 in
theorem wtri_any {q : Nat} {v : Value} {xs : List Int} (x : Tr) (w : World) (h : Wr w q xs v) (hn : xs.length + 4 ≤ 100000000) :
    Calls Try.prog 84 #[.pointer (some ⟨q, 0, none⟩), .agg #[.int .i64 x.i, .int .i64 x.a, .int .i64 x.b, .int .i64 x.c]] w (Says q v (xs ++ nR x) w) := by
  have hq := h.lt
  have hnw := h.new
  have HS := Lib.hid (fun t (ht : t = (w.alloc (.cells #[.int .i64 x.i, .int .i64 x.a, .int .i64 x.b, .int .i64 x.c] 74)).alloc (.cells #[.int .i64 x.i] 3)) => show Calls Try.prog 44 #[.pointer (some ⟨q, 0, none⟩), .slice (some ⟨w.heap.size + 1, 0, none⟩) 1 1] t (Says q v (xs ++ [x.i]) t) from by
    subst ht
    have hw := (h.alloc (.cells #[.int .i64 x.i, .int .i64 x.a, .int .i64 x.b, .int .i64 x.c] 74)).alloc (.cells #[.int .i64 x.i] 3)
    have he := es_new (w := w.alloc (.cells #[.int .i64 x.i, .int .i64 x.a, .int .i64 x.b, .int .i64 x.c] 74)) [x.i] #[.int .i64 x.i] rfl
    simp only [World.size_alloc] at he
    exact say_any [x.i] _ 1 _ _ hw he (by show xs.length + 1 ≤ _; omega))
  have HF := Lib.hid (((Wf.refl q v w).alloc hq (.cells #[.int .i64 x.i, .int .i64 x.a, .int .i64 x.b, .int .i64 x.c] 74)).alloc hq (.cells #[.int .i64 x.i] 3))
  have HG := Lib.hid (show ((w.alloc (.cells #[.int .i64 x.i, .int .i64 x.a, .int .i64 x.b, .int .i64 x.c] 74)).alloc (.cells #[.int .i64 x.i] 3)).heap[w.heap.size]? = some (.cells #[.int .i64 x.i, .int .i64 x.a, .int .i64 x.b, .int .i64 x.c] 74 (0, 0)) from (heap_alloc_old _ _ (by simp)).trans (heap_alloc_new _ _))
  have HN := Lib.hid (show xs.length + 4 ≤ 100000000 from hn)
  clear h hn
  go_enter Try.func84, Try.ntmps84
  go_wp2_with fail
  with_reducible refine (HS.out _ rfl).mono ?_
  rintro e w1 ⟨rfl, v1, hw1, hf1⟩
  have hg := hf1.other HG.out (by omega) hnw
  have HF1 := Lib.hid (HF.out.trans hf1)
  have H2 := Lib.hid (show Calls Try.prog 44 #[.pointer (some ⟨q, 0, none⟩), .slice (some ⟨w.heap.size, 1, none⟩) 3 3] w1 (Says q v1 (xs ++ nR x) w1) from by
    have := say_any [x.a, x.b, x.c] _ 3 _ _ hw1 (es_mid (off := 1) hg [x.a, x.b, x.c] rfl) (by have := HN.out; simp; omega)
    rw [List.append_assoc] at this
    exact this)
  clear hg hw1 hf1 HS HG HF
  go_wp2_with fail
  with_reducible refine (H2.out).mono ?_
  rintro e w2 ⟨rfl, v2, hw2, hf2⟩
  go_wp2
  go_end0
  exact ⟨rfl, v2, hw2, HF1.out.trans hf2⟩
set_option maxRecDepth 100000 in
set_option maxHeartbeats 1000000 in
theorem wsign_any {q : Nat} {v : Value} {xs : List Int} (b : Bool) (w : World) (h : Wr w q xs v) (hn : xs.length + 1 ≤ 100000000) :
    Calls Try.prog 82 #[.pointer (some ⟨q, 0, none⟩), .bool b] w (Says q v (xs ++ [nB b]) w) := by
  have hq := h.lt
  have HS := Lib.hid (fun (n : Int) t (ht : t = w.alloc (.cells #[.int .i64 n] 3)) => show Calls Try.prog 44 #[.pointer (some ⟨q, 0, none⟩), .slice (some ⟨w.heap.size, 0, none⟩) 1 1] t (Says q v (xs ++ [n]) t) from by
    subst ht
    exact say_any [n] _ 1 _ _ (h.alloc (.cells #[.int .i64 n] 3)) (es_new [n] #[.int .i64 n] rfl) hn)
  have HF := Lib.hid (fun (n : Int) => (Wf.refl q v w).alloc hq (.cells #[.int .i64 n] 3))
  clear h hn
  cases b
  · show Calls Try.prog 82 #[.pointer (some ⟨q, 0, none⟩), .bool false] w (Says q v (xs ++ [0]) w)
    go_enter Try.func82, Try.ntmps82
    go_wp2_with fail
    with_reducible refine (HS.out _ _ rfl).mono ?_
    rintro e w' ⟨rfl, v', hw', hf'⟩
    go_wp2
    go_end0
    exact ⟨rfl, v', hw', (HF.out 0).trans hf'⟩
  · show Calls Try.prog 82 #[.pointer (some ⟨q, 0, none⟩), .bool true] w (Says q v (xs ++ [1]) w)
    go_enter Try.func82, Try.ntmps82
    go_wp2_with fail
    with_reducible refine (HS.out _ _ rfl).mono ?_
    rintro e w' ⟨rfl, v', hw', hf'⟩
    go_wp2
    first | go_end0 | go_ret
    exact ⟨rfl, v', hw', (HF.out 1).trans hf'⟩
end Go.Proofs.Ytfmmfaeognoleaa
