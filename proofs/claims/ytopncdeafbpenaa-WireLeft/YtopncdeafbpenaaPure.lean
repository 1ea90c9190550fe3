/-
  Plain mathematics of layer 3: numbers folded, put as bytes, and read again. No program is named here.
-/
import Derived.Below
namespace Go.Proofs.Ytopncdeafbpenaa

def fold (n : Int) : Nat := if n < 0 then 2 * (-(n + 1)).toNat + 1 else 2 * n.toNat
def unf (u : Nat) : Int := if u % 2 = 1 then -((u / 2 : Nat) : Int) - 1 else ((u / 2 : Nat) : Int)
def In64 (n : Int) : Prop := -9223372036854775808 ≤ n ∧ n ≤ 9223372036854775807

theorem unf_fold (n : Int) : unf (fold n) = n := by
  unfold unf fold
  by_cases h : n < 0
  · rw [if_pos h, if_pos (by omega)]; omega
  · rw [if_neg h, if_neg (by omega)]; omega
theorem fold_unf (u : Nat) : fold (unf u) = u := by
  unfold unf fold
  by_cases h : u % 2 = 1
  · rw [if_pos h, if_pos (by omega)]; omega
  · rw [if_neg h, if_neg (by omega)]; omega
theorem fold_lt {n : Int} (h : In64 n) : fold n < 18446744073709551616 := by
  unfold In64 at h
  unfold fold
  split <;> omega
theorem unf_in {u : Nat} (h : u < 18446744073709551616) : In64 (unf u) := by
  unfold In64 unf
  split <;> omega

def enc (u : Nat) : List Int := if u < 128 then [(u : Int)] else ((u % 128 + 128 : Nat) : Int) :: enc (u / 128)
termination_by u
decreasing_by omega

theorem enc_lt {u : Nat} (h : u < 128) : enc u = [(u : Int)] := by rw [enc, if_pos h]
theorem enc_ge {u : Nat} (h : ¬ u < 128) : enc u = ((u % 128 + 128 : Nat) : Int) :: enc (u / 128) := by rw [enc, if_neg h]

def Byt (l : List Int) : Prop := ∀ x ∈ l, 0 ≤ x ∧ x ≤ 255
theorem Byt.nil : Byt [] := fun _ h => by simp at h
theorem Byt.app {a b : List Int} (h : Byt a) (k : Byt b) : Byt (a ++ b) := fun x hx => (List.mem_append.1 hx).elim (h x) (k x)
theorem Byt.take {a : List Int} (h : Byt a) (n : Nat) : Byt (a.take n) := fun x hx => h x (List.mem_of_mem_take hx)
theorem Byt.drop {a : List Int} (h : Byt a) (n : Nat) : Byt (a.drop n) := fun x hx => h x (List.mem_of_mem_drop hx)
theorem Byt.get {a : List Int} (h : Byt a) (n : Nat) : 0 ≤ a.getD n 0 ∧ a.getD n 0 ≤ 255 := by
  rcases Nat.lt_or_ge n a.length with hl | hl
  · rw [List.getD_eq_getElem?_getD, List.getElem?_eq_getElem hl]; exact h _ (List.getElem_mem hl)
  · rw [List.getD_eq_getElem?_getD, List.getElem?_eq_none hl]; simp

theorem enc_byt (u : Nat) : Byt (enc u) := by
  induction u using Nat.strongRecOn with
  | ind u ih =>
    by_cases h : u < 128
    · rw [enc_lt h]; intro x hx; simp at hx; omega
    · rw [enc_ge h]; intro x hx
      rcases List.mem_cons.1 hx with rfl | hx
      · omega
      · exact ih _ (by omega) x hx

theorem enc_pos (u : Nat) : 1 ≤ (enc u).length := by
  by_cases h : u < 128
  · rw [enc_lt h]; simp
  · rw [enc_ge h]; simp

theorem enc_mono : ∀ (v u : Nat), u ≤ v → (enc u).length ≤ (enc v).length := by
  intro v
  induction v using Nat.strongRecOn with
  | ind v ih =>
    intro u huv
    by_cases h : u < 128
    · rw [enc_lt h]; exact enc_pos v
    · rw [enc_ge h, enc_ge (u := v) (by omega)]
      simp only [List.length_cons]
      have := ih (v / 128) (by omega) (u / 128) (by omega)
      omega

theorem enc_len_step {u k : Nat} (h : (enc (u / 128)).length ≤ k) : (enc u).length ≤ k + 1 := by
  by_cases hu : u < 128
  · rw [enc_lt hu]; simp
  · rw [enc_ge hu]; simp; exact h

theorem enc_len10 {u : Nat} (h : u < 18446744073709551616) : (enc u).length ≤ 10 := by
  have e1 : ∀ x, x < 128 → (enc x).length ≤ 1 := fun x hx => by rw [enc_lt hx]; simp
  refine enc_len_step (enc_len_step (enc_len_step (enc_len_step (enc_len_step (enc_len_step (enc_len_step (enc_len_step (enc_len_step (e1 _ ?_)))))))))
  omega

theorem enc_one (u : Nat) : (enc u).length = 1 ↔ u < 128 := by
  constructor
  · intro h
    rcases Nat.lt_or_ge u 128 with hu | hu
    · exact hu
    · rw [enc_ge (by omega)] at h; simp only [List.length_cons] at h
      have := enc_pos (u / 128); omega
  · intro h; rw [enc_lt h]; simp

theorem enc_two (u : Nat) : (enc u).length ≤ 2 ↔ u < 16384 := by
  by_cases hu : u < 128
  · rw [enc_lt hu]; simp; omega
  · rw [enc_ge hu]; simp only [List.length_cons]
    have h1 := enc_one (u / 128)
    have h2 := enc_pos (u / 128)
    omega

/-- The bytes of an even number and of the next one: the first one is one more, the others are the same. -/
theorem enc_next (m : Nat) : ∃ (a : Int) (t : List Int), enc (2 * m) = a :: t ∧ enc (2 * m + 1) = (a + 1) :: t ∧ 0 ≤ a ∧ a + 1 ≤ 255 := by
  by_cases h : 2 * m < 128
  · exact ⟨((2 * m : Nat) : Int), [], by rw [enc_lt h], by rw [enc_lt (by omega)]; simp, by omega, by omega⟩
  · refine ⟨((2 * m % 128 + 128 : Nat) : Int), enc (2 * m / 128), by rw [enc_ge h], ?_, by omega, by omega⟩
    rw [enc_ge (by omega), show (2 * m + 1) / 128 = 2 * m / 128 by omega]
    congr 1
    omega

def scan : Nat → Nat → List Int → Int × Nat
  | _, _, [] => (0, 0)
  | i, u, p :: r => if 10 ≤ i then (0, 0) else if 128 ≤ p then scan (i + 1) (u + (p.toNat % 128) * 128 ^ i) r else
      if (0 < i ∧ p = 0) ∨ (i = 9 ∧ 1 < p) then (0, 0) else (unf (u + p.toNat * 128 ^ i), i + 1)
def first (b : List Int) : Int × Nat := scan 0 0 b

theorem scan_ten (i u : Nat) (h : 10 ≤ i) : ∀ l, scan i u l = (0, 0)
  | [] => rfl
  | p :: r => by rw [scan, if_pos h]
theorem scan_more {i u : Nat} {p : Int} {r : List Int} (h : i < 10) (hp : 128 ≤ p) : scan i u (p :: r) = scan (i + 1) (u + (p.toNat % 128) * 128 ^ i) r := by
  rw [scan, if_neg (by omega), if_pos hp]
theorem scan_bad {i u : Nat} {p : Int} {r : List Int} (h : i < 10) (hp : p < 128) (hb : (0 < i ∧ p = 0) ∨ (i = 9 ∧ 1 < p)) : scan i u (p :: r) = (0, 0) := by
  rw [scan, if_neg (by omega), if_neg (by omega), if_pos hb]
theorem scan_good {i u : Nat} {p : Int} {r : List Int} (h : i < 10) (hp : p < 128) (hb : ¬ ((0 < i ∧ p = 0) ∨ (i = 9 ∧ 1 < p))) : scan i u (p :: r) = (unf (u + p.toNat * 128 ^ i), i + 1) := by
  rw [scan, if_neg (by omega), if_neg (by omega), if_neg hb]

theorem pow_parts (k : Nat) : 128 ^ (k + 1) = 128 ^ k * 128 := Nat.pow_succ ..

theorem ten_cases {k : Nat} (h : k < 10) : k = 0 ∨ k = 1 ∨ k = 2 ∨ k = 3 ∨ k = 4 ∨ k = 5 ∨ k = 6 ∨ k = 7 ∨ k = 8 ∨ k = 9 := by omega

theorem step_lt {q x A R T : Nat} (hq : q < 128) (hA : 0 < A) (hR : R * (A * 128) = T) (h : x * (A * 128) < T) : (q + 128 * x) * A < T := by
  subst hR
  have hx : x < R := Nat.lt_of_mul_lt_mul_right h
  have h1 : q + 128 * x < R * 128 := by omega
  have h2 := Nat.mul_lt_mul_of_pos_right h1 hA
  rwa [Nat.mul_assoc, Nat.mul_comm 128 A] at h2

theorem step_lt9 {q x k : Nat} (hq : q < 128) (hk : k + 1 < 10) (h : x * 128 ^ (k + 1) < 18446744073709551616) : (q + 128 * x) * 128 ^ k < 18446744073709551616 := by
  rw [pow_parts] at h
  refine step_lt (R := 2 ^ 64 / 128 ^ (k + 1)) hq (Nat.pow_pos (by decide)) ?_ h
  rcases ten_cases (k := k) (by omega) with rfl | rfl | rfl | rfl | rfl | rfl | rfl | rfl | rfl | rfl
  all_goals first | decide | omega

/-- x * 128 ^ k is of 64 bits: at the tenth part x is 0 or 1. -/
theorem last_small {x : Nat} (h : x * 128 ^ 9 < 18446744073709551616) : x ≤ 1 := by
  simp at h; omega

theorem scan_enc : ∀ (x k u : Nat) (r : List Int), k < 10 → x * 128 ^ k < 18446744073709551616 → (k = 0 ∨ 0 < x) →
    scan k u (enc x ++ r) = (unf (u + x * 128 ^ k), k + (enc x).length) := by
  intro x
  induction x using Nat.strongRecOn with
  | ind x ih =>
    intro k u r hk hx h0
    by_cases h : x < 128
    · rw [enc_lt h]
      show scan k u ((x : Int) :: r) = _
      rw [scan_good hk (by omega) ?_]
      · simp
      · rintro (⟨h1, h2⟩ | ⟨h1, h2⟩)
        · omega
        · subst h1; have := last_small hx; omega
    · rw [enc_ge h]
      have hk9 : k ≠ 9 := by rintro rfl; have := last_small hx; omega
      have e1 : x * 128 ^ k = x % 128 * 128 ^ k + x / 128 * 128 ^ (k + 1) := by
        rw [pow_parts, Nat.mul_comm (128 ^ k) 128, ← Nat.mul_assoc, ← Nat.add_mul]
        congr 1; omega
      show scan k u (((x % 128 + 128 : Nat) : Int) :: (enc (x / 128) ++ r)) = _
      rw [scan_more hk (by omega), ih (x / 128) (by omega) (k + 1) _ r (by omega) (by omega) (by omega)]
      rw [show ((x % 128 + 128 : Nat) : Int).toNat % 128 = x % 128 by omega]
      refine Prod.ext ?_ ?_
      · show unf _ = unf _
        congr 1; omega
      · simp only [List.length_cons]; omega

theorem scan_inv : ∀ (l : List Int) (k u : Nat) (n : Int) (s : Nat), Byt l → scan k u l = (n, s) → s ≠ 0 →
    k < 10 ∧ ∃ x r, l = enc x ++ r ∧ s = k + (enc x).length ∧ n = unf (u + x * 128 ^ k) ∧ x * 128 ^ k < 18446744073709551616 ∧ (k = 0 ∨ 0 < x) := by
  intro l
  induction l with
  | nil => intro k u n s _ h hs; simp [scan] at h; omega
  | cons p r ih =>
    intro k u n s hb h hs
    have hp := hb p (by simp)
    by_cases hk : 10 ≤ k
    · rw [scan_ten _ _ hk] at h; simp at h; omega
    by_cases hp128 : 128 ≤ p
    · rw [scan_more (by omega) hp128] at h
      obtain ⟨hk1, x, r', hl, hs', hn, hx, h0⟩ := ih (k + 1) _ n s (fun y hy => hb y (List.mem_cons_of_mem _ hy)) h hs
      have hx0 : 0 < x := by omega
      refine ⟨by omega, p.toNat % 128 + 128 * x, r', ?_, ?_, ?_, ?_, by omega⟩
      · rw [enc_ge (by omega), show (p.toNat % 128 + 128 * x) / 128 = x by omega, hl]
        show p :: (enc x ++ r') = ((_ : Nat) : Int) :: (enc x ++ r')
        congr 1; omega
      · rw [enc_ge (by omega), show (p.toNat % 128 + 128 * x) / 128 = x by omega, hs']
        simp only [List.length_cons]; omega
      · rw [hn]
        congr 1
        rw [Nat.add_mul, pow_parts, Nat.mul_comm 128 x, Nat.mul_assoc, Nat.mul_comm 128 (128 ^ k)]; omega
      · clear ih h hn hl hs' hb
        have hq : p.toNat % 128 < 128 := by omega
        generalize p.toNat % 128 = q at hq ⊢
        exact step_lt9 hq hk1 hx
    · by_cases hbad : (0 < k ∧ p = 0) ∨ (k = 9 ∧ 1 < p)
      · rw [scan_bad (by omega) (by omega) hbad] at h; simp at h; omega
      · rw [scan_good (by omega) (by omega) hbad] at h
        simp only [Prod.mk.injEq] at h
        obtain ⟨hn, hs'⟩ := h
        refine ⟨by omega, p.toNat, r, ?_, ?_, hn.symm, ?_, by omega⟩
        · rw [enc_lt (by omega)]
          show p :: r = ((p.toNat : Nat) : Int) :: r
          congr 1; omega
        · rw [enc_lt (by omega)]; simp; omega
        · rcases ten_cases (k := k) (by omega) with rfl | rfl | rfl | rfl | rfl | rfl | rfl | rfl | rfl | rfl <;> simp only [Nat.reducePow] <;> omega

/-- What was put is read, and nothing behind it. -/
theorem first_put {n : Int} (h : In64 n) (r : List Int) : first (enc (fold n) ++ r) = (n, (enc (fold n)).length) := by
  unfold first
  rw [scan_enc _ 0 0 r (by decide) (by simpa using fold_lt h) (.inl rfl)]
  simp [unf_fold]

/-- What is read was put. -/
theorem first_inv {b : List Int} {n : Int} {s : Nat} (hb : Byt b) (h : first b = (n, s)) (hs : s ≠ 0) :
    In64 n ∧ s = (enc (fold n)).length ∧ b = enc (fold n) ++ b.drop s ∧ s ≤ b.length ∧ 1 ≤ s ∧ s ≤ 10 := by
  obtain ⟨_, x, r, hl, hs', hn, hx, _⟩ := scan_inv b 0 0 n s hb h hs
  simp at hs' hn hx
  have hf : fold n = x := by rw [hn, fold_unf]
  have hin : In64 n := by rw [hn]; exact unf_in hx
  have hd : b.drop s = r := by rw [hl, hs']; simp
  have hlen : s ≤ b.length := by rw [hl, hs']; simp
  have := enc_pos x
  have := enc_len10 hx
  exact ⟨hin, by rw [hf, hs'], by rw [hd, hf]; exact hl, hlen, by omega, by omega⟩

theorem scan_zero : ∀ (l : List Int) (k u : Nat) (n : Int), scan k u l = (n, 0) → n = 0 := by
  intro l
  induction l with
  | nil => intro k u n h; simp [scan] at h; exact h.symm
  | cons p r ih =>
    intro k u n h
    by_cases hk : 10 ≤ k
    · rw [scan_ten _ _ hk] at h; simp at h; exact h.symm
    by_cases hp128 : 128 ≤ p
    · rw [scan_more (by omega) hp128] at h; exact ih _ _ _ h
    · by_cases hbad : (0 < k ∧ p = 0) ∨ (k = 9 ∧ 1 < p)
      · rw [scan_bad (by omega) (by omega) hbad] at h; simp at h; exact h.symm
      · rw [scan_good (by omega) (by omega) hbad] at h
        simp at h

theorem first_zero {b : List Int} {n : Int} (h : first b = (n, 0)) : n = 0 := scan_zero b 0 0 n h

/-- All numbers put, one behind the other. -/
def put (l : List Int) : List Int := l.flatMap fun n => enc (fold n)
theorem put_nil : put [] = [] := rfl
theorem put_cons (n : Int) (l : List Int) : put (n :: l) = enc (fold n) ++ put l := rfl
theorem put_app (a b : List Int) : put (a ++ b) = put a ++ put b := by simp [put]
theorem put_snoc (a : List Int) (n : Int) : put (a ++ [n]) = put a ++ enc (fold n) := by simp [put]
theorem put_byt (l : List Int) : Byt (put l) := by
  induction l with
  | nil => exact Byt.nil
  | cons n l ih => rw [put_cons]; exact (enc_byt _).app ih
def Ins (l : List Int) : Prop := ∀ n ∈ l, In64 n
theorem Ins.take {l : List Int} (h : Ins l) (k : Nat) : Ins (l.take k) := fun n hn => h n (List.mem_of_mem_take hn)
theorem Ins.app {a b : List Int} (h : Ins a) (k : Ins b) : Ins (a ++ b) := fun x hx => (List.mem_append.1 hx).elim (h x) (k x)
theorem Ins.get {l : List Int} (h : Ins l) (k : Nat) : In64 (l.getD k 0) := by
  rcases Nat.lt_or_ge k l.length with hl | hl
  · rw [List.getD_eq_getElem?_getD, List.getElem?_eq_getElem hl]; exact h _ (List.getElem_mem hl)
  · rw [List.getD_eq_getElem?_getD, List.getElem?_eq_none hl]; unfold In64; simp
theorem put_len {l : List Int} (h : Ins l) : l.length ≤ (put l).length ∧ (put l).length ≤ 10 * l.length := by
  induction l with
  | nil => simp [put]
  | cons n l ih =>
    have h1 := ih fun x hx => h x (List.mem_cons_of_mem _ hx)
    have h2 := enc_pos (fold n)
    have h3 := enc_len10 (fold_lt (h n (by simp)))
    rw [put_cons]; simp only [List.length_append, List.length_cons]; omega

/-- The numbers with which bytes begin, each with true; then, if bytes are left, 0 with false. -/
def seq (b : List Int) : List (Int × Bool) :=
  if b = [] then [] else if (first b).2 = 0 then [(0, false)] else if _h : (first b).2 ≤ b.length then ((first b).1, true) :: seq (b.drop (first b).2) else []
termination_by b.length
decreasing_by simp only [List.length_drop]; omega

theorem seq_nil : seq [] = [] := by rw [seq, if_pos rfl]
theorem seq_bad {b : List Int} {n : Int} (hb : b ≠ []) (h : first b = (n, 0)) : seq b = [(0, false)] := by rw [seq, if_neg hb, if_pos (by rw [h])]
theorem seq_good {b : List Int} {n : Int} {s : Nat} (hb : Byt b) (h : first b = (n, s)) (hs : s ≠ 0) : seq b = (n, true) :: seq (b.drop s) := by
  obtain ⟨_, _, _, hl, h1, _⟩ := first_inv hb h hs
  have hne : b ≠ [] := by rintro rfl; simp at hl; omega
  rw [seq, if_neg hne, if_neg (by rw [h]; exact hs), dif_pos (by rw [h]; exact hl), h]

theorem seq_put {l : List Int} (h : Ins l) (r : List Int) : seq (put l ++ r) = l.map (fun n => (n, true)) ++ seq r := by
  induction l with
  | nil => simp [put]
  | cons n l ih =>
    have hn := h n (by simp)
    have hp := enc_pos (fold n)
    rw [put_cons, List.append_assoc]
    have hf := first_put hn (put l ++ r)
    have hne : enc (fold n) ++ (put l ++ r) ≠ [] := by intro e; have := congrArg List.length e; simp only [List.length_append, List.length_nil] at this; omega
    rw [seq, if_neg hne, if_neg (by rw [hf]; show ¬ (enc (fold n)).length = 0; omega), dif_pos (by rw [hf]; simp), hf]
    simp [ih fun x hx => h x (List.mem_cons_of_mem _ hx)]

def nums (q : List (Int × Bool)) : List Int := (q.filter (·.2)).map (·.1)
def flag (q : List (Int × Bool)) : Bool := q.any fun x => !x.2
theorem nums_snoc_t (q : List (Int × Bool)) (n : Int) : nums (q ++ [(n, true)]) = nums q ++ [n] := by simp [nums]
theorem nums_snoc_f (q : List (Int × Bool)) (n : Int) : nums (q ++ [(n, false)]) = nums q := by simp [nums]
theorem flag_snoc_t (q : List (Int × Bool)) (n : Int) : flag (q ++ [(n, true)]) = flag q := by simp [flag]
theorem flag_snoc_f (q : List (Int × Bool)) (n : Int) : flag (q ++ [(n, false)]) = true := by simp [flag]
theorem nums_le (q : List (Int × Bool)) : (nums q).length ≤ q.length := by unfold nums; rw [List.length_map]; exact List.length_filter_le _ _

theorem seq_len : ∀ (k : Nat) (b : List Int), b.length ≤ k → Byt b → (seq b).length ≤ b.length ∧ Ins (nums (seq b)) ∧
    (∃ (q : List Int) (t : List (Int × Bool)), seq b = q.map (fun n => (n, true)) ++ t ∧ (t = [] ∨ t = [(0, false)])) := by
  intro k
  induction k with
  | zero =>
    intro b hb _
    have : b = [] := List.eq_nil_of_length_eq_zero (by omega)
    subst this; rw [seq_nil]; exact ⟨by simp, fun _ h => by simp [nums] at h, [], [], rfl, .inl rfl⟩
  | succ k ih =>
    intro b hbk hb
    by_cases hne : b = []
    · subst hne; rw [seq_nil]; exact ⟨by simp, fun _ h => by simp [nums] at h, [], [], rfl, .inl rfl⟩
    have hl0 : 0 < b.length := List.length_pos_iff.2 hne
    obtain ⟨n, s, hf⟩ : ∃ n s, first b = (n, s) := ⟨_, _, rfl⟩
    by_cases hs : s = 0
    · subst hs; rw [seq_bad hne hf]; exact ⟨by simp; omega, fun _ h => by simp [nums] at h, [], [(0, false)], rfl, .inr rfl⟩
    · obtain ⟨hin, _, _, hl, h1, _⟩ := first_inv hb hf hs
      obtain ⟨ha, hc, q, t, hq, ht⟩ := ih (b.drop s) (by rw [List.length_drop]; omega) (hb.drop s)
      rw [seq_good hb hf hs]
      refine ⟨by rw [List.length_drop] at ha; simp only [List.length_cons]; omega, ?_, n :: q, t, by rw [hq]; rfl, ht⟩
      intro x hx
      rw [show nums ((n, true) :: seq (b.drop s)) = n :: nums (seq (b.drop s)) by simp [nums]] at hx
      rcases List.mem_cons.1 hx with rfl | hx
      · exact hin
      · exact hc x hx

end Go.Proofs.Ytopncdeafbpenaa
