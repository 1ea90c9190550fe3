/-
  Programs that run, in plain numbers: registers, what an instruction makes of them, and what a program does.
-/
import Derived.Test.YtehkcnmjkgelkaaCFit3
import Derived.Test.YtehkcnmjkgelkaaTex
import Derived.Handy
namespace Go.Proofs.Ytehkcnmjkgelkaa
open Go.RowKit C

/-- A number in 32 bits. -/
def w32 (n : Int) : Int := (n + 2147483648) % 4294967296 - 2147483648
theorem w32_eq (n : Int) : IntKind.i32.wrap n = w32 n := by rw [IntKind.wrap_i32]; unfold w32; omega
theorem w32_in (n : Int) : -2147483648 ≤ w32 n ∧ w32 n ≤ 2147483647 := by unfold w32; omega
theorem w32_id {n : Int} (h : -2147483648 ≤ n ∧ n ≤ 2147483647) : w32 n = n := by unfold w32; omega
theorem w32_w32 (n : Int) : w32 (w32 n) = w32 n := w32_id (w32_in n)
theorem w32_i64 (n : Int) : w32 (IntKind.i64.wrap n) = w32 n := by rw [IntKind.wrap_i64]; unfold w32; omega
theorem i64_w32 (n : Int) : IntKind.i64.wrap (w32 n) = w32 n := by have := w32_in n; rw [IntKind.wrap_i64]; omega

/-- Registers: eight numbers of 32 bits. -/
def Reg (L : List Int) : Prop := L.length = 8 ∧ ∀ v ∈ L, -2147483648 ≤ v ∧ v ≤ 2147483647
theorem Reg.at {L : List Int} (h : Reg L) (k : Nat) : -2147483648 ≤ L.getD k 0 ∧ L.getD k 0 ≤ 2147483647 := by
  rw [List.getD_eq_getElem?_getD]
  cases e : L[k]? with
  | none => exact ⟨by decide, by decide⟩
  | some v => exact h.2 v (List.mem_of_getElem? e)
theorem Reg.set {L : List Int} (h : Reg L) (k : Nat) (n : Int) : Reg (L.set k (w32 n)) := by
  refine ⟨by rw [List.length_set]; exact h.1, fun v hv => ?_⟩
  rcases List.mem_or_eq_of_mem_set hv with hv | rfl
  · exact h.2 v hv
  · exact w32_in n
/-- Some numbers put into registers from one on, each wrapped. -/
def putL (L : List Int) : Nat → List Int → List Int
  | _, [] => L
  | d, x :: xs => putL (L.set d (w32 x)) (d + 1) xs
theorem putL_length : ∀ (xs : List Int) (L : List Int) (d : Nat), (putL L d xs).length = L.length
  | [], _, _ => rfl
  | x :: xs, L, d => by rw [putL, putL_length xs, List.length_set]
theorem putL_reg : ∀ (xs : List Int) {L : List Int} (d : Nat), Reg L → Reg (putL L d xs)
  | [], _, _, h => h
  | x :: xs, _, d, h => putL_reg xs (d + 1) (h.set d x)
theorem putL_snoc : ∀ (xs : List Int) (L : List Int) (d j : Nat) (u : Int), xs[j]? = some u → putL L d (xs.take (j + 1)) = (putL L d (xs.take j)).set (d + j) (w32 u)
  | [], _, _, _, _, h => by simp at h
  | x :: xs, L, d, 0, u, h => by
    obtain rfl : x = u := by simpa using h
    simp [putL]
  | x :: xs, L, d, j + 1, u, h => by
    have ih := putL_snoc xs (L.set d (w32 x)) (d + 1) j u (by simpa using h)
    rw [List.take_succ_cons, List.take_succ_cons, putL, putL, ih, show d + 1 + j = d + (j + 1) by omega]
theorem putL_one (L : List Int) (d : Nat) (n : Int) : putL L d [n] = L.set d (w32 n) := rfl
theorem putL_all {L xs : List Int} (hL : L.length = 8) (hx : xs.length = 8) : putL L 0 xs = xs.map w32 := by
  match L, hL, xs, hx with
  | [_, _, _, _, _, _, _, _], _, [_, _, _, _, _, _, _, _], _ => rfl
theorem map_reg {xs : List Int} (h : xs.length = 8) : Reg (xs.map w32) := by
  refine ⟨by rw [List.length_map]; exact h, fun v hv => ?_⟩
  obtain ⟨x, -, rfl⟩ := List.mem_map.1 hv
  exact w32_in x
def colL (c : Col) : List Int := [c.r, c.g, c.b, c.a]

/-- What D becomes, ahead of wrapping. -/
def rck (x : In) (a b : Int) : Int :=
  if x.o = 0 then x.n else if x.o = 1 then a else if x.o = 2 then a + b else if x.o = 3 then a - b else if x.o = 4 then a * b / 256
  else if x.o = 5 then min a b else if x.o = 6 then max a b else if x.o = 7 then bits .and .i64 a b else if x.o = 8 then bits .or .i64 a b
  else if x.o = 9 then a * 2 ^ x.n.toNat else if x.o = 10 then a / 2 ^ x.n.toNat else if x.o = 11 then (if a < b then 1 else 0) else 0
/-- The place of the next instruction. -/
def nxt (x : In) (k : Nat) (a : Int) : Nat := if x.o = 12 ∧ a ≠ 0 then k + 1 + x.n.toNat else k + 1
theorem nxt_gt (x : In) (k : Nat) (a : Int) : k + 1 ≤ nxt x k a := by unfold nxt; split <;> omega
def ra (x : In) (L : List Int) : Int := L.getD x.a.toNat 0
def rb (x : In) (L : List Int) : Int := L.getD x.b.toNat 0
/-- The registers behind an instruction. -/
def stepR (t : Tx) (x : In) (L : List Int) : List Int :=
  if x.o = 12 then L else if x.o = 13 then putL L x.d.toNat (colL (t.near (ra x L) (rb x L))) else if x.o = 14 then putL L x.d.toNat (colL (t.smooth (ra x L) (rb x L)))
  else putL L x.d.toNat [rck x (ra x L) (rb x L)]
theorem stepR_reg (t : Tx) (x : In) {L : List Int} (h : Reg L) : Reg (stepR t x L) := by
  unfold stepR
  split
  · exact h
  · split
    · exact putL_reg _ _ h
    · split
      · exact putL_reg _ _ h
      · exact putL_reg _ _ h
/-- What is left to do from a place on, with fuel: the registers, and how many instructions were done. -/
def fin (l : List In) (t : Tx) : Nat → Nat → List Int → Nat → List Int × Nat
  | 0, _, L, s => (L, s)
  | f + 1, k, L, s => match l[k]? with
    | none => (L, s)
    | some x => fin l t f (nxt x k (ra x L)) (stepR t x L) (s + 1)
theorem fin_end {l : List In} {t : Tx} {f k : Nat} {L : List Int} {s : Nat} (h : l.length ≤ k) : fin l t f k L s = (L, s) := by
  cases f with
  | zero => rfl
  | succ f => rw [fin, List.getElem?_eq_none h]
theorem fin_step {l : List In} {t : Tx} {f k : Nat} {L : List Int} {s : Nat} {x : In} (h : l[k]? = some x) : fin l t (f + 1) k L s = fin l t f (nxt x k (ra x L)) (stepR t x L) (s + 1) := by
  rw [fin, h]
theorem fin_reg {l : List In} {t : Tx} : ∀ (f k : Nat) {L : List Int} (s : Nat), Reg L → Reg (fin l t f k L s).1
  | 0, _, _, _, h => h
  | f + 1, k, L, s, h => by
    cases e : l[k]? with
    | none => rw [fin, e]; exact h
    | some x => rw [fin_step e]; exact fin_reg f _ _ (stepR_reg t x h)
theorem fin_steps {l : List In} {t : Tx} : ∀ (f k : Nat) (L : List Int) (s : Nat), s ≤ (fin l t f k L s).2 ∧ (s < s + (l.length - k) → 0 < f → s < (fin l t f k L s).2) ∧ (fin l t f k L s).2 ≤ s + (l.length - k)
  | 0, _, _, s => ⟨Nat.le_refl _, fun _ h => absurd h (by decide), Nat.le_add_right _ _⟩
  | f + 1, k, L, s => by
    cases e : l[k]? with
    | none =>
      have hk : l.length ≤ k := List.getElem?_eq_none_iff.1 e
      rw [fin, e]
      exact ⟨Nat.le_refl _, fun h => by omega, Nat.le_add_right _ _⟩
    | some x =>
      have hk : k < l.length := (List.getElem?_eq_some_iff.1 e).1
      rw [fin_step e]
      obtain ⟨h1, -, h3⟩ := fin_steps (l := l) (t := t) f (nxt x k (ra x L)) (stepR t x L) (s + 1)
      have hn := nxt_gt x k (ra x L)
      exact ⟨by omega, fun _ _ => by omega, by omega⟩
def zero8 : List Int := [0, 0, 0, 0, 0, 0, 0, 0]
theorem zero8_reg : Reg zero8 := ⟨rfl, by unfold zero8; intro v hv; simp at hv; subst hv; decide⟩
/-- What Run tells: the registers, how many instructions were done, the error. -/
def runP (l : List In) (t : Tx) (R : List Int) : List Int × Nat × Int :=
  if ¬ chk l = 0 then (zero8, 0, 23) else if l.any tex = true ∧ t.right = false then (zero8, 0, 22)
  else ((fin l t l.length 0 (R.map w32) 0).1, (fin l t l.length 0 (R.map w32) 0).2, 0)
theorem runP_bad {l : List In} {t : Tx} {R : List Int} (h : ¬ chk l = 0) : runP l t R = (zero8, 0, 23) := if_pos h
theorem runP_tex {l : List In} {t : Tx} {R : List Int} (h : chk l = 0) (h2 : l.any tex = true) (h3 : t.right = false) : runP l t R = (zero8, 0, 22) := by
  unfold runP; rw [if_neg (by omega), if_pos ⟨h2, h3⟩]
theorem runP_ok {l : List In} {t : Tx} {R : List Int} (h : chk l = 0) (h2 : ¬ (l.any tex = true ∧ t.right = false)) : runP l t R = ((fin l t l.length 0 (R.map w32) 0).1, (fin l t l.length 0 (R.map w32) 0).2, 0) := by
  unfold runP; rw [if_neg (by omega), if_neg h2]
theorem runP_reg {l : List In} {t : Tx} {R : List Int} (h : R.length = 8) : Reg (runP l t R).1 := by
  by_cases h1 : chk l = 0
  · by_cases h2 : l.any tex = true ∧ t.right = false
    · rw [runP_tex h1 h2.1 h2.2]; exact zero8_reg
    · rw [runP_ok h1 h2]; exact fin_reg _ _ _ (map_reg h)
  · rw [runP_bad h1]; exact zero8_reg

/-- What an instruction that may stand keeps to. -/
theorem one_in {x : In} {i n : Int} (hx : x.ok) (h : oneB x i n = true) : x.d ≤ 7 ∧ x.a ≤ 7 ∧ x.b ≤ 7 ∧ (x.o = 13 ∨ x.o = 14 → x.d ≤ 4) ∧ (x.o = 0 → -2147483648 ≤ x.n ∧ x.n ≤ 2147483647) ∧ (x.o = 9 ∨ x.o = 10 → 0 ≤ x.n ∧ x.n ≤ 31) ∧ (x.o = 12 → 0 ≤ x.n ∧ x.n ≤ n - i - 1) ∧ x.o ≤ 14 := by
  have h := of_decide_eq_true h
  obtain ⟨hu, h0, h1, hd, ha, hb, hl, hh⟩ := h
  have ho := hx.o
  generalize x.o = o at *
  rcases ops ho.1 with rfl | rfl | rfl | rfl | rfl | rfl | rfl | rfl | rfl | rfl | rfl | rfl | rfl | rfl | rfl | e
  case inr.inr.inr.inr.inr.inr.inr.inr.inr.inr.inr.inr.inr.inr.inr =>
    exfalso; apply hu; unfold us; rw [if_neg (by omega), if_neg (by omega), if_neg (by omega), if_neg (by omega), if_neg (by omega)]
  all_goals
    simp [us, ms, lo, hi] at hd ha hb hl hh
    omega
theorem chk_ok {l : List In} (h : chk l = 0) : 1 ≤ l.length ∧ l.length ≤ 32 ∧ ∀ (i : Nat) x, l[i]? = some x → oneB x i l.length = true := by
  unfold chk at h
  split at h
  · omega
  · rename_i h1
    split at h
    · rename_i h2
      exact ⟨by omega, by omega, fine_iff.1 h2⟩
    · omega
theorem chk_ways (l : List In) : chk l = 0 ∨ chk l = 23 := by
  unfold chk
  split
  · exact .inr rfl
  · split
    · exact .inl rfl
    · exact .inr rfl
end Go.Proofs.Ytehkcnmjkgelkaa
