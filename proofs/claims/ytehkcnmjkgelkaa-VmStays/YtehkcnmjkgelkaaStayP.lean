/-
  Programs without jumps and pictures, in plain numbers: what they make, one behind another one too, what stays, what goes round.
-/
import Derived.Test.YtehkcnmjkgelkaaShown
import Derived.Test.YtehkcnmjkgelkaaCFit3
namespace Go.Proofs.Ytehkcnmjkgelkaa
open Go.RowKit C

/-- A jump is told as a move. -/
def noJ (x : In) : In := if x.o = 12 then ⟨1, x.a, x.a, 0, 0⟩ else x
/-- A program without jumps and pictures. -/
def strP (l : List In) : List In := (fitP (l.map bareI)).map noJ
/-- An instruction that tells one register and goes on. -/
def plain (x : In) : Prop := x.o ≠ 12 ∧ x.o ≠ 13 ∧ x.o ≠ 14
theorem strP_len (l : List In) : (strP l).length = (fitP (l.map bareI)).length := by simp [strP]
theorem bare_lt (x : In) (i n : Int) : (fitI (bareI x) i n).o < 13 := by
  by_cases hb : 13 ≤ x.o % 15
  · have e : bareI x = ⟨2, x.d, x.a, x.b, x.n⟩ := if_pos hb
    rw [e]
    simp [fitI]
  · have e : bareI x = x := if_neg hb
    rw [e]
    unfold fitI
    split
    · show (0 : Int) < 13; decide
    · split
      · show x.o % 15 < 13; omega
      · split
        · show (12 : Int) < 13; decide
        · split
          · omega
          · show x.o % 15 < 13; omega
theorem mov_plain : plain mov := by unfold plain mov; decide
theorem str_one (l : List In) (hok : ∀ y ∈ l, y.ok) (i : Nat) (x : In) (h : (strP l)[i]? = some x) : x.ok ∧ plain x ∧ ∀ k n : Int, 0 ≤ k → k < n → oneB x k n = true := by
  unfold strP at h
  rw [List.getElem?_map] at h
  cases e : (fitP (l.map bareI))[i]? with
  | none => rw [e] at h; cases h
  | some y =>
    rw [e] at h
    obtain rfl : noJ y = x := by simpa using h
    have hb : ∀ y ∈ l.map bareI, y.ok := by
      intro y hy
      obtain ⟨z, hz, rfl⟩ := List.mem_map.1 hy
      exact bareI_ok (hok z hz)
    obtain ⟨y1, y2⟩ := C.fitP_one (l.map bareI) i y e
    have yok := y2 hb
    have hy13 : y.o < 13 := by
      unfold fitP at e
      split at e
      · match i, e with
        | 0, e =>
          obtain rfl : mov = y := by simpa using e
          decide
        | i + 1, e => simp at e
      · rw [List.getElem?_map] at e
        cases f : (List.range (fitN (l.map bareI).length))[i]? with
        | none => rw [f] at e; cases e
        | some j =>
          rw [f] at e
          obtain rfl : fitAt (l.map bareI) j = y := by simpa using e
          unfold fitAt
          rw [List.getD_eq_getElem?_getD, List.getElem?_map]
          cases g : l[j]? with
          | none => exact (by
              show (fitI mov j _).o < 13
              have : (fitI mov (j : Int) ((fitN (l.map bareI).length : Nat) : Int)).o = 1 := by simp [fitI, mov]
              omega)
          | some z => exact bare_lt z _ _
    obtain ⟨hd, ha, hb', h4, h0, h9, h12, h14⟩ := one_in yok y1
    unfold noJ
    by_cases hj : y.o = 12
    · rw [if_pos hj]
      refine ⟨⟨⟨(by decide : (0 : Int) ≤ 1), (by decide : (1 : Int) ≤ 255)⟩, yok.a, yok.a, ⟨Int.le_refl 0, (by decide : (0 : Int) ≤ 255)⟩, (by show C.I64 0; decide)⟩, ⟨(by decide : (1 : Int) ≠ 12), (by decide : (1 : Int) ≠ 13), (by decide : (1 : Int) ≠ 14)⟩, fun k n hk hn => ?_⟩
      refine decide_eq_true ?_
      simp [us, ms, lo, C.hi]
      omega
    · rw [if_neg hj]
      refine ⟨yok, ⟨hj, by omega, by omega⟩, fun k n hk hn => ?_⟩
      obtain ⟨w1, w2, w3, w4, w5, w6, w7, w8⟩ := of_decide_eq_true y1
      refine decide_eq_true ⟨w1, hk, hn, w4, w5, w6, w7, ?_⟩
      have ehi : ∀ a b : Int, C.hi y.o a = C.hi y.o b := fun a b => by unfold C.hi; rw [if_neg hj, if_neg hj]
      rw [ehi _ (((fitP (l.map bareI)).length : Nat) - (i : Int) - 1)]
      exact w8
theorem str_len (l : List In) : 1 ≤ (strP l).length ∧ (strP l).length ≤ 32 := by rw [strP_len]; exact C.fitP_len _
theorem str16 (l : List In) : 1 ≤ (strP (l.take 16)).length ∧ (strP (l.take 16)).length ≤ 16 := by
  rw [strP_len]
  unfold fitP fitN
  split
  · exact ⟨Nat.le_refl _, by simp⟩
  · rename_i h
    have hl : ((l.take 16).map bareI).length ≤ 16 := by simp; omega
    rw [List.length_map, List.length_range]
    generalize ((l.take 16).map bareI).length = n at *
    omega
theorem plain_chk {p : List In} (h1 : 1 ≤ p.length) (h2 : p.length ≤ 32) (h : ∀ (i : Nat) x, p[i]? = some x → ∀ k n : Int, 0 ≤ k → k < n → oneB x k n = true) : chk p = 0 :=
  chk_good (by omega) (by omega) fun i x hi => h i x hi i p.length (by omega) (by have := (List.getElem?_eq_some_iff.1 hi).1; omega)
theorem plain_tex {p : List In} (h : ∀ (i : Nat) x, p[i]? = some x → plain x) : p.any tex = false := any_none fun i x hi => by
  have := h i x hi
  unfold plain at this
  simp [tex]
  omega
/-- The registers behind a program of such instructions. -/
def runs (t : Tx) (p : List In) (L : List Int) : List Int := p.foldl (fun L x => stepR t x L) L
theorem runs_append (t : Tx) (p q : List In) (L : List Int) : runs t (p ++ q) L = runs t q (runs t p L) := List.foldl_append ..
theorem fin_runs {p : List In} {t : Tx} (h : ∀ (i : Nat) x, p[i]? = some x → plain x) : ∀ (f k : Nat) (L : List Int) (s : Nat), p.length - k ≤ f → fin p t f k L s = (runs t (p.drop k) L, s + (p.length - k))
  | 0, k, L, s, hf => by
    rw [List.drop_eq_nil_of_le (by omega)]
    show (L, s) = (L, s + (p.length - k))
    rw [show p.length - k = 0 by omega]
    rfl
  | f + 1, k, L, s, hf => by
    cases e : p[k]? with
    | none =>
      have hk : p.length ≤ k := List.getElem?_eq_none_iff.1 e
      rw [fin_end hk, List.drop_eq_nil_of_le hk, show p.length - k = 0 by omega]
      rfl
    | some x =>
      have hk : k < p.length := (List.getElem?_eq_some_iff.1 e).1
      have hx : p[k] = x := (List.getElem?_eq_some_iff.1 e).2
      have hn : nxt x k (ra x L) = k + 1 := if_neg (by intro hh; exact (h k x e).1 hh.1)
      rw [fin_step e, hn, fin_runs h f (k + 1) _ _ (by omega), List.drop_eq_getElem_cons hk, hx]
      refine Prod.ext rfl ?_
      show s + 1 + (p.length - (k + 1)) = s + (p.length - k)
      omega
theorem plain_runs {p : List In} (h1 : 1 ≤ p.length) (h2 : p.length ≤ 32) (hp : ∀ (i : Nat) x, p[i]? = some x → plain x) (ho : ∀ (i : Nat) x, p[i]? = some x → ∀ k n : Int, 0 ≤ k → k < n → oneB x k n = true) (t : Tx) (R : List Int) :
    runQ p t R = (runs t p (R.map w32), p.length, 0) := by
  rw [runQ_ok (chkT_of (plain_chk h1 h2 ho) (.inl (plain_tex hp))), fin_runs hp _ _ _ _ (by omega)]
  simp
theorem runs_reg (t : Tx) : ∀ (p : List In) {L : List Int}, Reg L → Reg (runs t p L)
  | [], _, h => h
  | x :: p, _, h => runs_reg t p (stepR_reg t x h)
/-- A register that no instruction tells stays. -/
theorem runs_keep (t : Tx) : ∀ (p : List In) (L : List Int) (j : Nat), (∀ x ∈ p, plain x ∧ x.d.toNat ≠ j) → (runs t p L).getD j 0 = L.getD j 0
  | [], _, _, _ => rfl
  | x :: p, L, j, h => by
    have hx := h x (by simp)
    show (runs t p (stepR t x L)).getD j 0 = _
    rw [runs_keep t p (stepR t x L) j (fun y hy => h y (by simp [hy])), stepR_eq, if_neg hx.1.1, if_neg hx.1.2.1, if_neg hx.1.2.2]
    simp only [putL, List.getD_eq_getElem?_getD]
    rw [List.getElem?_set_ne hx.2]
theorem map_w32 {L : List Int} (h : Reg L) : L.map w32 = L := (List.map_congr_left fun v hv => w32_id (h.2 v hv)).trans (List.map_id' L)
theorem w32_more (n : Int) : w32 (IntKind.i64.wrap (n + 4294967296)) = w32 n := by
  rw [w32_i64]
  unfold w32
  omega
end Go.Proofs.Ytehkcnmjkgelkaa
