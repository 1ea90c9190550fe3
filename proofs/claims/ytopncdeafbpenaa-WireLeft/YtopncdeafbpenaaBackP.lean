/-
  Plain mathematics for WireBack and WireLeft: what a part of the bytes says.
-/
import Derived.Test.YtopncdeafbpenaaPure
namespace Go.Proofs.Ytopncdeafbpenaa

theorem nums_trues (q : List Int) : nums (q.map fun n => (n, true)) = q := by simp [nums, List.filter_map, Function.comp_def]
theorem flag_trues (q : List Int) : flag (q.map fun n => (n, true)) = false := by simp [flag]

theorem seq_all {l : List Int} (h : Ins l) : seq (put l) = l.map fun n => (n, true) := by
  have := seq_put h []
  rw [List.append_nil, seq_nil, List.append_nil] at this
  exact this

theorem seq_part {n : Int} (hn : In64 n) {k : Nat} (hk : k < (enc (fold n)).length) : nums (seq ((enc (fold n)).take k)) = [] := by
  by_cases he : (enc (fold n)).take k = []
  · rw [he, seq_nil]; rfl
  obtain ⟨x, s, hf⟩ : ∃ x s, first ((enc (fold n)).take k) = (x, s) := ⟨_, _, rfl⟩
  by_cases hs : s = 0
  · subst hs; rw [seq_bad he hf]; rfl
  exfalso
  obtain ⟨hx, hsl, happ, hle, _, _⟩ := first_inv ((enc_byt _).take k) hf hs
  have h1 := first_put hn []
  rw [List.append_nil] at h1
  have h2 : enc (fold n) = enc (fold x) ++ (((enc (fold n)).take k).drop s ++ (enc (fold n)).drop k) := by
    rw [← List.append_assoc, ← happ, List.take_append_drop]
  have h3 := first_put hx (((enc (fold n)).take k).drop s ++ (enc (fold n)).drop k)
  rw [← h2, h1] at h3
  have h4 := congrArg Prod.snd h3
  simp only at h4
  rw [List.length_take] at hle
  omega

theorem seq_cut : ∀ {l : List Int} (_ : Ins l) (k : Nat), k ≤ (put l).length → ∃ j, j ≤ l.length ∧ nums (seq ((put l).take k)) = l.take j ∧ (k < (put l).length → j < l.length) := by
  intro l
  induction l with
  | nil => intro _ k hk; exact ⟨0, by simp, by simp [put, seq_nil, nums], fun h => by simp [put] at h⟩
  | cons n l ih =>
    intro h k hk
    have hn := h n (by simp)
    have hl : Ins l := fun x hx => h x (List.mem_cons_of_mem _ hx)
    by_cases hkn : k < (enc (fold n)).length
    · refine ⟨0, by simp, ?_, fun _ => by simp⟩
      rw [put_cons, List.take_append_of_le_length (by omega), seq_part hn hkn]; rfl
    · rw [put_cons, List.length_append] at hk
      obtain ⟨j, hj, hjn, hjk⟩ := ih hl (k - (enc (fold n)).length) (by omega)
      refine ⟨j + 1, by simp; omega, ?_, fun hlt => ?_⟩
      · have e : (put (n :: l)).take k = put [n] ++ (put l).take (k - (enc (fold n)).length) := by
          rw [put_cons, put_cons, put_nil, List.append_nil, List.take_append, List.take_of_length_le (by omega)]
        rw [e, seq_put (fun x hx => by simp at hx; subst hx; exact hn)]
        show nums ((n, true) :: seq _) = _
        rw [show nums ((n, true) :: seq ((put l).take (k - (enc (fold n)).length))) = n :: nums (seq ((put l).take (k - (enc (fold n)).length))) by simp [nums], hjn]; rfl
      · rw [put_cons, List.length_append] at hlt
        have := hjk (by omega)
        simp; omega

theorem first_here {l : List Int} (h : Ins l) {i : Nat} (hi : i < l.length) {n : Int} (hn : l.getD i 0 = n) : first (put (l.drop i)) = (n, (enc (fold n)).length) ∧ (put (l.drop i)).drop (enc (fold n)).length = put (l.drop (i + 1)) := by
  have e : l.drop i = n :: l.drop (i + 1) := by
    rw [List.drop_eq_getElem_cons hi, ← hn, List.getD_eq_getElem?_getD, List.getElem?_eq_getElem hi]; rfl
  have hin : In64 n := by rw [← hn]; exact h.get i
  rw [e, put_cons]
  exact ⟨first_put hin _, by simp⟩
theorem Ins.drop {l : List Int} (h : Ins l) (k : Nat) : Ins (l.drop k) := fun n hn => h n (List.mem_of_mem_drop hn)
end Go.Proofs.Ytopncdeafbpenaa
