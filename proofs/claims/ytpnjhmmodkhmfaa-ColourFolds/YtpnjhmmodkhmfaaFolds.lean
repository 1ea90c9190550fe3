/-
  glazierlaw02.ColourFolds: for every colour, every slice of colours and every byte the call returns true, and the arguments read afterwards as before; no condition.
-/
import Derived.Test.YtpnjhmmodkhmfaaOpen
import Derived.Test.YtpnjhmmodkhmfaaFoldsN
import Derived.Test.YtpnjhmmodkhmfaaFoldsW
namespace Go.Proofs.Ytpnjhmmodkhmfaa
open Go.ChangeShapes Go.WideShapes Go.ChangeAt Go.RowKit Go.Joins

set_option maxRecDepth 100000 in
theorem colourFolds_lifted (os : Os) (started : os.Started) (H : Type) (enc : TypeId × Value → H) :
    ReturnsInHanded {} Try.checked os 7 .any (Rows.colourFoldsSpec.pre6 enc Try.prog Try.f7 Rows.colourFoldsRow.domain false) (Rows.colourFoldsSpec.post enc Try.prog Try.f7 false true false false) := by
  refine returnsInHanded_of_change (C := Try.checked) own started (by kernel_rfl) Try.func7
    (ChangeSpec.witness6 (enc := enc) (C := Try.checked) false ⟨#[], #[.agg #[.int .u8 0, .int .u8 0, .int .u8 0, .int .u8 0], .slice none 0 0, .int .u8 0], []⟩ 8 (by kernel_rfl) (by kernel_rfl) (by kernel_rfl) (by kernel_rfl)) ?_
  intro W base args ds gs before hval0 hW hcnd _
  have hval : ∀ (j : Nat) t v, Try.f7.params[j]? = some t → args[j]? = some v → Value.okWide Try.prog W .any base t v := hval0
  have hW' := hW
  obtain ⟨p, q, hA0, hV, rfl, hfz, hnd⟩ := hW
  have hA : DataW.TrodAll enc Try.prog W 0 (fun _ => true) true Try.f7.params.toList args.toList ds p := hA0
  rw [Try.params7] at hA hval
  obtain ⟨v0, vs0, d0, ds0, p0, q0, hargs, rfl, rfl, h0, r0⟩ := trodAll_cons hA
  obtain ⟨v1, vs1, d1, ds1, p1, q1, rfl, rfl, rfl, h1, r1⟩ := trodAll_cons r0
  obtain ⟨v2, vs2, d2, ds2, p2, q2, rfl, rfl, rfl, h2, r2⟩ := trodAll_cons r1
  obtain ⟨rfl, rfl, rfl⟩ := trodAll_nil r2
  obtain rfl : args = #[v0, v1, v2] := by cases args; simp_all
  obtain ⟨rfl, rfl⟩ := trodVars_none hV
  have lt0 : ∀ x ∈ p0, x.block < W.heap.size := by obtain ⟨m, hm⟩ := h0; exact DataW.trod_lt m _ _ _ hm
  have lt1 : ∀ x ∈ p1, x.block < W.heap.size := by obtain ⟨m, hm⟩ := h1; exact DataW.trod_lt m _ _ _ hm
  have lt2 : ∀ x ∈ p2, x.block < W.heap.size := by obtain ⟨m, hm⟩ := h2; exact DataW.trod_lt m _ _ _ hm
  have ok0 := hval 0 23 v0 rfl rfl
  have ok1 := hval 1 25 v1 rfl rfl
  have ok2 := hval 2 5 v2 rfl rfl
  clear hA0 hval0 hval
  have hwalk : Calls Try.prog 7 #[v0, v1, v2] W fun e W' => e = .returned (.bool true) ∧ Below W.heap.size W W' := by
    obtain ⟨c, hc, rfl⟩ := open_colour ok0 h0
    obtain ⟨m, rfl, rfl, rfl, wm⟩ := open_int Try.underlying5 ok2 h2
    obtain ⟨m0, m1⟩ := bounds_u8 wm
    rcases open_cols ok1 h1 with rfl | ⟨a, rfl⟩ | ⟨b, off, cap, l, rfl, hpos, hlc, hl, hcol⟩
    · exact colourFolds_nil c none 0 m W m0 m1 (fun W => few_any none 0 0 W (Nat.le_refl _) (fun _ => rfl))
    · exact colourFolds_nil c (some a) 0 m W m0 m1 (fun W => few_any (some a) 0 0 W (Nat.le_refl _) (fun _ => rfl))
    · have hF : ∀ W, Calls Try.prog 10 #[.slice (some ⟨b, off, none⟩) l.length cap] W fun e w' => e = .returned (.slice (some ⟨b, off, none⟩) (l.take 40).length cap) ∧ W = w' := fun W => by
        have h := few_any (some ⟨b, off, none⟩) l.length cap W hlc (fun h => by cases h)
        rwa [Nat.min_comm, ← List.length_take] at h
      have hL := List.length_take_le 40 l
      have hL' := List.length_take_le' 40 l
      have hl' : ∀ x ∈ l.take 40, x.ok := fun x hx => hl x (List.mem_of_mem_take hx)
      have hcol' := hcol.take 40
      generalize l.take 40 = L at *
      obtain ⟨k, hk⟩ : ∃ k : Nat, m % ((L.length : Int) + 1) = (k : Int) := Int.eq_ofNat_of_zero_le (Int.emod_nonneg _ (by omega))
      have hk1 : m % ((L.length : Int) + 1) < (L.length : Int) + 1 := Int.emod_lt_of_pos _ (by omega)
      have hkL : k ≤ L.length := by omega
      by_cases hkc : k = cap
      · obtain rfl : cap = L.length := by omega
        subst hkc
        exact colourFolds_full c L b off l.length m W hc hl' hL m0 m1 hk hcol' hF
      · exact colourFolds_some c L b off l.length cap m k W hc hl' hL (by omega) m0 m1 hk hkL hkc hcol' hF
  refine hwalk.mono fun e W' ⟨he, bel⟩ => ?_
  subst he
  exact ⟨_, rfl, _, _, _, [], _, [], hW', trodAll_mk1 (shut_bool Try.underlying4 _), (trodAll_cons_mk (Below.trod laidOut (by kernel_rfl) (of_decide_eq_true (by kernel_rfl)) h0 bel lt0) (trodAll_cons_mk (Below.trod laidOut (by kernel_rfl) (of_decide_eq_true (by kernel_rfl)) h1 bel lt1) (trodAll_cons_mk (Below.trod laidOut (by kernel_rfl) (of_decide_eq_true (by kernel_rfl)) h2 bel lt2) trodAll_mk0))), rfl, bel.frame _, fun h => by cases h⟩

/-- The statement. -/
theorem colourFolds_holds : Rows.ColourFoldsSaid :=
  OpenClaim.holds_of_wide 7 Try.f7 rfl rfl rfl rfl rfl rfl rfl ⟨rfl, rfl, rfl, rfl, rfl⟩ rfl rfl rfl rfl rfl (by kernel_rfl) Try.func7 (by kernel_rfl)
    (of_decide_eq_true (by kernel_rfl)) (by unfold Func.isWrapper; first | (rw [if_pos (by decide +kernel)]; kernel_rfl) | (rw [if_neg (by decide +kernel)]; exact ⟨rfl, rfl⟩))
    (fun os started H enc _ => colourFolds_lifted os started H enc)
#print axioms colourFolds_holds
end Go.Proofs.Ytpnjhmmodkhmfaa
