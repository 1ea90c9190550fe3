/-
  glazierlaw02.ColourHides: for every two colours and every slice of colours the call returns true, and the arguments read afterwards as before; no condition.
-/
import Derived.Test.YtpnjhmmodkhmfaaOpen
import Derived.Test.YtpnjhmmodkhmfaaHidW
import Derived.Test.YtpnjhmmodkhmfaaFew
namespace Go.Proofs.Ytpnjhmmodkhmfaa
open Go.ChangeShapes Go.WideShapes Go.ChangeAt Go.RowKit Go.Joins

set_option maxRecDepth 100000 in
theorem colourHides_lifted (os : Os) (started : os.Started) (H : Type) (enc : TypeId × Value → H) :
    ReturnsInHanded {} Try.checked os 5 .any (Rows.colourHidesSpec.pre6 enc Try.prog Try.f5 Rows.colourHidesRow.domain false) (Rows.colourHidesSpec.post enc Try.prog Try.f5 false true false false) := by
  refine returnsInHanded_of_change (C := Try.checked) own started (by kernel_rfl) Try.func5
    (ChangeSpec.witness6 (enc := enc) (C := Try.checked) false ⟨#[], #[.agg #[.int .u8 0, .int .u8 0, .int .u8 0, .int .u8 0], .agg #[.int .u8 0, .int .u8 0, .int .u8 0, .int .u8 0], .slice none 0 0], []⟩ 8 (by kernel_rfl) (by kernel_rfl) (by kernel_rfl) (by kernel_rfl)) ?_
  intro W base args ds gs before hval0 hW hcnd _
  have hval : ∀ (j : Nat) t v, Try.f5.params[j]? = some t → args[j]? = some v → Value.okWide Try.prog W .any base t v := hval0
  have hW' := hW
  obtain ⟨p, q, hA0, hV, rfl, hfz, hnd⟩ := hW
  have hA : DataW.TrodAll enc Try.prog W 0 (fun _ => true) true Try.f5.params.toList args.toList ds p := hA0
  rw [Try.params5] at hA hval
  obtain ⟨v0, vs0, d0, ds0, p0, q0, hargs, rfl, rfl, h0, r0⟩ := trodAll_cons hA
  obtain ⟨v1, vs1, d1, ds1, p1, q1, rfl, rfl, rfl, h1, r1⟩ := trodAll_cons r0
  obtain ⟨v2, vs2, d2, ds2, p2, q2, rfl, rfl, rfl, h2, r2⟩ := trodAll_cons r1
  obtain ⟨rfl, rfl, rfl⟩ := trodAll_nil r2
  obtain rfl : args = #[v0, v1, v2] := by cases args; simp_all
  obtain ⟨rfl, rfl⟩ := trodVars_none hV
  have lt0 : ∀ x ∈ p0, x.block < W.heap.size := by obtain ⟨m, hm⟩ := h0; exact DataW.trod_lt m _ _ _ hm
  have lt1 : ∀ x ∈ p1, x.block < W.heap.size := by obtain ⟨m, hm⟩ := h1; exact DataW.trod_lt m _ _ _ hm
  have lt2 : ∀ x ∈ p2, x.block < W.heap.size := by obtain ⟨m, hm⟩ := h2; exact DataW.trod_lt m _ _ _ hm
  have ok0 := hval 0 23 v0 rfl rfl
  have ok1 := hval 1 23 v1 rfl rfl
  have ok2 := hval 2 25 v2 rfl rfl
  clear hA0 hval0 hval
  have hwalk : Calls Try.prog 5 #[v0, v1, v2] W fun e W' => e = .returned (.bool true) ∧ Below W.heap.size W W' := by
    obtain ⟨a, ha, rfl⟩ := open_colour ok0 h0
    obtain ⟨b, hb, rfl⟩ := open_colour ok1 h1
    have key : ∀ (ad : Option Addr) (l : List Col) (cap : Nat), l.length ≤ cap → (ad = none → l.length = 0) → (∀ x ∈ l, x.ok) → Row W ad l → (∀ k, Src W ad (l.take k)) →
        Calls Try.prog 5 #[.agg #[.int .u8 a.r, .int .u8 a.g, .int .u8 a.b, .int .u8 a.a], .agg #[.int .u8 b.r, .int .u8 b.g, .int .u8 b.b, .int .u8 b.a], .slice ad l.length cap] W fun e W' => e = .returned (.bool true) ∧ Below W.heap.size W W' := by
      intro ad l cap hlc hnil hl hr hsrc
      have hF : ∀ W, Calls Try.prog 10 #[.slice ad l.length cap] W fun e w' => e = .returned (.slice ad (l.take 40).length cap) ∧ W = w' := fun W => by
        have h := few_any ad l.length cap W hlc hnil
        rwa [Nat.min_comm, ← List.length_take] at h
      have hL := List.length_take_le 40 l
      have hl' : ∀ x ∈ l.take 40, x.ok := fun x hx => hl x (List.mem_of_mem_take hx)
      have hr' : Row W ad (l.take 40) := by
        rcases hr with h | ⟨b, off, e, h⟩
        · exact .inl (by rw [h]; rfl)
        · exact .inr ⟨b, off, e, h.take 40⟩
      exact colourHides_walk a b (l.take 40) ad l.length cap W ha hb hl' hL hr' (hsrc 40) hF
    rcases open_cols ok2 h2 with rfl | ⟨x, rfl⟩ | ⟨bb, off, cap, l, rfl, hpos, hlc, hl, hcol⟩
    · exact key none [] 0 (Nat.le_refl _) (fun _ => rfl) (fun x hx => by cases hx) (.inl rfl) (fun k => .inl ⟨rfl, by simp⟩)
    · exact key (some x) [] 0 (Nat.le_refl _) (fun h => by cases h) (fun x hx => by cases hx) (.inl rfl) (fun k => .inr ⟨x, rfl, fun j u hj => by simp [flat] at hj⟩)
    · exact key (some ⟨bb, off, none⟩) l cap hlc (fun h => by cases h) hl (.inr ⟨bb, off, rfl, hcol⟩) (fun k => .inr ⟨_, rfl, flat_of_cols (hcol.take k)⟩)
  refine hwalk.mono fun e W' ⟨he, bel⟩ => ?_
  subst he
  exact ⟨_, rfl, _, _, _, [], _, [], hW', trodAll_mk1 (shut_bool Try.underlying4 _), (trodAll_cons_mk (Below.trod laidOut (by kernel_rfl) (of_decide_eq_true (by kernel_rfl)) h0 bel lt0) (trodAll_cons_mk (Below.trod laidOut (by kernel_rfl) (of_decide_eq_true (by kernel_rfl)) h1 bel lt1) (trodAll_cons_mk (Below.trod laidOut (by kernel_rfl) (of_decide_eq_true (by kernel_rfl)) h2 bel lt2) trodAll_mk0))), rfl, bel.frame _, fun h => by cases h⟩

/-- The statement. -/
theorem colourHides_holds : Rows.ColourHidesSaid :=
  OpenClaim.holds_of_wide 5 Try.f5 rfl rfl rfl rfl rfl rfl rfl ⟨rfl, rfl, rfl, rfl, rfl⟩ rfl rfl rfl rfl rfl (by kernel_rfl) Try.func5 (by kernel_rfl)
    (of_decide_eq_true (by kernel_rfl)) (by unfold Func.isWrapper; first | (rw [if_pos (by decide +kernel)]; kernel_rfl) | (rw [if_neg (by decide +kernel)]; exact ⟨rfl, rfl⟩))
    (fun os started H enc _ => colourHides_lifted os started H enc)
#print axioms colourHides_holds
end Go.Proofs.Ytpnjhmmodkhmfaa
