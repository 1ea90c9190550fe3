/-
  The walk of glazierlaw03.WireJoins, at this seat's translation.
-/
import Derived.Test.YtopncdeafbpenaaHeld
namespace Go.Proofs.Ytopncdeafbpenaa
open Go.RowKit

/-- append onto a row of the call's own, whatever the source: nil, empty or not. -/
theorem wpList_append_sl {P : Program} (w : World) {ops : Array Oper} {rest : List Oper} {o : Oper} {a : Act} {Q : Exit → Act → World → Prop} (hgd : o.guard = none) (s x : Operand) (t : TypeId)
    (ho : o.op = .call { callee := .builtin .append, args := #[s, x], argTypes := #[t, t] })
    (base : Nat) (e : TypeId) (i : TypeInfo) (z : Value) (bytes : Nat) (ht : P.underlying t = some (.slice e)) (hi : P.info? e = some i) (hz : i.zero = some z) (hsize : i.size = 1) (hby : i.bytes = bytes) (hzs : z.cells.size = 1)
    (k : IntKind) (v : Value) (xs : List Int) (hs : a.eval s = v) (hown : OwnS e k w base v xs)
    (A : Option Addr) (c B : Nat) (ys : List Int) (hx : a.eval x = .slice A ys.length c) (hsl : Sl k w B A ys) (hnil : A = none → c = 0)
    (h63 : xs.length + ys.length ≤ 1000000) (hbytes : bytes ≤ 8) (hbase : base ≤ w.heap.size)
    (h : ∀ v' w', OwnS e k w' base v' (xs ++ ys) → Below base w w' → wpList P ops Q rest (a.put o.dst v') w') : wpList P ops Q (o :: rest) a w := by
  have hb2 : (xs.length + ys.length) * bytes ≤ 140737488355328 := Nat.le_trans (Nat.mul_le_mul h63 hbytes) (by decide)
  cases A with
  | some ad =>
    refine wpList_append_own w hgd s x t ho base e i z 1 bytes ht hi hz hsize hby hzs (by decide) v _ _ hs hown.row ad ys.length c (ys.map (Value.int k)) hx (by simp) ?_ (ints_oneCell _ _) (by unfold maxLen; omega) hb2 hbase ?_
    · intro j u hu
      by_cases hne : ys = []
      · subst hne; simp at hu
      · obtain ⟨b, off, hA, _, hc⟩ := hsl hne
        cases hA
        exact news_of hc j u hu
    · intro v' w' h2 h3 _
      exact h v' w' (by unfold OwnS; simpa using h2) ((Below.refl base w).grown h3 hbase fun j ej => own_ge hown.row j ej)
  | none =>
    have hy : ys = [] := by
      by_cases hne : ys = []
      · exact hne
      · obtain ⟨b, off, hA, _⟩ := hsl hne
        cases hA
    subst hy
    obtain rfl := hnil rfl
    refine wpList_plain hgd fun K hK' => ?_
    have hrun := run_append_owned_none (P := P) w base t o.type e i 1 ht hi v xs.length _ hown.row
    unfold Oper.wp
    simp [execOp, ho, resolve, invoke, builtin, hs, hx, hrun, Result.andThen]
    exact hK' _ _ (h v w (by simpa using hown) (Below.refl _ _))

theorem OwnS.sl2 {t : TypeId} {k : IntKind} {w : World} {base : Nat} {v : Value} {xs : List Int} (h : OwnS t k w base v xs) :
    ∃ A c, v = .slice A xs.length c ∧ xs.length ≤ c ∧ c ≤ 9223372036854775807 ∧ Sl k w w.heap.size A xs ∧ (A = none → c = 0) := by
  obtain ⟨A, c, hv, h1, h2, h3⟩ := h.sl
  refine ⟨A, c, hv, h1, h2, h3, fun hA => ?_⟩
  subst hA
  rcases h.2 with ⟨rfl, _⟩ | ⟨g, cap, cur, rfl, _⟩
  · injection hv with _ _ e; exact e.symm
  · injection hv with e; cases e

set_option maxRecDepth 100000 in
set_option maxHeartbeats 4000000 in
theorem joins_walk (A A' : Option Addr) (c c' : Nat) (l l' : List Int) (w : World) (hs : Sl .i64 w w.heap.size A l) (hs' : Sl .i64 w w.heap.size A' l') (hi : Ins l) (hi' : Ins l') (hc : l.length ≤ c) (hm : c ≤ 9223372036854775807) (hc' : l'.length ≤ c') (hm' : c' ≤ 9223372036854775807)
    (hnil : A = none → c = 0) (hnil' : A' = none → c' = 0) :
    Calls Try.prog 7 #[.slice A l.length c, .slice A' l'.length c'] w (Yes w) := by
  obtain ⟨i0, hi0, hz0, hz1, hz2⟩ := info_parts Try.info3
  obtain ⟨i1, hi1, hy0, hy1, hy2⟩ := info_parts Try.info5
  have HZ := Lib.hid (And.intro hi0 (And.intro hz0 (And.intro hz1 hz2)))
  have HY := Lib.hid (And.intro hi1 (And.intro hy0 (And.intro hy1 hy2)))
  clear hi0 hz0 hz1 hz2 hi1 hy0 hy1 hy2
  have HS := Lib.hid (hs.take 40)
  have HS' := Lib.hid (hs'.take 40)
  have HI := Lib.hid (hi.take 40)
  have HI' := Lib.hid (hi'.take 40)
  have hl : (l.take 40).length ≤ 40 := List.length_take_le _ _
  have hl' : (l'.take 40).length ≤ 40 := List.length_take_le _ _
  have HF := Lib.hid (fun W => few_any A c l W hc hm)
  have HF' := Lib.hid (fun W => few_any A' c' l' W hc' hm')
  have HN := Lib.hid (And.intro hnil hnil')
  clear hs hs' hi hi' hnil hnil'
  generalize l.take 40 = L at *
  generalize l'.take 40 = L' at *
  go_enter Try.func7, Try.ntmps7
  go_wp2_with fail
  refine (shown_any _).mono ?_
  rintro e w1 ⟨rfl, hb1⟩
  have HB1 := Lib.hid hb1
  clear hb1
  go_wp2_with fail
  refine (HF.out _).mono ?_
  rintro e w2 ⟨rfl, rfl⟩
  go_wp2_with fail
  refine (HF'.out _).mono ?_
  rintro e w2 ⟨rfl, rfl⟩
  have hBe : Below w1.heap.size w1 (w1.alloc (.cells #[] 3)) := (Below.refl _ _).alloc (Nat.le_refl _) _
  have HE := Lib.hid (show OwnS 3 .i64 (w1.alloc (.cells #[] 3)) w1.heap.size (.slice (some ⟨w1.heap.size, 0, none⟩) 0 0) [] from own_empty 3 w1)
  have HBE := Lib.hid hBe
  clear hBe
  go_wp2_with (first
    | (at_builtin; refine wpList_append_sl _ rfl _ _ 22 rfl w1.heap.size 3 i0 (.int .i64 0) 8 Try.underlying22 HZ.out.1 HZ.out.2.1 HZ.out.2.2.1 HZ.out.2.2.2 rfl .i64 _ [] rfl HE.out A c w.heap.size L rfl ((HS.out.below HB1.out).below (HBE.out.mono HB1.out.size)) HN.out.1 (by simp; omega) (by decide) (by simp) ?_; clear HE; intro v3 w3 ho3 hb3; have HB3 := Lib.hid (HBE.out.trans hb3); clear hb3)
    | (at_builtin; refine wpList_append_sl _ rfl _ _ 22 rfl w1.heap.size 3 i0 (.int .i64 0) 8 Try.underlying22 HZ.out.1 HZ.out.2.1 HZ.out.2.2.1 HZ.out.2.2.2 rfl .i64 _ ([] ++ L) rfl ho3 A' c' w.heap.size L' rfl ((HS'.out.below HB1.out).below (HB3.out.mono HB1.out.size)) HN.out.2 (by simp; omega) (by decide) HB3.out.size ?_; clear ho3; intro v4 w4 ho4 hb4))
  have HB4 := Lib.hid (HB1.out.trans ((HB3.out.trans hb4).mono HB1.out.size))
  rw [List.nil_append] at ho4
  obtain ⟨A4, c4, rfl, hc41, -, hs4⟩ := ho4.sl
  have HS4 := Lib.hid hs4
  have HB4z := Lib.hid HB4.out.size
  clear hb4 HB3 ho4 hs4 HBE HB1
  refine (put_any A c L w.heap.size w4 (HS.out.below HB4.out) HB4.out.size HI.out (by omega)).mono ?_
  rintro e w5 ⟨v5, rfl, ho5, hb5⟩
  have HB5 := Lib.hid (HB4.out.trans (hb5.mono HB4.out.size))
  have HB45 := Lib.hid hb5
  have HO5 := Lib.hid ho5
  have hz45 := hb5.size
  clear hb5 HB4 ho5
  go_wp2_with fail
  refine (put_any A' c' L' w.heap.size w5 (HS'.out.below HB5.out) HB5.out.size HI'.out (by omega)).mono ?_
  rintro e w6 ⟨v6, rfl, ho6, hb6⟩
  have HB6 := Lib.hid (HB5.out.trans (hb6.mono HB5.out.size))
  have HB46 := Lib.hid (HB45.out.trans (hb6.mono hz45))
  have HO6 := Lib.hid (HO5.out.keep hb6)
  obtain ⟨A6, c6, rfl, -, -, hsl6, hnl6⟩ := ho6.sl2
  have HQ6 := Lib.hid (And.intro hsl6 hnl6)
  have hz56 := hb6.size
  have hp1 := put_len HI.out
  have hp2 := put_len HI'.out
  clear hb6 HB45 HB5 ho6 HO5 hsl6 hnl6
  go_wp2_with (at_builtin; refine wpList_append_sl _ rfl _ _ 23 rfl w4.heap.size 5 i1 (.int .u8 0) 1 Try.underlying23 HY.out.1 HY.out.2.1 HY.out.2.2.1 HY.out.2.2.2 rfl .u8 _ (put L) rfl HO6.out A6 c6 w6.heap.size (put L') rfl HQ6.out.1 HQ6.out.2 (by omega) (by decide) (by omega) ?_; clear HO6; intro v7 w7 ho7 hb7)
  have HB47 := Lib.hid (HB46.out.trans hb7)
  have HB7 := Lib.hid (HB6.out.trans (hb7.mono (by have := HB4z.out; omega)))
  have HS7 := Lib.hid (HS4.out.below HB47.out)
  have hz47 := HB47.out.size
  obtain ⟨A7, c7, rfl, hc71, -, hs7⟩ := ho7.sl
  have HX7 := Lib.hid hs7
  clear hb7 ho7 hs7 HB46 HB47 HS4 HB6
  have HIA := Lib.hid (HI.out.app HI'.out)
  have HSQ := Lib.hid (seq_all HIA.out)
  have HPL := Lib.hid (show (L ++ L').length = L.length + L'.length from List.length_append)
  have HPP := Lib.hid (put_app L L')
  rw [put_app] at HSQ
  have hpp : (put L ++ put L').length ≤ 800 := by rw [List.length_append]; omega
  have hal : (L ++ L').length ≤ 80 := by rw [List.length_append]; omega
  have HPB := Lib.hid ((put_byt L).app (put_byt L'))
  clear hp1 hp2
  generalize put L ++ put L' = PP at *
  refine (gone_1000 A7 c7 _ PP rfl hc71 (by omega) HPB.out w7 HX7.out).mono ?_
  rintro e w8 ⟨v8, rfl, ho8, hb8⟩
  rw [HSQ.out, nums_trues] at ho8
  rw [HSQ.out, flag_trues]
  obtain ⟨A8, c8, rfl, hc81, -, hs8⟩ := ho8.sl
  have HB8 := Lib.hid (HB7.out.trans (hb8.mono HB7.out.size))
  have HX8 := Lib.hid (sl_keep HX7.out hb8)
  have HS8 := Lib.hid ((HS7.out.more hz47).below hb8)
  have hz78 := hb8.size
  have HQ8 := Lib.hid hs8
  clear hb8 ho8 hs8 HB7 HX7 HS7
  go_wp2_with fail
  have hsm := same_any A8 A4 c8 c4 (L ++ L') w8 HQ8.out (HS8.out.more hz78) (by omega)
  rw [HPL.out] at hsm
  refine hsm.mono ?_
  clear hsm
  rintro e w9 ⟨rfl, hb9⟩
  have HB9 := Lib.hid (HB8.out.trans (hb9.mono HB8.out.size))
  have HX9 := Lib.hid (sl_keep HX8.out hb9)
  have HS9 := Lib.hid (sl_keep (HS8.out.more hz78) hb9)
  clear hb9 HB8 HX8 HS8 HQ8
  have hcv : (convert 23 9 (.slice A7 PP.length c7)).run Try.prog w9.drew = .ok (.string (strOfNums PP)) w9.drew := Sl.conv (w := w9.drew) HX9.out c7
  have HPut := Lib.hid (put_any A4 c4 (L ++ L') w9.heap.size w9.drew HS9.out (Nat.le_refl _) HIA.out (by omega))
  rw [HPP.out, HPL.out] at HPut
  go_wp2_with fail
  refine wp_region_held_drew (S := fun w' => (convert 23 9 (.slice A7 PP.length c7)).run Try.prog w' = .ok (.string (strOfNums PP)) w') (by kernel_rfl) hcv (fun hS => ?_)
  change wpAnyH _ _ _ _ _ 20 #[false, false, false, false, false, false, false, false, false, false, false, false, false, false, false, false, false, false, false, false] _ _
  refine wpAnyH_take (i := 0) (v := (.bool true)) rfl (by kernel_rfl) (by kernel_rfl) (by kernel_rfl) (fun _ _ _ h => h) (Or.inl ⟨by rfl, fun w hw => by dsimp only at hw; go_simp⟩) hS ?_
  simp only [Act.put, List.setIfInBounds_toArray, List.set_cons_zero, List.set_cons_succ, List.getElem_toArray, List.getElem_cons_zero]
  refine wpAnyH_take (i := 1) (v := (.bool true)) rfl (by kernel_rfl) (by kernel_rfl) (by kernel_rfl) (fun _ _ _ h => h) (Or.inl ⟨by rfl, fun w hw => by dsimp only at hw; go_simp⟩) hS ?_
  simp only [Act.put, List.setIfInBounds_toArray, List.set_cons_zero, List.set_cons_succ, List.getElem_toArray, List.getElem_cons_zero, List.getElem_cons_succ]
  refine wpAnyH_take (i := 2) (v := (.slice A7 PP.length c7)) rfl (by kernel_rfl) (by kernel_rfl) (by kernel_rfl) (fun _ _ _ h => h) (Or.inl ⟨by rfl, fun w hw => by dsimp only at hw; go_simp⟩) hS ?_
  simp only [Act.put, List.setIfInBounds_toArray, List.set_cons_zero, List.set_cons_succ, List.getElem_toArray, List.getElem_cons_zero, List.getElem_cons_succ]
  refine wpAnyH_take (i := 3) (v := (.string (strOfNums PP))) rfl (by kernel_rfl) (by kernel_rfl) (by kernel_rfl) (fun _ _ _ h => h) (Or.inl ⟨by rfl, fun w hw => by dsimp only at hw; go_simp⟩) hS ?_
  simp only [Act.put, List.setIfInBounds_toArray, List.set_cons_zero, List.set_cons_succ, List.getElem_toArray, List.getElem_cons_zero, List.getElem_cons_succ]
  refine wpAnyH_take (i := 4) (v := (.slice A4 (L.length + L'.length) c4)) rfl (by kernel_rfl) (by kernel_rfl) (by kernel_rfl) (fun _ _ _ h => h) (Or.inl ⟨by rfl, fun w hw => by dsimp only at hw; go_simp⟩) hS ?_
  simp only [Act.put, List.setIfInBounds_toArray, List.set_cons_zero, List.set_cons_succ, List.getElem_toArray, List.getElem_cons_zero, List.getElem_cons_succ]
  refine wpAnyH_ready (rs := [5]) (by kernel_rfl) (by simp) ?_
  refine AllReadyH.cons rfl (fun K hK => ?_) AllReadyH.nil
  go_simp
  refine HPut.out.mono ?_
  rintro e w10 ⟨v10, rfl, ho10, hb10⟩
  obtain ⟨A10, c10, rfl, hc101, -, hs10⟩ := ho10.sl
  have hX10 := sl_keep (w := w9.drew) HX9.out hb10
  have hcv3 : ∀ j, (convert 23 9 (.slice A10 PP.length c10)).run Try.prog (w10.drewN j) = .ok (.string (strOfNums PP)) (w10.drewN j) := fun j => Sl.conv (hs10.drewN j) c10
  refine hK.out _ _ (hX10.conv c7) (fun hS => ?_)
  clear hK K hS hcv
  refine held_from 6 (by kernel_rfl) (by kernel_rfl) rfl (by rintro _ ⟨j, rfl⟩; exact (hX10.drewN j).conv c7) ?_
  have HB10 := Lib.hid (HB9.out.drew.trans (hb10.mono HB9.out.size))
  clear hX10 hs10 ho10 hb10
  simp only [List.drop_succ_cons, List.drop_zero]
  repeat (go_big_quiet_step (fail))
  refine wpQuiet_nil ?_
  rintro _ ⟨nq, rfl⟩
  go_wp2
  go_ret
  exact ⟨rfl, below_draws HB10.out nq⟩
end Go.Proofs.Ytopncdeafbpenaa
