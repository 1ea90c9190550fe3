/-
  The walk of glazierlaw03.WireAll, at this seat's translation.
-/
import Derived.Test.YtopncdeafbpenaaRefA
namespace Go.Proofs.Ytopncdeafbpenaa
open Go.RowKit

def TookU (w : World) (n : Int) (ok : Bool) (xs : List Int) (e : Ending) (w' : World) : Prop :=
  ∃ v, e = .returned (.tuple #[.int .i64 n, v, .bool ok]) ∧ OwnS 5 .u8 w' w.heap.size v xs ∧ Below w.heap.size w w'

/-- Both Takes tell the same. -/
theorem takes (A : Option Addr) (c : Nat) (xs : List Int) (hb : Byt xs) (hc : xs.length ≤ c) (hm : xs.length ≤ 100000) :
    ∃ n ok R, (∀ W, Sl .u8 W W.heap.size A xs → Calls Try.prog 12 #[.slice A xs.length c] W (TookU W n ok R)) ∧ (∀ W, Sl .u8 W W.heap.size A xs → Calls Try.prog 13 #[.slice A xs.length c] W (TookU W n ok R)) := by
  obtain ⟨n, s, hf⟩ : ∃ n s, first xs = (n, s) := ⟨_, _, rfl⟩
  by_cases hz : s = 0
  · subst hz
    refine ⟨0, false, [], fun W hs => ?_, fun W hs => ?_⟩
    · refine (take_no A c xs _ W hs hb hc hm (by rw [hf])).mono ?_
      rintro e w' ⟨rfl, rfl⟩
      exact ⟨_, rfl, OwnS.nil _ _ _ _, Below.refl _ _⟩
    · refine (rtake_no A c xs W hs hb hc hm (by rw [hf])).mono ?_
      rintro e w' ⟨rfl, hb'⟩
      exact ⟨_, rfl, OwnS.nil _ _ _ _, hb'⟩
  · exact ⟨n, true, xs.drop s, fun W hs => take_yes A c xs W hs hb hc hm n s hf hz, fun W hs => rtake_yes A c xs W hs hb hc hm n s hf hz⟩

set_option maxRecDepth 100000 in
set_option maxHeartbeats 8000000 in
theorem all_walk (A A' : Option Addr) (c c' : Nat) (l m : List Int) (w : World) (hs : Sl .i64 w w.heap.size A l) (hs' : Sl .u8 w w.heap.size A' m) (hi : Ins l) (hb : Byt m) (hc : l.length ≤ c) (hm : c ≤ 9223372036854775807) (hc' : m.length ≤ c') (hm' : c' ≤ 9223372036854775807) :
    Calls Try.prog 3 #[.slice A l.length c, .slice A' m.length c'] w (Yes w) := by
  have HS := Lib.hid (hs.take 40)
  have HS' := Lib.hid (hs'.take 200)
  have HI := Lib.hid (hi.take 40)
  have HY := Lib.hid (hb.take 200)
  have hl : (l.take 40).length ≤ 40 := List.length_take_le _ _
  have hl' : (m.take 200).length ≤ 200 := List.length_take_le _ _
  have hl2 : (m.take 200).length ≤ c' := Nat.le_trans (List.length_take_le' _ _) hc'
  have HF := Lib.hid (fun W => few_any A c l W hc hm)
  have HF' := Lib.hid (fun W => short_any A' c' m W hc' hm')
  clear hs hs' hi hb
  generalize l.take 40 = L at *
  generalize m.take 200 = M at *
  have hsl := (seq_len M.length M (Nat.le_refl _) HY.out).1
  obtain ⟨n, ok, R, hT, hRT⟩ := takes A' c' M HY.out hl2 (by omega)
  have HT := Lib.hid hT
  have HRT := Lib.hid hRT
  clear hT hRT
  have HP := Lib.hid (fun (W : World) (hB : Below w.heap.size w W) => put_any A c L w.heap.size W (HS.out.below hB) hB.size HI.out (by omega))
  have HRP := Lib.hid (fun (W : World) (hB : Below w.heap.size w W) => rput_any A c L w.heap.size W (HS.out.below hB) hB.size HI.out (by omega))
  generalize put L = PL at *
  go_enter Try.func3, Try.ntmps3
  go_wp2_with (first
    | (go_at_call 9; (with_reducible refine (shown_any _).mono ?_); rintro e w1 ⟨rfl, hb1⟩)
    | (go_at_call 10; (with_reducible refine (HF.out _).mono ?_); rintro e w2 ⟨rfl, rfl⟩)
    | (go_at_call 11; (with_reducible refine (HF'.out _).mono ?_); rintro e w2 ⟨rfl, rfl⟩))
  refine (HT.out _ ((HS'.out.below hb1).more hb1.size)).mono ?_
  rintro e w2 ⟨v2, rfl, ho2, hb2⟩
  obtain ⟨A2, c2, rfl, -, -, hs2⟩ := ho2.sl
  have HB2 := Lib.hid (hb1.trans (hb2.mono hb1.size))
  have HX2 := Lib.hid hs2
  clear hb1 hb2 hs2 ho2
  go_wp2_with fail
  refine (HRT.out _ ((HS'.out.below HB2.out).more HB2.out.size)).mono ?_
  rintro e w3 ⟨v3, rfl, ho3, hb3⟩
  obtain ⟨A3, c3, rfl, -, -, hs3⟩ := ho3.sl
  have HB3 := Lib.hid ((HB2.out.trans (hb3.mono HB2.out.size)).drew)
  have HR3 := Lib.hid (show Sl .u8 w3.drew w3.drew.heap.size A2 R ∧ Sl .u8 w3.drew w3.drew.heap.size A3 R from And.intro (sl_keep HX2.out hb3.drew) hs3)
  clear hb3 hs3 ho3 HB2 HX2
  go_wp2_with fail
  refine wp_region_held_drew (S := fun _ => True) (by kernel_rfl) trivial (fun _ => ?_)
  change wpAnyH _ _ _ _ _ 28 #[false, false, false, false, false, false, false, false, false, false, false, false, false, false, false, false, false, false, false, false, false, false, false, false, false, false, false, false] _ _
  refine wpAnyH_take (i := 0) (v := (.bool true)) rfl (by kernel_rfl) (by kernel_rfl) (by kernel_rfl) (fun _ _ _ h => h) (Or.inl ⟨by rfl, fun w _ => by go_simp⟩) trivial ?_
  simp only [Act.put, List.setIfInBounds_toArray, List.set_cons_zero, List.set_cons_succ, List.getElem_toArray, List.getElem_cons_zero]
  refine wpAnyH_take (i := 1) (v := (.bool false)) rfl (by kernel_rfl) (by kernel_rfl) (by kernel_rfl) (fun _ _ _ h => h) (Or.inl ⟨by rfl, fun w _ => by go_simp⟩) trivial ?_
  simp only [Act.put, List.setIfInBounds_toArray, List.set_cons_zero, List.set_cons_succ, List.getElem_toArray, List.getElem_cons_zero, List.getElem_cons_succ]
  refine wpAnyH_take (i := 2) (v := (.bool false)) rfl (by kernel_rfl) (by kernel_rfl) (by kernel_rfl) (fun _ _ _ h => h) (Or.inl ⟨by rfl, fun w _ => by go_simp⟩) trivial ?_
  simp only [Act.put, List.setIfInBounds_toArray, List.set_cons_zero, List.set_cons_succ, List.getElem_toArray, List.getElem_cons_zero, List.getElem_cons_succ]
  refine wpAnyH_take (i := 3) (v := (.slice A L.length c)) rfl (by kernel_rfl) (by kernel_rfl) (by kernel_rfl) (fun _ _ _ h => h) (Or.inl ⟨by rfl, fun w _ => by go_simp⟩) trivial ?_
  simp only [Act.put, List.setIfInBounds_toArray, List.set_cons_zero, List.set_cons_succ, List.getElem_toArray, List.getElem_cons_zero, List.getElem_cons_succ]
  refine wpAnyH_take (i := 6) (v := (.slice A L.length c)) rfl (by kernel_rfl) (by kernel_rfl) (by kernel_rfl) (fun _ _ _ h => h) (Or.inl ⟨by rfl, fun w _ => by go_simp⟩) trivial ?_
  simp only [Act.put, List.setIfInBounds_toArray, List.set_cons_zero, List.set_cons_succ, List.getElem_toArray, List.getElem_cons_zero, List.getElem_cons_succ]
  refine wpAnyH_ready (rs := [4]) (by kernel_rfl) (by simp) ?_
  refine AllReadyH.cons rfl (fun K hK => ?_) AllReadyH.nil
  go_simp
  refine (HP.out w3.drew HB3.out).mono ?_
  rintro e w4 ⟨v4, rfl, ho4, hb4⟩
  obtain ⟨A4, c4, rfl, -, -, hs4⟩ := ho4.sl
  have HX4 := Lib.hid hs4
  have HB4 := Lib.hid (HB3.out.trans (hb4.mono HB3.out.size))
  have HR4 := Lib.hid (And.intro (sl_keep HR3.out.1 hb4) (sl_keep HR3.out.2 hb4))
  clear hs4 ho4 hb4 HR3 HB3
  refine hK.out _ _ trivial (fun _ => ?_)
  clear hK K
  simp only [List.setIfInBounds_toArray, List.set_cons_zero, List.set_cons_succ]
  refine wpAnyH_ready (rs := [5, 7]) (by kernel_rfl) (by simp) ?_
  refine AllReadyH.cons rfl (fun K hK => ?_) ?_
  · have q4 := HX4.out.conv c4
    go_simp
    clear q4
    refine hK.out _ _ trivial (fun _ => ?_)
    clear hK K
    simp only [List.setIfInBounds_toArray, List.set_cons_zero, List.set_cons_succ]
    refine wpAnyH_ready (rs := [7]) (by kernel_rfl) (by simp) ?_
    refine AllReadyH.cons rfl (fun K hK => ?_) AllReadyH.nil
    go_simp
    refine (HRP.out w4 HB4.out).mono ?_
    rintro e w5 ⟨v5, rfl, ho5, hb5⟩
    obtain ⟨A5, c5, rfl, -, -, hs5⟩ := ho5.sl
    have HX5 := Lib.hid (And.intro (sl_keep HX4.out hb5) hs5)
    have HB5 := Lib.hid (HB4.out.trans (hb5.mono HB4.out.size))
    have HR5 := Lib.hid (And.intro (sl_keep HR4.out.1 hb5) (sl_keep HR4.out.2 hb5))
    clear hs5 ho5 hb5
    refine hK.out _ _ trivial (fun _ => ?_)
    clear hK K
    simp only [List.setIfInBounds_toArray, List.set_cons_zero, List.set_cons_succ]
    refine held_from 8 (by kernel_rfl) (by kernel_rfl) rfl (fun _ _ => trivial) ?_
    simp only [List.drop_succ_cons, List.drop_zero]
    have q5 : ∀ j, (convert 23 9 (.slice A5 PL.length c5)).run Try.prog (w5.drewN j) = .ok (.string (strOfNums PL)) (w5.drewN j) := fun j => Sl.conv (HX5.out.2.drewN j) c5
    have q2 : ∀ j, (convert 23 9 (.slice A2 R.length c2)).run Try.prog (w5.drewN j) = .ok (.string (strOfNums R)) (w5.drewN j) := fun j => Sl.conv (HR5.out.1.drewN j) c2
    have q3 : ∀ j, (convert 23 9 (.slice A3 R.length c3)).run Try.prog (w5.drewN j) = .ok (.string (strOfNums R)) (w5.drewN j) := fun j => Sl.conv (HR5.out.2.drewN j) c3
    repeat (go_big_quiet_step (fail))
    refine wpQuiet_nil ?_
    rintro _ ⟨nq, rfl⟩
    have HB6 := Lib.hid (below_draws HB5.out nq)
    clear q5 q2 q3 HX5 HR5 HB5
    go_wp2_with fail
    refine (gone_1000 A' c' _ M rfl hl2 (by omega) HY.out _ ((HS'.out.below HB6.out).more HB6.out.size)).mono ?_
    rintro e w7 ⟨v7, rfl, ho7, hb7⟩
    obtain ⟨A7, c7, rfl, -, -, hs7⟩ := ho7.sl
    have HB7 := Lib.hid (HB6.out.trans (hb7.mono HB6.out.size))
    have HX7 := Lib.hid hs7
    clear hs7 ho7 hb7 HB6
    go_wp2_with fail
    refine (rall_any A' c' M _ ((HS'.out.below HB7.out).more HB7.out.size) HY.out hl2 (by omega)).mono ?_
    rintro e w8 ⟨v8, rfl, ho8, hb8⟩
    obtain ⟨A8, c8, rfl, -, -, hs8⟩ := ho8.sl
    have HB8 := Lib.hid (HB7.out.trans (hb8.mono HB7.out.size))
    have HX8 := Lib.hid (And.intro (sl_keep HX7.out hb8) hs8)
    clear hs8 ho8 hb8 HB7 HX7
    go_wp2_with fail
    refine (same_any A7 A8 c7 c8 (nums (seq M)) w8 HX8.out.1 HX8.out.2 (by have := nums_le (seq M); omega)).mono ?_
    rintro e w9 ⟨rfl, hb9⟩
    have HB9 := Lib.hid (HB8.out.trans (hb9.mono HB8.out.size))
    clear hb9 HB8 HX8
    generalize flag (seq M) = fl
    cases fl
    all_goals
      go_wp2
      go_ret
      exact ⟨rfl, HB9.out⟩
  · refine AllReadyH.cons rfl (fun K hK => ?_) AllReadyH.nil
    go_simp
    refine (HRP.out w4 HB4.out).mono ?_
    rintro e w5 ⟨v5, rfl, ho5, hb5⟩
    obtain ⟨A5, c5, rfl, -, -, hs5⟩ := ho5.sl
    have HX5 := Lib.hid (And.intro (sl_keep HX4.out hb5) hs5)
    have HB5 := Lib.hid (HB4.out.trans (hb5.mono HB4.out.size))
    have HR5 := Lib.hid (And.intro (sl_keep HR4.out.1 hb5) (sl_keep HR4.out.2 hb5))
    clear hs5 ho5 hb5
    refine hK.out _ _ trivial (fun _ => ?_)
    clear hK K
    simp only [List.setIfInBounds_toArray, List.set_cons_zero, List.set_cons_succ]
    refine wpAnyH_ready (rs := [5, 8]) (by kernel_rfl) (by simp) ?_
    refine AllReadyH.cons rfl (fun K hK => ?_) ?_
    · have q4 := HX5.out.1.conv c4
      go_simp
      clear q4
      refine hK.out _ _ trivial (fun _ => ?_)
      clear hK K
      simp only [List.setIfInBounds_toArray, List.set_cons_zero, List.set_cons_succ]
      refine held_from 8 (by kernel_rfl) (by kernel_rfl) rfl (fun _ _ => trivial) ?_
      simp only [List.drop_succ_cons, List.drop_zero]
      have q5 : ∀ j, (convert 23 9 (.slice A5 PL.length c5)).run Try.prog (w5.drewN j) = .ok (.string (strOfNums PL)) (w5.drewN j) := fun j => Sl.conv (HX5.out.2.drewN j) c5
      have q2 : ∀ j, (convert 23 9 (.slice A2 R.length c2)).run Try.prog (w5.drewN j) = .ok (.string (strOfNums R)) (w5.drewN j) := fun j => Sl.conv (HR5.out.1.drewN j) c2
      have q3 : ∀ j, (convert 23 9 (.slice A3 R.length c3)).run Try.prog (w5.drewN j) = .ok (.string (strOfNums R)) (w5.drewN j) := fun j => Sl.conv (HR5.out.2.drewN j) c3
      repeat (go_big_quiet_step (fail))
      refine wpQuiet_nil ?_
      rintro _ ⟨nq, rfl⟩
      have HB6 := Lib.hid (below_draws HB5.out nq)
      clear q5 q2 q3 HX5 HR5 HB5
      go_wp2_with fail
      refine (gone_1000 A' c' _ M rfl hl2 (by omega) HY.out _ ((HS'.out.below HB6.out).more HB6.out.size)).mono ?_
      rintro e w7 ⟨v7, rfl, ho7, hb7⟩
      obtain ⟨A7, c7, rfl, -, -, hs7⟩ := ho7.sl
      have HB7 := Lib.hid (HB6.out.trans (hb7.mono HB6.out.size))
      have HX7 := Lib.hid hs7
      clear hs7 ho7 hb7 HB6
      go_wp2_with fail
      refine (rall_any A' c' M _ ((HS'.out.below HB7.out).more HB7.out.size) HY.out hl2 (by omega)).mono ?_
      rintro e w8 ⟨v8, rfl, ho8, hb8⟩
      obtain ⟨A8, c8, rfl, -, -, hs8⟩ := ho8.sl
      have HB8 := Lib.hid (HB7.out.trans (hb8.mono HB7.out.size))
      have HX8 := Lib.hid (And.intro (sl_keep HX7.out hb8) hs8)
      clear hs8 ho8 hb8 HB7 HX7
      go_wp2_with fail
      refine (same_any A7 A8 c7 c8 (nums (seq M)) w8 HX8.out.1 HX8.out.2 (by have := nums_le (seq M); omega)).mono ?_
      rintro e w9 ⟨rfl, hb9⟩
      have HB9 := Lib.hid (HB8.out.trans (hb9.mono HB8.out.size))
      clear hb9 HB8 HX8
      generalize flag (seq M) = fl
      cases fl
      all_goals
        go_wp2
        go_ret
        exact ⟨rfl, HB9.out⟩
    · refine AllReadyH.cons rfl (fun K hK => ?_) AllReadyH.nil
      have q5' := HX5.out.2.conv c5
      go_simp
      clear q5'
      refine hK.out _ _ trivial (fun _ => ?_)
      clear hK K
      simp only [List.setIfInBounds_toArray, List.set_cons_zero, List.set_cons_succ]
      refine wpAnyH_ready (rs := [5]) (by kernel_rfl) (by simp) ?_
      refine AllReadyH.cons rfl (fun K hK => ?_) AllReadyH.nil
      have q4 := HX5.out.1.conv c4
      go_simp
      clear q4
      refine hK.out _ _ trivial (fun _ => ?_)
      clear hK K
      simp only [List.setIfInBounds_toArray, List.set_cons_zero, List.set_cons_succ]
      refine held_from 9 (by kernel_rfl) (by kernel_rfl) rfl (fun _ _ => trivial) ?_
      simp only [List.drop_succ_cons, List.drop_zero]
      have q5 : ∀ j, (convert 23 9 (.slice A5 PL.length c5)).run Try.prog (w5.drewN j) = .ok (.string (strOfNums PL)) (w5.drewN j) := fun j => Sl.conv (HX5.out.2.drewN j) c5
      have q2 : ∀ j, (convert 23 9 (.slice A2 R.length c2)).run Try.prog (w5.drewN j) = .ok (.string (strOfNums R)) (w5.drewN j) := fun j => Sl.conv (HR5.out.1.drewN j) c2
      have q3 : ∀ j, (convert 23 9 (.slice A3 R.length c3)).run Try.prog (w5.drewN j) = .ok (.string (strOfNums R)) (w5.drewN j) := fun j => Sl.conv (HR5.out.2.drewN j) c3
      repeat (go_big_quiet_step (fail))
      refine wpQuiet_nil ?_
      rintro _ ⟨nq, rfl⟩
      have HB6 := Lib.hid (below_draws HB5.out nq)
      clear q5 q2 q3 HX5 HR5 HB5
      go_wp2_with fail
      refine (gone_1000 A' c' _ M rfl hl2 (by omega) HY.out _ ((HS'.out.below HB6.out).more HB6.out.size)).mono ?_
      rintro e w7 ⟨v7, rfl, ho7, hb7⟩
      obtain ⟨A7, c7, rfl, -, -, hs7⟩ := ho7.sl
      have HB7 := Lib.hid (HB6.out.trans (hb7.mono HB6.out.size))
      have HX7 := Lib.hid hs7
      clear hs7 ho7 hb7 HB6
      go_wp2_with fail
      refine (rall_any A' c' M _ ((HS'.out.below HB7.out).more HB7.out.size) HY.out hl2 (by omega)).mono ?_
      rintro e w8 ⟨v8, rfl, ho8, hb8⟩
      obtain ⟨A8, c8, rfl, -, -, hs8⟩ := ho8.sl
      have HB8 := Lib.hid (HB7.out.trans (hb8.mono HB7.out.size))
      have HX8 := Lib.hid (And.intro (sl_keep HX7.out hb8) hs8)
      clear hs8 ho8 hb8 HB7 HX7
      go_wp2_with fail
      refine (same_any A7 A8 c7 c8 (nums (seq M)) w8 HX8.out.1 HX8.out.2 (by have := nums_le (seq M); omega)).mono ?_
      rintro e w9 ⟨rfl, hb9⟩
      have HB9 := Lib.hid (HB8.out.trans (hb9.mono HB8.out.size))
      clear hb9 HB8 HX8
      generalize flag (seq M) = fl
      cases fl
      all_goals
        go_wp2
        go_ret
        exact ⟨rfl, HB9.out⟩
end Go.Proofs.Ytopncdeafbpenaa
