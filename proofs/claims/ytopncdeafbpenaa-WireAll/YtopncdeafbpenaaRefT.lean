/-
  The reference's Take, at this seat's translation.
-/
import Derived.Test.YtopncdeafbpenaaRef
namespace Go.Proofs.Ytopncdeafbpenaa
open Go.RowKit

def RAt (xs : List Int) (x s i : Value) : Prop :=
  ∃ k v sc : Nat, k ≤ 10 ∧ k ≤ xs.length ∧ v < 18446744073709551616 ∧ sc < 18446744073709551616 ∧ i = .int .i64 k ∧ x = .int .u64 v ∧ s = .int .u64 sc ∧ sc = 128 ^ k % 18446744073709551616 ∧ At xs k v

theorem rstep {v sc k : Nat} {p : Int} (hk : k < 10) (hs : sc = 128 ^ k % 18446744073709551616) :
    ∃ t z sc' : Nat, IntKind.u64.wrap (p % 128 * (sc : Int)) = (t : Int) ∧ IntKind.u64.wrap ((v : Int) + (t : Int)) = (z : Int) ∧ IntKind.u64.wrap ((sc : Int) * 128) = (sc' : Int) ∧ t < 18446744073709551616 ∧ z < 18446744073709551616 ∧ sc' < 18446744073709551616 ∧
      sc' = 128 ^ (k + 1) % 18446744073709551616 ∧ (v < 128 ^ k → (p % 128).toNat * 128 ^ k < 18446744073709551616 → z = v + (p % 128).toNat * 128 ^ k) := by
  have hq : ((p % 128).toNat : Int) = p % 128 := by omega
  have hq2 : (p % 128).toNat < 128 := by omega
  generalize (p % 128).toNat = q at *
  have hsc : sc = 128 ^ k := by
    rw [hs]
    rcases ten_cases hk with rfl | rfl | rfl | rfl | rfl | rfl | rfl | rfl | rfl | rfl <;> rfl
  refine ⟨q * sc % 18446744073709551616, (v + q * sc % 18446744073709551616) % 18446744073709551616, sc * 128 % 18446744073709551616, ?_, ?_, ?_, Nat.mod_lt _ (by decide), Nat.mod_lt _ (by decide), Nat.mod_lt _ (by decide), by rw [hsc, pow_parts], ?_⟩
  · rw [IntKind.wrap_u64, ← hq, Int.natCast_emod, Int.natCast_mul]; rfl
  · generalize q * sc % 18446744073709551616 = t
    rw [IntKind.wrap_u64]; omega
  · rw [IntKind.wrap_u64, Int.natCast_emod, Int.natCast_mul]; rfl
  · intro hv hqk
    rw [hsc, Nat.mod_eq_of_lt hqk, Nat.mod_eq_of_lt]
    by_cases h9 : k = 9
    · subst h9
      have := last_small hqk
      simp only [Nat.reducePow] at hv ⊢
      omega
    · have h1 := small_sum hv hq2
      have h2 : 128 ^ (k + 1) ≤ 18446744073709551616 := by
        rcases ten_cases hk with rfl | rfl | rfl | rfl | rfl | rfl | rfl | rfl | rfl | rfl <;> first | decide | omega
      omega

theorem unf_odd {z : Nat} (h : z % 2 = 1) : -((z : Int) / 2) - 1 = unf z := by unfold unf; rw [if_pos h]; omega
theorem unf_even {z : Nat} (h : ¬ z % 2 = 1) : (z : Int) / 2 = unf z := by unfold unf; rw [if_neg h]; omega

/-- Bytes that are no number are put otherwise. -/
theorem bad_differs {xs : List Int} {z k : Nat} (hz : z < 18446744073709551616) (h : (first xs).2 = 0) : enc z ≠ xs.take (k + 1) := by
  intro e
  have h1 := first_put (unf_in hz) (xs.drop (k + 1))
  rw [fold_unf, e, List.take_append_drop] at h1
  rw [h1] at h
  have := enc_pos z
  rw [e] at this
  simp only at h
  omega
theorem bytes_same {a b : ByteArray} (h : a.toList = b.toList) : a = b := by
  rw [ByteArray.toList_eq, ByteArray.toList_eq] at h
  obtain ⟨⟨x⟩⟩ := a
  obtain ⟨⟨y⟩⟩ := b
  simp at h
  rw [h]
theorem str_inj {a b : List Int} (ha : Byt a) (hb : Byt b) (h : strOfNums a = strOfNums b) : a = b := by
  have e : (a.map fun n => UInt8.ofNat n.toNat) = b.map fun n => UInt8.ofNat n.toNat := by
    rw [← strOfNums_data, ← strOfNums_data, h]
  clear h
  induction a generalizing b with
  | nil => cases b with
    | nil => rfl
    | cons y t => simp at e
  | cons x s ih =>
    cases b with
    | nil => simp at e
    | cons y t =>
      simp only [List.map_cons, List.cons.injEq] at e
      have hx := ha x (by simp)
      have hy := hb y (by simp)
      have h1 := congrArg UInt8.toNat e.1
      rw [UInt8.toNat_ofNat', UInt8.toNat_ofNat'] at h1
      have : x = y := by omega
      rw [this, ih (fun z hz => ha z (List.mem_cons_of_mem _ hz)) (fun z hz => hb z (List.mem_cons_of_mem _ hz)) e.2]

set_option maxRecDepth 100000 in
set_option maxHeartbeats 4000000 in
theorem rtake_no (A : Option Addr) (c : Nat) (xs : List Int) (w : World) (hs : Sl .u8 w w.heap.size A xs) (hb : Byt xs) (hc : xs.length ≤ c) (hm : xs.length ≤ 100000) (h : (first xs).2 = 0) :
    Calls Try.prog 13 #[.slice A xs.length c] w fun e w' => e = .returned (.tuple #[.int .i64 0, .slice none 0 0, .bool false]) ∧ Below w.heap.size w w' := by
  have HS := Lib.hid hs
  have HB := Lib.hid hb
  have HF := Lib.hid h
  clear hs hb h
  go_enter Try.func13, Try.ntmps13
  go_wp2
  go_loop [5, 6, 7] (fun x s i => RAt xs x s i) (fun _ _ i => 10 - (intOf i).toNat)
  case atStart => exact ⟨0, 0, 1, by omega, by omega, by decide, by decide, rfl, rfl, rfl, by decide, At.start xs⟩
  case round =>
    obtain ⟨k, v, sc, hk, hkl, hv, hsc, rfl, rfl, rfl, hse, hAt⟩ := hrel
    have HA := Lib.hid hAt
    have HE := Lib.hid hse
    clear hAt hse
    by_cases hlt : k < 10 ∧ k < xs.length
    · obtain ⟨hlt, hlx⟩ := hlt
      obtain ⟨b, off, rfl, hbB, hcell⟩ := HS.out.at (j := k) (by omega)
      have hpb := HB.out.get k
      generalize hp : xs.getD k 0 = p at hcell hpb
      obtain ⟨hp0, hp1⟩ := hpb
      have HP := Lib.hid hp
      clear hp
      obtain ⟨t, z, sc', e1, e2, e3, ht, hz, hsc', hse', hzz⟩ := rstep (v := v) (p := p) hlt HE.out
      have HZ := Lib.hid (And.intro hse' hzz)
      clear hse' hzz
      by_cases hp128 : 128 ≤ p
      · go_wp2
        exact ⟨⟨k + 1, z, sc', by omega, by omega, hz, hsc', by go_num, rfl, rfl, HZ.out.1, HA.out.more hlt hlx HP.out hp1 hp128 HZ.out.2⟩, by simp [intOf]; omega⟩
      · have HSW := Lib.hid (show Sl .u8 w.drew w.heap.size (some ⟨b, off, none⟩) xs from HS.out)
        have hON := rone_any (unf z) w.drew (unf_in hz).1 (unf_in hz).2
        have HON := Lib.hid hON
        clear hON
        have htk : (xs.take (k + 1)).length = k + 1 := by simp; omega
        have hne : strOfNums (enc (fold (unf z))) ≠ strOfNums (xs.take (k + 1)) := by
          rw [fold_unf]
          intro e
          exact bad_differs hz HF.out (str_inj (enc_byt _) (HB.out.take _) e)
        have HC2 := Lib.hid (show ∀ (W : World), Sl .u8 W w.heap.size (some ⟨b, off, none⟩) xs → (convert 23 9 (.slice (some ⟨b, off, none⟩) (k + 1) c)).run Try.prog W = .ok (.string (strOfNums (xs.take (k + 1)))) W from fun W hW => by
          have h := Sl.conv (hW.take (k + 1)) c
          rwa [htk] at h)
        obtain ⟨S1, hS1⟩ : ∃ S1, strOfNums (enc (fold (unf z))) = S1 := ⟨_, rfl⟩
        have HS1E := Lib.hid hS1
        rw [hS1] at hne
        clear hS1 htk
        generalize strOfNums (xs.take (k + 1)) = S2 at *
        have hcv := HC2.out w.drew HSW.out
        have hcut := slice_to (some ⟨b, off, none⟩) xs.length c (k + 1) ((k : Int) + 1) (by omega) (by simp)
        have hb0 : ¬ S1.toList = S2.toList := fun h => hne (bytes_same h)
        have hb1 : (S1.toList != S2.toList) = true := by simpa using hb0
        have hb2 : (S1.toList == S2.toList) = false := by simpa using hb0
        clear hne
        have g5 : IntKind.i64.wrap ((k : Int) + 1) = (k : Int) + 1 := by rw [IntKind.wrap_i64]; omega
        by_cases hz2 : z % 2 = 1
        · have hu := unf_odd hz2
          go_wp2_with fail
          clear hu
          refine wp_region_held_drew (S := fun w' => (convert 23 9 (.slice (some ⟨b, off, none⟩) (k + 1) c)).run Try.prog w' = .ok (.string S2) w') (by kernel_rfl) hcv (fun hS => ?_)
          change wpAnyH _ _ _ _ _ 9 #[false, false, false, false, false, false, false, false, false] _ _
          refine wpAnyH_take (i := 0) (v := (.int .i64 (unf z))) rfl (by kernel_rfl) (by kernel_rfl) (by kernel_rfl) (fun _ _ _ h => h) (Or.inl ⟨by rfl, fun w hw => by dsimp only at hw; go_simp⟩) hS ?_
          simp only [Act.put, List.setIfInBounds_toArray, List.set_cons_zero, List.set_cons_succ, List.getElem_toArray, List.getElem_cons_zero]
          refine wpAnyH_take (i := 3) (v := (.slice (some ⟨b, off, none⟩) xs.length c)) rfl (by kernel_rfl) (by kernel_rfl) (by kernel_rfl) (fun _ _ _ h => h) (Or.inl ⟨by rfl, fun w hw => by dsimp only at hw; go_simp⟩) hS ?_
          simp only [Act.put, List.setIfInBounds_toArray, List.set_cons_zero, List.set_cons_succ, List.getElem_toArray, List.getElem_cons_zero, List.getElem_cons_succ]
          refine wpAnyH_take (i := 4) (v := (.int .i64 k)) rfl (by kernel_rfl) (by kernel_rfl) (by kernel_rfl) (fun _ _ _ h => h) (Or.inl ⟨by rfl, fun w hw => by dsimp only at hw; go_simp⟩) hS ?_
          simp only [Act.put, List.setIfInBounds_toArray, List.set_cons_zero, List.set_cons_succ, List.getElem_toArray, List.getElem_cons_zero, List.getElem_cons_succ]
          refine wpAnyH_take (i := 5) (v := (.int .i64 (k + 1))) rfl (by kernel_rfl) (by kernel_rfl) (by kernel_rfl) (fun _ _ _ h => h) (Or.inl ⟨by rfl, fun w hw => by dsimp only at hw; go_simp⟩) hS ?_
          simp only [Act.put, List.setIfInBounds_toArray, List.set_cons_zero, List.set_cons_succ, List.getElem_toArray, List.getElem_cons_zero, List.getElem_cons_succ]
          refine wpAnyH_take (i := 6) (v := (.slice (some ⟨b, off, none⟩) (k + 1) c)) rfl (by kernel_rfl) (by kernel_rfl) (by kernel_rfl) (fun _ _ _ h => h) (Or.inl ⟨by rfl, fun w hw => by dsimp only at hw; go_simp⟩) hS ?_
          simp only [Act.put, List.setIfInBounds_toArray, List.set_cons_zero, List.set_cons_succ, List.getElem_toArray, List.getElem_cons_zero, List.getElem_cons_succ]
          refine wpAnyH_take (i := 7) (v := (.string S2)) rfl (by kernel_rfl) (by kernel_rfl) (by kernel_rfl) (fun _ _ _ h => h) (Or.inl ⟨by rfl, fun w hw => by dsimp only at hw; go_simp⟩) hS ?_
          simp only [Act.put, List.setIfInBounds_toArray, List.set_cons_zero, List.set_cons_succ, List.getElem_toArray, List.getElem_cons_zero, List.getElem_cons_succ]
          refine wpAnyH_ready (rs := [1]) (by kernel_rfl) (by simp) ?_
          refine AllReadyH.cons rfl (fun K hK => ?_) AllReadyH.nil
          go_simp
          refine HON.out.mono ?_
          rintro e w1 ⟨v1, rfl, ho1, hb1⟩
          obtain ⟨A1, c1, rfl, -, -, hs1⟩ := ho1.sl
          have hX1 := HSW.out.below hb1
          have hcv1 : ∀ j, (convert 23 9 (.slice A1 (enc (fold (unf z))).length c1)).run Try.prog (w1.drewN j) = .ok (.string S1) (w1.drewN j) := fun j => by
            have h := Sl.conv (hs1.drewN j) c1
            rwa [HS1E.out] at h
          refine hK.out _ _ (HC2.out w1 hX1) (fun hS => ?_)
          clear hK K hS hcv
          refine held_narrow (C := fun w' => ∃ j, w' = w1.drewN j) (by rintro _ ⟨j, rfl⟩; exact HC2.out _ (hX1.drewN j)) _ _ _ _ ?_
          have hS : ∃ j, w1 = w1.drewN j := ⟨0, rfl⟩
          simp only [List.setIfInBounds_toArray, List.set_cons_zero, List.set_cons_succ]
          refine wpAnyH_take (i := 2) (v := (.string S1)) rfl (by kernel_rfl) (by kernel_rfl) (by kernel_rfl) (fun _ _ _ h => h) (Or.inl ⟨by rfl, fun w hw => by obtain ⟨j, rfl⟩ := hw; go_simp⟩) hS ?_
          simp only [Act.put, List.setIfInBounds_toArray, List.set_cons_zero, List.set_cons_succ, List.getElem_toArray, List.getElem_cons_zero, List.getElem_cons_succ]
          refine wpAnyH_take (i := 8) (v := (.bool true)) rfl (by kernel_rfl) (by kernel_rfl) (by kernel_rfl) (fun _ _ _ h => h) (Or.inl ⟨by rfl, fun w hw => by obtain ⟨j, rfl⟩ := hw; go_simp⟩) hS ?_
          simp only [Act.put, List.setIfInBounds_toArray, List.set_cons_zero, List.set_cons_succ, List.getElem_toArray, List.getElem_cons_zero, List.getElem_cons_succ]
          refine wpAnyH_done (by kernel_rfl) ?_ _
          have HB1 := Lib.hid hb1
          clear hS hcv1 hX1 hs1 ho1 hb1
          go_wp2
          go_ret3
          exact ⟨rfl, (Below.refl _ w).drew.trans HB1.out⟩
        · have hu := unf_even hz2
          go_wp2_with fail
          clear hu
          refine wp_region_held_drew (S := fun w' => (convert 23 9 (.slice (some ⟨b, off, none⟩) (k + 1) c)).run Try.prog w' = .ok (.string S2) w') (by kernel_rfl) hcv (fun hS => ?_)
          change wpAnyH _ _ _ _ _ 9 #[false, false, false, false, false, false, false, false, false] _ _
          refine wpAnyH_take (i := 0) (v := (.int .i64 (unf z))) rfl (by kernel_rfl) (by kernel_rfl) (by kernel_rfl) (fun _ _ _ h => h) (Or.inl ⟨by rfl, fun w hw => by dsimp only at hw; go_simp⟩) hS ?_
          simp only [Act.put, List.setIfInBounds_toArray, List.set_cons_zero, List.set_cons_succ, List.getElem_toArray, List.getElem_cons_zero]
          refine wpAnyH_take (i := 3) (v := (.slice (some ⟨b, off, none⟩) xs.length c)) rfl (by kernel_rfl) (by kernel_rfl) (by kernel_rfl) (fun _ _ _ h => h) (Or.inl ⟨by rfl, fun w hw => by dsimp only at hw; go_simp⟩) hS ?_
          simp only [Act.put, List.setIfInBounds_toArray, List.set_cons_zero, List.set_cons_succ, List.getElem_toArray, List.getElem_cons_zero, List.getElem_cons_succ]
          refine wpAnyH_take (i := 4) (v := (.int .i64 k)) rfl (by kernel_rfl) (by kernel_rfl) (by kernel_rfl) (fun _ _ _ h => h) (Or.inl ⟨by rfl, fun w hw => by dsimp only at hw; go_simp⟩) hS ?_
          simp only [Act.put, List.setIfInBounds_toArray, List.set_cons_zero, List.set_cons_succ, List.getElem_toArray, List.getElem_cons_zero, List.getElem_cons_succ]
          refine wpAnyH_take (i := 5) (v := (.int .i64 (k + 1))) rfl (by kernel_rfl) (by kernel_rfl) (by kernel_rfl) (fun _ _ _ h => h) (Or.inl ⟨by rfl, fun w hw => by dsimp only at hw; go_simp⟩) hS ?_
          simp only [Act.put, List.setIfInBounds_toArray, List.set_cons_zero, List.set_cons_succ, List.getElem_toArray, List.getElem_cons_zero, List.getElem_cons_succ]
          refine wpAnyH_take (i := 6) (v := (.slice (some ⟨b, off, none⟩) (k + 1) c)) rfl (by kernel_rfl) (by kernel_rfl) (by kernel_rfl) (fun _ _ _ h => h) (Or.inl ⟨by rfl, fun w hw => by dsimp only at hw; go_simp⟩) hS ?_
          simp only [Act.put, List.setIfInBounds_toArray, List.set_cons_zero, List.set_cons_succ, List.getElem_toArray, List.getElem_cons_zero, List.getElem_cons_succ]
          refine wpAnyH_take (i := 7) (v := (.string S2)) rfl (by kernel_rfl) (by kernel_rfl) (by kernel_rfl) (fun _ _ _ h => h) (Or.inl ⟨by rfl, fun w hw => by dsimp only at hw; go_simp⟩) hS ?_
          simp only [Act.put, List.setIfInBounds_toArray, List.set_cons_zero, List.set_cons_succ, List.getElem_toArray, List.getElem_cons_zero, List.getElem_cons_succ]
          refine wpAnyH_ready (rs := [1]) (by kernel_rfl) (by simp) ?_
          refine AllReadyH.cons rfl (fun K hK => ?_) AllReadyH.nil
          go_simp
          refine HON.out.mono ?_
          rintro e w1 ⟨v1, rfl, ho1, hb1⟩
          obtain ⟨A1, c1, rfl, -, -, hs1⟩ := ho1.sl
          have hX1 := HSW.out.below hb1
          have hcv1 : ∀ j, (convert 23 9 (.slice A1 (enc (fold (unf z))).length c1)).run Try.prog (w1.drewN j) = .ok (.string S1) (w1.drewN j) := fun j => by
            have h := Sl.conv (hs1.drewN j) c1
            rwa [HS1E.out] at h
          refine hK.out _ _ (HC2.out w1 hX1) (fun hS => ?_)
          clear hK K hS hcv
          refine held_narrow (C := fun w' => ∃ j, w' = w1.drewN j) (by rintro _ ⟨j, rfl⟩; exact HC2.out _ (hX1.drewN j)) _ _ _ _ ?_
          have hS : ∃ j, w1 = w1.drewN j := ⟨0, rfl⟩
          simp only [List.setIfInBounds_toArray, List.set_cons_zero, List.set_cons_succ]
          refine wpAnyH_take (i := 2) (v := (.string S1)) rfl (by kernel_rfl) (by kernel_rfl) (by kernel_rfl) (fun _ _ _ h => h) (Or.inl ⟨by rfl, fun w hw => by obtain ⟨j, rfl⟩ := hw; go_simp⟩) hS ?_
          simp only [Act.put, List.setIfInBounds_toArray, List.set_cons_zero, List.set_cons_succ, List.getElem_toArray, List.getElem_cons_zero, List.getElem_cons_succ]
          refine wpAnyH_take (i := 8) (v := (.bool true)) rfl (by kernel_rfl) (by kernel_rfl) (by kernel_rfl) (fun _ _ _ h => h) (Or.inl ⟨by rfl, fun w hw => by obtain ⟨j, rfl⟩ := hw; go_simp⟩) hS ?_
          simp only [Act.put, List.setIfInBounds_toArray, List.set_cons_zero, List.set_cons_succ, List.getElem_toArray, List.getElem_cons_zero, List.getElem_cons_succ]
          refine wpAnyH_done (by kernel_rfl) ?_ _
          have HB1 := Lib.hid hb1
          clear hS hcv1 hX1 hs1 ho1 hb1
          go_wp2
          go_ret3
          exact ⟨rfl, (Below.refl _ w).drew.trans HB1.out⟩
    · go_wp2
      all_goals
        go_ret3
        exact ⟨rfl, Below.refl _ _⟩

theorem slice_from2 (b off n c k m : Nat) (i : Int) (hk : n = k + m) (hn : n ≤ c) (hi : i = (k : Int)) :
    ∃ A', (∀ W, (Instr.slice 23 (.slice (some ⟨b, off, none⟩) n c) (some (.int .i64 i)) none none).run Try.prog W = .ok (.slice A' m (c - k)) W) ∧ (∀ q w B xs, xs.length = n → Sl q w B (some ⟨b, off, none⟩) xs → Sl q w B A' (xs.drop k)) ∧ A' ≠ none := by
  subst hi
  refine ⟨if c = k then some ⟨b, off, none⟩ else (some ⟨b, off, none⟩ : Option Addr).map fun x => x.add k, fun W => ?_, fun q w B xs hx h => h.cut (by omega), by split <;> simp⟩
  have hkn : k ≤ n := by omega
  obtain rfl : m = n - k := by omega
  clear hk
  go_simp

set_option maxRecDepth 100000 in
set_option maxHeartbeats 4000000 in
theorem rtake_yes (A : Option Addr) (c : Nat) (xs : List Int) (w : World) (hs : Sl .u8 w w.heap.size A xs) (hb : Byt xs) (hc : xs.length ≤ c) (hm : xs.length ≤ 100000) (n : Int) (s : Nat) (h : first xs = (n, s)) (h0 : s ≠ 0) :
    Calls Try.prog 13 #[.slice A xs.length c] w (TookS w n (xs.drop s)) := by
  have HS := Lib.hid hs
  have HB := Lib.hid hb
  have HF := Lib.hid (And.intro h h0)
  clear hs hb h h0
  obtain ⟨i0, hi0, hz0, hz1, hz2⟩ := info_parts Try.info5
  have HY := Lib.hid (And.intro hi0 (And.intro hz0 (And.intro hz1 hz2)))
  clear hi0 hz0 hz1 hz2
  go_enter Try.func13, Try.ntmps13
  go_wp2
  go_loop [5, 6, 7] (fun x s i => RAt xs x s i) (fun _ _ i => 10 - (intOf i).toNat)
  case atStart => exact ⟨0, 0, 1, by omega, by omega, by decide, by decide, rfl, rfl, rfl, by decide, At.start xs⟩
  case round =>
    obtain ⟨k, v, sc, hk, hkl, hv, hsc, rfl, rfl, rfl, hse, hAt⟩ := hrel
    have HA := Lib.hid hAt
    have HE := Lib.hid hse
    clear hAt hse
    by_cases hlt : k < 10 ∧ k < xs.length
    · obtain ⟨hlt, hlx⟩ := hlt
      obtain ⟨b, off, rfl, hbB, hcell⟩ := HS.out.at (j := k) (by omega)
      have hpb := HB.out.get k
      generalize hp : xs.getD k 0 = p at hcell hpb
      obtain ⟨hp0, hp1⟩ := hpb
      have HP := Lib.hid hp
      clear hp
      obtain ⟨t, z, sc', e1, e2, e3, ht, hz, hsc', hse', hzz⟩ := rstep (v := v) (p := p) hlt HE.out
      have HZ := Lib.hid (And.intro hse' hzz)
      clear hse' hzz
      by_cases hp128 : 128 ≤ p
      · go_wp2
        exact ⟨⟨k + 1, z, sc', by omega, by omega, hz, hsc', by go_num, rfl, rfl, HZ.out.1, HA.out.more hlt hlx HP.out hp1 hp128 HZ.out.2⟩, by simp [intOf]; omega⟩
      · have hgood : ¬ ((0 < k ∧ p = 0) ∨ (k = 9 ∧ 1 < p)) := fun hbad => by
          have h1 := HA.out.bad hlt hlx HP.out (by omega) hbad
          have h2 := HF.out.1
          rw [h1] at h2
          injection h2 with _ h3
          exact HF.out.2 h3.symm
        have hfirst := HA.out.good hlt hlx HP.out hp0 (by omega) hgood HZ.out.2
        obtain ⟨hn, hs'⟩ : unf z = n ∧ k + 1 = s := by
          have h2 := HF.out.1
          rw [hfirst] at h2
          injection h2 with h3 h4
          exact ⟨h3, h4⟩
        subst hn
        subst hs'
        obtain ⟨-, hsl, happ, hle, -, -⟩ := first_inv HB.out hfirst (by omega)
        have hen : enc (fold (unf z)) = xs.take (k + 1) := take_of_app happ hsl
        have HSW := Lib.hid (show Sl .u8 w.drew w.heap.size (some ⟨b, off, none⟩) xs from HS.out)
        have HON := Lib.hid (rone_any (unf z) w.drew (unf_in hz).1 (unf_in hz).2)
        have htk : (xs.take (k + 1)).length = k + 1 := by simp; omega
        have HC2 := Lib.hid (show ∀ (W : World), Sl .u8 W w.heap.size (some ⟨b, off, none⟩) xs → (convert 23 9 (.slice (some ⟨b, off, none⟩) (k + 1) c)).run Try.prog W = .ok (.string (strOfNums (xs.take (k + 1)))) W from fun W hW => by
          have h := Sl.conv (hW.take (k + 1)) c
          rwa [htk] at h)
        have HS1E := Lib.hid (show strOfNums (enc (fold (unf z))) = strOfNums (xs.take (k + 1)) by rw [hen])
        clear htk hsl happ hle hen hfirst hgood
        generalize strOfNums (xs.take (k + 1)) = S2 at *
        have hcv := HC2.out w.drew HSW.out
        have hcut := slice_to (some ⟨b, off, none⟩) xs.length c (k + 1) ((k : Int) + 1) (by omega) (by simp)
        have g5 : IntKind.i64.wrap ((k : Int) + 1) = (k : Int) + 1 := by rw [IntKind.wrap_i64]; omega
        obtain ⟨A', hcutf, hto, hA'⟩ := slice_from2 b off xs.length c (k + 1) (xs.length - (k + 1)) ((k : Int) + 1) (by omega) (by omega) (by simp)
        have HTO := Lib.hid (And.intro hto hA')
        clear hto hA'
        by_cases hz2 : z % 2 = 1
        · have hu := unf_odd hz2
          go_wp2_with fail
          clear hu
          refine wp_region_held_drew (S := fun w' => (convert 23 9 (.slice (some ⟨b, off, none⟩) (k + 1) c)).run Try.prog w' = .ok (.string S2) w') (by kernel_rfl) hcv (fun hS => ?_)
          change wpAnyH _ _ _ _ _ 9 #[false, false, false, false, false, false, false, false, false] _ _
          refine wpAnyH_take (i := 0) (v := (.int .i64 (unf z))) rfl (by kernel_rfl) (by kernel_rfl) (by kernel_rfl) (fun _ _ _ h => h) (Or.inl ⟨by rfl, fun w hw => by dsimp only at hw; go_simp⟩) hS ?_
          simp only [Act.put, List.setIfInBounds_toArray, List.set_cons_zero, List.set_cons_succ, List.getElem_toArray, List.getElem_cons_zero]
          refine wpAnyH_take (i := 3) (v := (.slice (some ⟨b, off, none⟩) xs.length c)) rfl (by kernel_rfl) (by kernel_rfl) (by kernel_rfl) (fun _ _ _ h => h) (Or.inl ⟨by rfl, fun w hw => by dsimp only at hw; go_simp⟩) hS ?_
          simp only [Act.put, List.setIfInBounds_toArray, List.set_cons_zero, List.set_cons_succ, List.getElem_toArray, List.getElem_cons_zero, List.getElem_cons_succ]
          refine wpAnyH_take (i := 4) (v := (.int .i64 k)) rfl (by kernel_rfl) (by kernel_rfl) (by kernel_rfl) (fun _ _ _ h => h) (Or.inl ⟨by rfl, fun w hw => by dsimp only at hw; go_simp⟩) hS ?_
          simp only [Act.put, List.setIfInBounds_toArray, List.set_cons_zero, List.set_cons_succ, List.getElem_toArray, List.getElem_cons_zero, List.getElem_cons_succ]
          refine wpAnyH_take (i := 5) (v := (.int .i64 (k + 1))) rfl (by kernel_rfl) (by kernel_rfl) (by kernel_rfl) (fun _ _ _ h => h) (Or.inl ⟨by rfl, fun w hw => by dsimp only at hw; go_simp⟩) hS ?_
          simp only [Act.put, List.setIfInBounds_toArray, List.set_cons_zero, List.set_cons_succ, List.getElem_toArray, List.getElem_cons_zero, List.getElem_cons_succ]
          refine wpAnyH_take (i := 6) (v := (.slice (some ⟨b, off, none⟩) (k + 1) c)) rfl (by kernel_rfl) (by kernel_rfl) (by kernel_rfl) (fun _ _ _ h => h) (Or.inl ⟨by rfl, fun w hw => by dsimp only at hw; go_simp⟩) hS ?_
          simp only [Act.put, List.setIfInBounds_toArray, List.set_cons_zero, List.set_cons_succ, List.getElem_toArray, List.getElem_cons_zero, List.getElem_cons_succ]
          refine wpAnyH_take (i := 7) (v := (.string S2)) rfl (by kernel_rfl) (by kernel_rfl) (by kernel_rfl) (fun _ _ _ h => h) (Or.inl ⟨by rfl, fun w hw => by dsimp only at hw; go_simp⟩) hS ?_
          simp only [Act.put, List.setIfInBounds_toArray, List.set_cons_zero, List.set_cons_succ, List.getElem_toArray, List.getElem_cons_zero, List.getElem_cons_succ]
          refine wpAnyH_ready (rs := [1]) (by kernel_rfl) (by simp) ?_
          refine AllReadyH.cons rfl (fun K hK => ?_) AllReadyH.nil
          go_simp
          refine HON.out.mono ?_
          rintro e w1 ⟨v1, rfl, ho1, hb1⟩
          obtain ⟨A1, c1, rfl, -, -, hs1⟩ := ho1.sl
          have hX1 := HSW.out.below hb1
          have hcv1 : ∀ j, (convert 23 9 (.slice A1 (enc (fold (unf z))).length c1)).run Try.prog (w1.drewN j) = .ok (.string S2) (w1.drewN j) := fun j => by
            have h := Sl.conv (hs1.drewN j) c1
            rwa [HS1E.out] at h
          refine hK.out _ _ (HC2.out w1 hX1) (fun hS => ?_)
          clear hK K hS hcv
          refine held_narrow (C := fun w' => ∃ j, w' = w1.drewN j) (by rintro _ ⟨j, rfl⟩; exact HC2.out _ (hX1.drewN j)) _ _ _ _ ?_
          have hS : ∃ j, w1 = w1.drewN j := ⟨0, rfl⟩
          simp only [List.setIfInBounds_toArray, List.set_cons_zero, List.set_cons_succ]
          refine wpAnyH_take (i := 2) (v := (.string S2)) rfl (by kernel_rfl) (by kernel_rfl) (by kernel_rfl) (fun _ _ _ h => h) (Or.inl ⟨by rfl, fun w hw => by obtain ⟨j, rfl⟩ := hw; go_simp⟩) hS ?_
          simp only [Act.put, List.setIfInBounds_toArray, List.set_cons_zero, List.set_cons_succ, List.getElem_toArray, List.getElem_cons_zero, List.getElem_cons_succ]
          refine wpAnyH_take (i := 8) (v := (.bool false)) rfl (by kernel_rfl) (by kernel_rfl) (by kernel_rfl) (fun _ _ _ h => h) (Or.inl ⟨by rfl, fun w hw => by obtain ⟨j, rfl⟩ := hw; go_simp⟩) hS ?_
          simp only [Act.put, List.setIfInBounds_toArray, List.set_cons_zero, List.set_cons_succ, List.getElem_toArray, List.getElem_cons_zero, List.getElem_cons_succ]
          refine wpAnyH_done (by kernel_rfl) ?_ _
          have HB1 := Lib.hid hb1
          clear hS hcv1 hX1 hs1 ho1 hb1
          have HE1 := Lib.hid (show OwnS 5 .u8 (w1.alloc (.cells #[] 5)) w1.heap.size (.slice (some ⟨w1.heap.size, 0, none⟩) 0 0) [] from own_empty 5 w1)
          have HBE := Lib.hid (show Below w1.heap.size w1 (w1.alloc (.cells #[] 5)) from (Below.refl _ _).alloc (Nat.le_refl _) _)
          have HSE := Lib.hid (show Sl .u8 (w1.alloc (.cells #[] 5)) w.heap.size A' (xs.drop (k + 1)) from (HTO.out.1 .u8 _ _ _ rfl (HSW.out.below HB1.out)).below (HBE.out.mono HB1.out.size))
          have hdl : (xs.drop (k + 1)).length = xs.length - (k + 1) := List.length_drop
          have HDL := Lib.hid hdl
          clear hdl
          go_wp2_with (at_builtin; refine wpList_append_sl _ rfl _ _ 23 rfl w1.heap.size 5 i0 (.int .u8 0) 1 Try.underlying23 HY.out.1 HY.out.2.1 HY.out.2.2.1 HY.out.2.2.2 rfl .u8 _ [] rfl HE1.out A' (c - (k + 1)) w.heap.size (xs.drop (k + 1)) (by rw [HDL.out]; rfl) HSE.out (fun h => absurd h HTO.out.2) (by rw [HDL.out]; simp; omega) (by decide) (by simp) ?_; intro v2 w2 ho2 hb2)
          go_ret3
          rw [List.nil_append] at ho2
          exact ⟨v2, rfl, ho2.less HB1.out.size, ((Below.refl _ w).drew.trans HB1.out).trans ((HBE.out.trans hb2).mono HB1.out.size)⟩
        · have hu := unf_even hz2
          go_wp2_with fail
          clear hu
          refine wp_region_held_drew (S := fun w' => (convert 23 9 (.slice (some ⟨b, off, none⟩) (k + 1) c)).run Try.prog w' = .ok (.string S2) w') (by kernel_rfl) hcv (fun hS => ?_)
          change wpAnyH _ _ _ _ _ 9 #[false, false, false, false, false, false, false, false, false] _ _
          refine wpAnyH_take (i := 0) (v := (.int .i64 (unf z))) rfl (by kernel_rfl) (by kernel_rfl) (by kernel_rfl) (fun _ _ _ h => h) (Or.inl ⟨by rfl, fun w hw => by dsimp only at hw; go_simp⟩) hS ?_
          simp only [Act.put, List.setIfInBounds_toArray, List.set_cons_zero, List.set_cons_succ, List.getElem_toArray, List.getElem_cons_zero]
          refine wpAnyH_take (i := 3) (v := (.slice (some ⟨b, off, none⟩) xs.length c)) rfl (by kernel_rfl) (by kernel_rfl) (by kernel_rfl) (fun _ _ _ h => h) (Or.inl ⟨by rfl, fun w hw => by dsimp only at hw; go_simp⟩) hS ?_
          simp only [Act.put, List.setIfInBounds_toArray, List.set_cons_zero, List.set_cons_succ, List.getElem_toArray, List.getElem_cons_zero, List.getElem_cons_succ]
          refine wpAnyH_take (i := 4) (v := (.int .i64 k)) rfl (by kernel_rfl) (by kernel_rfl) (by kernel_rfl) (fun _ _ _ h => h) (Or.inl ⟨by rfl, fun w hw => by dsimp only at hw; go_simp⟩) hS ?_
          simp only [Act.put, List.setIfInBounds_toArray, List.set_cons_zero, List.set_cons_succ, List.getElem_toArray, List.getElem_cons_zero, List.getElem_cons_succ]
          refine wpAnyH_take (i := 5) (v := (.int .i64 (k + 1))) rfl (by kernel_rfl) (by kernel_rfl) (by kernel_rfl) (fun _ _ _ h => h) (Or.inl ⟨by rfl, fun w hw => by dsimp only at hw; go_simp⟩) hS ?_
          simp only [Act.put, List.setIfInBounds_toArray, List.set_cons_zero, List.set_cons_succ, List.getElem_toArray, List.getElem_cons_zero, List.getElem_cons_succ]
          refine wpAnyH_take (i := 6) (v := (.slice (some ⟨b, off, none⟩) (k + 1) c)) rfl (by kernel_rfl) (by kernel_rfl) (by kernel_rfl) (fun _ _ _ h => h) (Or.inl ⟨by rfl, fun w hw => by dsimp only at hw; go_simp⟩) hS ?_
          simp only [Act.put, List.setIfInBounds_toArray, List.set_cons_zero, List.set_cons_succ, List.getElem_toArray, List.getElem_cons_zero, List.getElem_cons_succ]
          refine wpAnyH_take (i := 7) (v := (.string S2)) rfl (by kernel_rfl) (by kernel_rfl) (by kernel_rfl) (fun _ _ _ h => h) (Or.inl ⟨by rfl, fun w hw => by dsimp only at hw; go_simp⟩) hS ?_
          simp only [Act.put, List.setIfInBounds_toArray, List.set_cons_zero, List.set_cons_succ, List.getElem_toArray, List.getElem_cons_zero, List.getElem_cons_succ]
          refine wpAnyH_ready (rs := [1]) (by kernel_rfl) (by simp) ?_
          refine AllReadyH.cons rfl (fun K hK => ?_) AllReadyH.nil
          go_simp
          refine HON.out.mono ?_
          rintro e w1 ⟨v1, rfl, ho1, hb1⟩
          obtain ⟨A1, c1, rfl, -, -, hs1⟩ := ho1.sl
          have hX1 := HSW.out.below hb1
          have hcv1 : ∀ j, (convert 23 9 (.slice A1 (enc (fold (unf z))).length c1)).run Try.prog (w1.drewN j) = .ok (.string S2) (w1.drewN j) := fun j => by
            have h := Sl.conv (hs1.drewN j) c1
            rwa [HS1E.out] at h
          refine hK.out _ _ (HC2.out w1 hX1) (fun hS => ?_)
          clear hK K hS hcv
          refine held_narrow (C := fun w' => ∃ j, w' = w1.drewN j) (by rintro _ ⟨j, rfl⟩; exact HC2.out _ (hX1.drewN j)) _ _ _ _ ?_
          have hS : ∃ j, w1 = w1.drewN j := ⟨0, rfl⟩
          simp only [List.setIfInBounds_toArray, List.set_cons_zero, List.set_cons_succ]
          refine wpAnyH_take (i := 2) (v := (.string S2)) rfl (by kernel_rfl) (by kernel_rfl) (by kernel_rfl) (fun _ _ _ h => h) (Or.inl ⟨by rfl, fun w hw => by obtain ⟨j, rfl⟩ := hw; go_simp⟩) hS ?_
          simp only [Act.put, List.setIfInBounds_toArray, List.set_cons_zero, List.set_cons_succ, List.getElem_toArray, List.getElem_cons_zero, List.getElem_cons_succ]
          refine wpAnyH_take (i := 8) (v := (.bool false)) rfl (by kernel_rfl) (by kernel_rfl) (by kernel_rfl) (fun _ _ _ h => h) (Or.inl ⟨by rfl, fun w hw => by obtain ⟨j, rfl⟩ := hw; go_simp⟩) hS ?_
          simp only [Act.put, List.setIfInBounds_toArray, List.set_cons_zero, List.set_cons_succ, List.getElem_toArray, List.getElem_cons_zero, List.getElem_cons_succ]
          refine wpAnyH_done (by kernel_rfl) ?_ _
          have HB1 := Lib.hid hb1
          clear hS hcv1 hX1 hs1 ho1 hb1
          have HE1 := Lib.hid (show OwnS 5 .u8 (w1.alloc (.cells #[] 5)) w1.heap.size (.slice (some ⟨w1.heap.size, 0, none⟩) 0 0) [] from own_empty 5 w1)
          have HBE := Lib.hid (show Below w1.heap.size w1 (w1.alloc (.cells #[] 5)) from (Below.refl _ _).alloc (Nat.le_refl _) _)
          have HSE := Lib.hid (show Sl .u8 (w1.alloc (.cells #[] 5)) w.heap.size A' (xs.drop (k + 1)) from (HTO.out.1 .u8 _ _ _ rfl (HSW.out.below HB1.out)).below (HBE.out.mono HB1.out.size))
          have hdl : (xs.drop (k + 1)).length = xs.length - (k + 1) := List.length_drop
          have HDL := Lib.hid hdl
          clear hdl
          go_wp2_with (at_builtin; refine wpList_append_sl _ rfl _ _ 23 rfl w1.heap.size 5 i0 (.int .u8 0) 1 Try.underlying23 HY.out.1 HY.out.2.1 HY.out.2.2.1 HY.out.2.2.2 rfl .u8 _ [] rfl HE1.out A' (c - (k + 1)) w.heap.size (xs.drop (k + 1)) (by rw [HDL.out]; rfl) HSE.out (fun h => absurd h HTO.out.2) (by rw [HDL.out]; simp; omega) (by decide) (by simp) ?_; intro v2 w2 ho2 hb2)
          go_ret3
          rw [List.nil_append] at ho2
          exact ⟨v2, rfl, ho2.less HB1.out.size, ((Below.refl _ w).drew.trans HB1.out).trans ((HBE.out.trans hb2).mono HB1.out.size)⟩
    · exfalso
      have h1 := HA.out.ends (by omega)
      have h2 := HF.out.1
      rw [h1] at h2
      injection h2 with _ h3
      exact HF.out.2 h3.symm
end Go.Proofs.Ytopncdeafbpenaa
