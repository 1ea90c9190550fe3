/-
  The reference's Take, at this seat's translation.
-/
import Derived.Test.YtfmmfaeognoleaaGreatM12
import Derived.Test.YtfmmfaeognoleaaGreatM5
import Derived.Test.YtfmmfaeognoleaaGreatM6
import Derived.BigQuiet
namespace Go.Proofs.YtfmmfaeognoleaaGreat.P
open Go.RowKit

def RAt (xs : List Int) (x s i : Value) : Prop :=
  ∃ k v sc : Nat, k ≤ 10 ∧ k ≤ xs.length ∧ v < 18446744073709551616 ∧ sc < 18446744073709551616 ∧ i = .int .i64 k ∧ x = .int .u64 v ∧ s = .int .u64 sc ∧ sc = 128 ^ k % 18446744073709551616 ∧ At xs k v

theorem rstep {v sc k : Nat} {p : Int} (hk : k < 10) (hs : sc = 128 ^ k % 18446744073709551616) :
    ∃ t z sc' : Nat, IntKind.u64.wrap (p % 128 * (sc : Int)) = (t : Int) ∧ IntKind.u64.wrap ((v : Int) + (t : Int)) = (z : Int) ∧ IntKind.u64.wrap ((sc : Int) * 128) = (sc' : Int) ∧ t < 18446744073709551616 ∧ z < 18446744073709551616 ∧ sc' < 18446744073709551616 ∧
      sc' = 128 ^ (k + 1) % 18446744073709551616 ∧ (v < 128 ^ k → (p % 128).toNat * 128 ^ k < 18446744073709551616 → z = v + (p % 128).toNat * 128 ^ k) := by
  have hq : ((p % 128).toNat : Int) = p % 128 := by omega
  have hq2 : (p % 128).toNat < 128 := by omega
  generalize (p % 128).toNat = q at *
  have hsc : sc = 128 ^ k := by
    rw [hs]
    rcases ten_cases hk with rfl | rfl | rfl | rfl | rfl | rfl | rfl | rfl | rfl | rfl <;> rfl
  refine ⟨q * sc % 18446744073709551616, (v + q * sc % 18446744073709551616) % 18446744073709551616, sc * 128 % 18446744073709551616, ?_, ?_, ?_, Nat.mod_lt _ (by decide), Nat.mod_lt _ (by decide), Nat.mod_lt _ (by decide), by rw [hsc, pow_parts], ?_⟩
  · rw [IntKind.wrap_u64, ← hq, Int.natCast_emod, Int.natCast_mul]; rfl
  · generalize q * sc % 18446744073709551616 = t
    rw [IntKind.wrap_u64]; omega
  · rw [IntKind.wrap_u64, Int.natCast_emod, Int.natCast_mul]; rfl
  · intro hv hqk
    rw [hsc, Nat.mod_eq_of_lt hqk, Nat.mod_eq_of_lt]
    by_cases h9 : k = 9
    · subst h9
      have := last_small hqk
      simp only [Nat.reducePow] at hv ⊢
      omega
    · have h1 := small_sum hv hq2
      have h2 : 128 ^ (k + 1) ≤ 18446744073709551616 := by
        rcases ten_cases hk with rfl | rfl | rfl | rfl | rfl | rfl | rfl | rfl | rfl | rfl <;> first | decide | omega
      omega

theorem unf_odd {z : Nat} (h : z % 2 = 1) : -((z : Int) / 2) - 1 = unf z := by unfold unf; rw [if_pos h]; omega
theorem unf_even {z : Nat} (h : ¬ z % 2 = 1) : (z : Int) / 2 = unf z := by unfold unf; rw [if_neg h]; omega

/-- Bytes that are no number are put otherwise. -/
theorem bad_differs {xs : List Int} {z k : Nat} (hz : z < 18446744073709551616) (h : (first xs).2 = 0) : enc z ≠ xs.take (k + 1) := by
  intro e
  have h1 := first_put (unf_in hz) (xs.drop (k + 1))
  rw [fold_unf, e, List.take_append_drop] at h1
  rw [h1] at h
  have := enc_pos z
  rw [e] at this
  simp only at h
  omega
theorem bytes_same {a b : ByteArray} (h : a.toList = b.toList) : a = b := by
  rw [ByteArray.toList_eq, ByteArray.toList_eq] at h
  obtain ⟨⟨x⟩⟩ := a
  obtain ⟨⟨y⟩⟩ := b
  simp at h
  rw [h]
theorem str_inj {a b : List Int} (ha : Byt a) (hb : Byt b) (h : strOfNums a = strOfNums b) : a = b := by
  have e : (a.map fun n => UInt8.ofNat n.toNat) = b.map fun n => UInt8.ofNat n.toNat := by
    rw [← strOfNums_data, ← strOfNums_data, h]
  clear h
  induction a generalizing b with
  | nil => cases b with
    | nil => rfl
    | cons y t => simp at e
  | cons x s ih =>
    cases b with
    | nil => simp at e
    | cons y t =>
      simp only [List.map_cons, List.cons.injEq] at e
      have hx := ha x (by simp)
      have hy := hb y (by simp)
      have h1 := congrArg UInt8.toNat e.1
      rw [UInt8.toNat_ofNat', UInt8.toNat_ofNat'] at h1
      have : x = y := by omega
      rw [this, ih (fun z hz => ha z (List.mem_cons_of_mem _ hz)) (fun z hz => hb z (List.mem_cons_of_mem _ hz)) e.2]

set_option maxRecDepth 100000 in
set_option maxHeartbeats 4000000 in
theorem rtake_no (A : Option Addr) (c : Nat) (xs : List Int) (w : World) (hs : Sl .u8 w w.heap.size A xs) (hb : Byt xs) (hc : xs.length ≤ c) (hm : xs.length ≤ 10000000000) (h : (first xs).2 = 0) :
    Calls Tryz.prog 54 #[.slice A xs.length c] w fun e w' => e = .returned (.tuple #[.int .i64 0, .slice none 0 0, .bool false]) ∧ Below w.heap.size w w' := by
  have HS := Lib.hid hs
  have HB := Lib.hid hb
  have HF := Lib.hid h
  clear hs hb h
  go_enter Tryz.func54, Tryz.ntmps54
  go_wp2
  go_loop [5, 6, 7] (fun x s i => RAt xs x s i) (fun _ _ i => 10 - (intOf i).toNat)
  case atStart => exact ⟨0, 0, 1, by omega, by omega, by decide, by decide, rfl, rfl, rfl, by decide, At.start xs⟩
  case round =>
    obtain ⟨k, v, sc, hk, hkl, hv, hsc, rfl, rfl, rfl, hse, hAt⟩ := hrel
    have HA := Lib.hid hAt
    have HE := Lib.hid hse
    clear hAt hse
    by_cases hlt : k < 10 ∧ k < xs.length
    · obtain ⟨hlt, hlx⟩ := hlt
      obtain ⟨b, off, rfl, hbB, hcell⟩ := HS.out.at (j := k) (by omega)
      have hpb := HB.out.get k
      generalize hp : xs.getD k 0 = p at hcell hpb
      obtain ⟨hp0, hp1⟩ := hpb
      have HP := Lib.hid hp
      clear hp
      obtain ⟨t, z, sc', e1, e2, e3, ht, hz, hsc', hse', hzz⟩ := rstep (v := v) (p := p) hlt HE.out
      have HZ := Lib.hid (And.intro hse' hzz)
      clear hse' hzz
      by_cases hp128 : 128 ≤ p
      · go_wp2
        exact ⟨⟨k + 1, z, sc', by omega, by omega, hz, hsc', by go_num, rfl, rfl, HZ.out.1, HA.out.more hlt hlx HP.out hp1 hp128 HZ.out.2⟩, by simp [intOf]; omega⟩
      · have HSW := Lib.hid (show Sl .u8 w.drew w.heap.size (some ⟨b, off, none⟩) xs from HS.out)
        have hON := rone_any (unf z) w.drew (unf_in hz).1 (unf_in hz).2
        have HON := Lib.hid hON
        clear hON
        have htk : (xs.take (k + 1)).length = k + 1 := by simp; omega
        have hne : strOfNums (enc (fold (unf z))) ≠ strOfNums (xs.take (k + 1)) := by
          rw [fold_unf]
          intro e
          exact bad_differs hz HF.out (str_inj (enc_byt _) (HB.out.take _) e)
        have HC2 := Lib.hid (show ∀ (W : World), Sl .u8 W w.heap.size (some ⟨b, off, none⟩) xs → (convert 30 9 (.slice (some ⟨b, off, none⟩) (k + 1) c)).run Tryz.prog W = .ok (.string (strOfNums (xs.take (k + 1)))) W from fun W hW => by
          have h := Sl.conv (hW.take (k + 1)) c
          rwa [htk] at h)
        obtain ⟨S1, hS1⟩ : ∃ S1, strOfNums (enc (fold (unf z))) = S1 := ⟨_, rfl⟩
        have HS1E := Lib.hid hS1
        rw [hS1] at hne
        clear hS1 htk
        generalize strOfNums (xs.take (k + 1)) = S2 at *
        have hcv := HC2.out w.drew HSW.out
        have hcut := slice_to (some ⟨b, off, none⟩) xs.length c (k + 1) ((k : Int) + 1) (by omega) (by simp)
        have hb0 : ¬ S1.toList = S2.toList := fun h => hne (bytes_same h)
        have hb1 : (S1.toList != S2.toList) = true := by simpa using hb0
        have hb2 : (S1.toList == S2.toList) = false := by simpa using hb0
        clear hne
        have g5 : IntKind.i64.wrap ((k : Int) + 1) = (k : Int) + 1 := by rw [IntKind.wrap_i64]; omega
        by_cases hz2 : z % 2 = 1
        · have hu := unf_odd hz2
          go_wp2_with fail
          clear hu
          refine wp_region_held_drew (S := fun w' => (convert 30 9 (.slice (some ⟨b, off, none⟩) (k + 1) c)).run Tryz.prog w' = .ok (.string S2) w') (by kernel_rfl) hcv (fun hS => ?_)
          change wpAnyH _ _ _ _ _ 9 #[false, false, false, false, false, false, false, false, false] _ _
          refine wpAnyH_take (i := 0) (v := (.int .i64 (unf z))) rfl (by kernel_rfl) (by kernel_rfl) (by kernel_rfl) (fun _ _ _ h => h) (Or.inl ⟨by rfl, fun w hw => by dsimp only at hw; go_simp⟩) hS ?_
          simp only [Act.put, List.setIfInBounds_toArray, List.set_cons_zero, List.set_cons_succ, List.getElem_toArray, List.getElem_cons_zero]
          refine wpAnyH_take (i := 3) (v := (.slice (some ⟨b, off, none⟩) xs.length c)) rfl (by kernel_rfl) (by kernel_rfl) (by kernel_rfl) (fun _ _ _ h => h) (Or.inl ⟨by rfl, fun w hw => by dsimp only at hw; go_simp⟩) hS ?_
          simp only [Act.put, List.setIfInBounds_toArray, List.set_cons_zero, List.set_cons_succ, List.getElem_toArray, List.getElem_cons_zero, List.getElem_cons_succ]
          refine wpAnyH_take (i := 4) (v := (.int .i64 k)) rfl (by kernel_rfl) (by kernel_rfl) (by kernel_rfl) (fun _ _ _ h => h) (Or.inl ⟨by rfl, fun w hw => by dsimp only at hw; go_simp⟩) hS ?_
          simp only [Act.put, List.setIfInBounds_toArray, List.set_cons_zero, List.set_cons_succ, List.getElem_toArray, List.getElem_cons_zero, List.getElem_cons_succ]
          refine wpAnyH_take (i := 5) (v := (.int .i64 (k + 1))) rfl (by kernel_rfl) (by kernel_rfl) (by kernel_rfl) (fun _ _ _ h => h) (Or.inl ⟨by rfl, fun w hw => by dsimp only at hw; go_simp⟩) hS ?_
          simp only [Act.put, List.setIfInBounds_toArray, List.set_cons_zero, List.set_cons_succ, List.getElem_toArray, List.getElem_cons_zero, List.getElem_cons_succ]
          refine wpAnyH_take (i := 6) (v := (.slice (some ⟨b, off, none⟩) (k + 1) c)) rfl (by kernel_rfl) (by kernel_rfl) (by kernel_rfl) (fun _ _ _ h => h) (Or.inl ⟨by rfl, fun w hw => by dsimp only at hw; go_simp⟩) hS ?_
          simp only [Act.put, List.setIfInBounds_toArray, List.set_cons_zero, List.set_cons_succ, List.getElem_toArray, List.getElem_cons_zero, List.getElem_cons_succ]
          refine wpAnyH_take (i := 7) (v := (.string S2)) rfl (by kernel_rfl) (by kernel_rfl) (by kernel_rfl) (fun _ _ _ h => h) (Or.inl ⟨by rfl, fun w hw => by dsimp only at hw; go_simp⟩) hS ?_
          simp only [Act.put, List.setIfInBounds_toArray, List.set_cons_zero, List.set_cons_succ, List.getElem_toArray, List.getElem_cons_zero, List.getElem_cons_succ]
          refine wpAnyH_ready (rs := [1]) (by kernel_rfl) (by simp) ?_
          refine AllReadyH.cons rfl (fun K hK => ?_) AllReadyH.nil
          go_simp
          refine HON.out.mono ?_
          rintro e w1 ⟨v1, rfl, ho1, hb1⟩
          obtain ⟨A1, c1, rfl, -, -, hs1⟩ := ho1.sl
          have hX1 := HSW.out.below hb1
          have hcv1 : ∀ j, (convert 30 9 (.slice A1 (enc (fold (unf z))).length c1)).run Tryz.prog (w1.drewN j) = .ok (.string S1) (w1.drewN j) := fun j => by
            have h := Sl.conv (hs1.drewN j) c1
            rwa [HS1E.out] at h
          refine hK.out _ _ (HC2.out w1 hX1) (fun hS => ?_)
          clear hK K hS hcv
          refine held_narrow (C := fun w' => ∃ j, w' = w1.drewN j) (by rintro _ ⟨j, rfl⟩; exact HC2.out _ (hX1.drewN j)) _ _ _ _ ?_
          have hS : ∃ j, w1 = w1.drewN j := ⟨0, rfl⟩
          simp only [List.setIfInBounds_toArray, List.set_cons_zero, List.set_cons_succ]
          refine wpAnyH_take (i := 2) (v := (.string S1)) rfl (by kernel_rfl) (by kernel_rfl) (by kernel_rfl) (fun _ _ _ h => h) (Or.inl ⟨by rfl, fun w hw => by obtain ⟨j, rfl⟩ := hw; go_simp⟩) hS ?_
          simp only [Act.put, List.setIfInBounds_toArray, List.set_cons_zero, List.set_cons_succ, List.getElem_toArray, List.getElem_cons_zero, List.getElem_cons_succ]
          refine wpAnyH_take (i := 8) (v := (.bool true)) rfl (by kernel_rfl) (by kernel_rfl) (by kernel_rfl) (fun _ _ _ h => h) (Or.inl ⟨by rfl, fun w hw => by obtain ⟨j, rfl⟩ := hw; go_simp⟩) hS ?_
          simp only [Act.put, List.setIfInBounds_toArray, List.set_cons_zero, List.set_cons_succ, List.getElem_toArray, List.getElem_cons_zero, List.getElem_cons_succ]
          refine wpAnyH_done (by kernel_rfl) ?_ _
          have HB1 := Lib.hid hb1
          clear hS hcv1 hX1 hs1 ho1 hb1
          go_wp2
          go_ret3
          exact ⟨rfl, (Below.refl _ w).drew.trans HB1.out⟩
        · have hu := unf_even hz2
          go_wp2_with fail
          clear hu
          refine wp_region_held_drew (S := fun w' => (convert 30 9 (.slice (some ⟨b, off, none⟩) (k + 1) c)).run Tryz.prog w' = .ok (.string S2) w') (by kernel_rfl) hcv (fun hS => ?_)
          change wpAnyH _ _ _ _ _ 9 #[false, false, false, false, false, false, false, false, false] _ _
          refine wpAnyH_take (i := 0) (v := (.int .i64 (unf z))) rfl (by kernel_rfl) (by kernel_rfl) (by kernel_rfl) (fun _ _ _ h => h) (Or.inl ⟨by rfl, fun w hw => by dsimp only at hw; go_simp⟩) hS ?_
          simp only [Act.put, List.setIfInBounds_toArray, List.set_cons_zero, List.set_cons_succ, List.getElem_toArray, List.getElem_cons_zero]
          refine wpAnyH_take (i := 3) (v := (.slice (some ⟨b, off, none⟩) xs.length c)) rfl (by kernel_rfl) (by kernel_rfl) (by kernel_rfl) (fun _ _ _ h => h) (Or.inl ⟨by rfl, fun w hw => by dsimp only at hw; go_simp⟩) hS ?_
          simp only [Act.put, List.setIfInBounds_toArray, List.set_cons_zero, List.set_cons_succ, List.getElem_toArray, List.getElem_cons_zero, List.getElem_cons_succ]
          refine wpAnyH_take (i := 4) (v := (.int .i64 k)) rfl (by kernel_rfl) (by kernel_rfl) (by kernel_rfl) (fun _ _ _ h => h) (Or.inl ⟨by rfl, fun w hw => by dsimp only at hw; go_simp⟩) hS ?_
          simp only [Act.put, List.setIfInBounds_toArray, List.set_cons_zero, List.set_cons_succ, List.getElem_toArray, List.getElem_cons_zero, List.getElem_cons_succ]
          refine wpAnyH_take (i := 5) (v := (.int .i64 (k + 1))) rfl (by kernel_rfl) (by kernel_rfl) (by kernel_rfl) (fun _ _ _ h => h) (Or.inl ⟨by rfl, fun w hw => by dsimp only at hw; go_simp⟩) hS ?_
          simp only [Act.put, List.setIfInBounds_toArray, List.set_cons_zero, List.set_cons_succ, List.getElem_toArray, List.getElem_cons_zero, List.getElem_cons_succ]
          refine wpAnyH_take (i := 6) (v := (.slice (some ⟨b, off, none⟩) (k + 1) c)) rfl (by kernel_rfl) (by kernel_rfl) (by kernel_rfl) (fun _ _ _ h => h) (Or.inl ⟨by rfl, fun w hw => by dsimp only at hw; go_simp⟩) hS ?_
          simp only [Act.put, List.setIfInBounds_toArray, List.set_cons_zero, List.set_cons_succ, List.getElem_toArray, List.getElem_cons_zero, List.getElem_cons_succ]
          refine wpAnyH_take (i := 7) (v := (.string S2)) rfl (by kernel_rfl) (by kernel_rfl) (by kernel_rfl) (fun _ _ _ h => h) (Or.inl ⟨by rfl, fun w hw => by dsimp only at hw; go_simp⟩) hS ?_
          simp only [Act.put, List.setIfInBounds_toArray, List.set_cons_zero, List.set_cons_succ, List.getElem_toArray, List.getElem_cons_zero, List.getElem_cons_succ]
          refine wpAnyH_ready (rs := [1]) (by kernel_rfl) (by simp) ?_
          refine AllReadyH.cons rfl (fun K hK => ?_) AllReadyH.nil
          go_simp
          refine HON.out.mono ?_
          rintro e w1 ⟨v1, rfl, ho1, hb1⟩
          obtain ⟨A1, c1, rfl, -, -, hs1⟩ := ho1.sl
          have hX1 := HSW.out.below hb1
          have hcv1 : ∀ j, (convert 30 9 (.slice A1 (enc (fold (unf z))).length c1)).run Tryz.prog (w1.drewN j) = .ok (.string S1) (w1.drewN j) := fun j => by
            have h := Sl.conv (hs1.drewN j) c1
            rwa [HS1E.out] at h
          refine hK.out _ _ (HC2.out w1 hX1) (fun hS => ?_)
          clear hK K hS hcv
          refine held_narrow (C := fun w' => ∃ j, w' = w1.drewN j) (by rintro _ ⟨j, rfl⟩; exact HC2.out _ (hX1.drewN j)) _ _ _ _ ?_
          have hS : ∃ j, w1 = w1.drewN j := ⟨0, rfl⟩
          simp only [List.setIfInBounds_toArray, List.set_cons_zero, List.set_cons_succ]
          refine wpAnyH_take (i := 2) (v := (.string S1)) rfl (by kernel_rfl) (by kernel_rfl) (by kernel_rfl) (fun _ _ _ h => h) (Or.inl ⟨by rfl, fun w hw => by obtain ⟨j, rfl⟩ := hw; go_simp⟩) hS ?_
          simp only [Act.put, List.setIfInBounds_toArray, List.set_cons_zero, List.set_cons_succ, List.getElem_toArray, List.getElem_cons_zero, List.getElem_cons_succ]
          refine wpAnyH_take (i := 8) (v := (.bool true)) rfl (by kernel_rfl) (by kernel_rfl) (by kernel_rfl) (fun _ _ _ h => h) (Or.inl ⟨by rfl, fun w hw => by obtain ⟨j, rfl⟩ := hw; go_simp⟩) hS ?_
          simp only [Act.put, List.setIfInBounds_toArray, List.set_cons_zero, List.set_cons_succ, List.getElem_toArray, List.getElem_cons_zero, List.getElem_cons_succ]
          refine wpAnyH_done (by kernel_rfl) ?_ _
          have HB1 := Lib.hid hb1
          clear hS hcv1 hX1 hs1 ho1 hb1
          go_wp2
          go_ret3
          exact ⟨rfl, (Below.refl _ w).drew.trans HB1.out⟩
    · go_wp2
      all_goals
        go_ret3
        exact ⟨rfl, Below.refl _ _⟩

theorem slice_from2 (b off n c k m : Nat) (i : Int) (hk : n = k + m) (hn : n ≤ c) (hi : i = (k : Int)) :
    ∃ A', (∀ W, (Instr.slice 30 (.slice (some ⟨b, off, none⟩) n c) (some (.int .i64 i)) none none).run Tryz.prog W = .ok (.slice A' m (c - k)) W) ∧ (∀ q w B xs, xs.length = n → Sl q w B (some ⟨b, off, none⟩) xs → Sl q w B A' (xs.drop k)) ∧ A' ≠ none := by
  subst hi
  refine ⟨if c = k then some ⟨b, off, none⟩ else (some ⟨b, off, none⟩ : Option Addr).map fun x => x.add k, fun W => ?_, fun q w B xs hx h => h.cut (by omega), by split <;> simp⟩
  have hkn : k ≤ n := by omega
  obtain rfl : m = n - k := by omega
  clear hk
  go_simp

set_option maxRecDepth 100000 in
set_option maxHeartbeats 4000000 in
theorem rtake_yes (A : Option Addr) (c : Nat) (xs : List Int) (w : World) (hs : Sl .u8 w w.heap.size A xs) (hb : Byt xs) (hc : xs.length ≤ c) (hm : xs.length ≤ 10000000000) (n : Int) (s : Nat) (h : first xs = (n, s)) (h0 : s ≠ 0) :
    Calls Tryz.prog 54 #[.slice A xs.length c] w (TookS w n (xs.drop s)) := by
  have HS := Lib.hid hs
  have HB := Lib.hid hb
  have HF := Lib.hid (And.intro h h0)
  clear hs hb h h0
  obtain ⟨i0, hi0, hz0, hz1, hz2⟩ := info_parts Tryz.info5
  have HY := Lib.hid (And.intro hi0 (And.intro hz0 (And.intro hz1 hz2)))
  clear hi0 hz0 hz1 hz2
  go_enter Tryz.func54, Tryz.ntmps54
  go_wp2
  go_loop [5, 6, 7] (fun x s i => RAt xs x s i) (fun _ _ i => 10 - (intOf i).toNat)
  case atStart => exact ⟨0, 0, 1, by omega, by omega, by decide, by decide, rfl, rfl, rfl, by decide, At.start xs⟩
  case round =>
    obtain ⟨k, v, sc, hk, hkl, hv, hsc, rfl, rfl, rfl, hse, hAt⟩ := hrel
    have HA := Lib.hid hAt
    have HE := Lib.hid hse
    clear hAt hse
    by_cases hlt : k < 10 ∧ k < xs.length
    · obtain ⟨hlt, hlx⟩ := hlt
      obtain ⟨b, off, rfl, hbB, hcell⟩ := HS.out.at (j := k) (by omega)
      have hpb := HB.out.get k
      generalize hp : xs.getD k 0 = p at hcell hpb
      obtain ⟨hp0, hp1⟩ := hpb
      have HP := Lib.hid hp
      clear hp
      obtain ⟨t, z, sc', e1, e2, e3, ht, hz, hsc', hse', hzz⟩ := rstep (v := v) (p := p) hlt HE.out
      have HZ := Lib.hid (And.intro hse' hzz)
      clear hse' hzz
      by_cases hp128 : 128 ≤ p
      · go_wp2
        exact ⟨⟨k + 1, z, sc', by omega, by omega, hz, hsc', by go_num, rfl, rfl, HZ.out.1, HA.out.more hlt hlx HP.out hp1 hp128 HZ.out.2⟩, by simp [intOf]; omega⟩
      · have hgood : ¬ ((0 < k ∧ p = 0) ∨ (k = 9 ∧ 1 < p)) := fun hbad => by
          have h1 := HA.out.bad hlt hlx HP.out (by omega) hbad
          have h2 := HF.out.1
          rw [h1] at h2
          injection h2 with _ h3
          exact HF.out.2 h3.symm
        have hfirst := HA.out.good hlt hlx HP.out hp0 (by omega) hgood HZ.out.2
        obtain ⟨hn, hs'⟩ : unf z = n ∧ k + 1 = s := by
          have h2 := HF.out.1
          rw [hfirst] at h2
          injection h2 with h3 h4
          exact ⟨h3, h4⟩
        subst hn
        subst hs'
        obtain ⟨-, hsl, happ, hle, -, -⟩ := first_inv HB.out hfirst (by omega)
        have hen : enc (fold (unf z)) = xs.take (k + 1) := take_of_app happ hsl
        have HSW := Lib.hid (show Sl .u8 w.drew w.heap.size (some ⟨b, off, none⟩) xs from HS.out)
        have HON := Lib.hid (rone_any (unf z) w.drew (unf_in hz).1 (unf_in hz).2)
        have htk : (xs.take (k + 1)).length = k + 1 := by simp; omega
        have HC2 := Lib.hid (show ∀ (W : World), Sl .u8 W w.heap.size (some ⟨b, off, none⟩) xs → (convert 30 9 (.slice (some ⟨b, off, none⟩) (k + 1) c)).run Tryz.prog W = .ok (.string (strOfNums (xs.take (k + 1)))) W from fun W hW => by
          have h := Sl.conv (hW.take (k + 1)) c
          rwa [htk] at h)
        have HS1E := Lib.hid (show strOfNums (enc (fold (unf z))) = strOfNums (xs.take (k + 1)) by rw [hen])
        clear htk hsl happ hle hen hfirst hgood
        generalize strOfNums (xs.take (k + 1)) = S2 at *
        have hcv := HC2.out w.drew HSW.out
        have hcut := slice_to (some ⟨b, off, none⟩) xs.length c (k + 1) ((k : Int) + 1) (by omega) (by simp)
        have g5 : IntKind.i64.wrap ((k : Int) + 1) = (k : Int) + 1 := by rw [IntKind.wrap_i64]; omega
        obtain ⟨A', hcutf, hto, hA'⟩ := slice_from2 b off xs.length c (k + 1) (xs.length - (k + 1)) ((k : Int) + 1) (by omega) (by omega) (by simp)
        have HTO := Lib.hid (And.intro hto hA')
        clear hto hA'
        by_cases hz2 : z % 2 = 1
        · have hu := unf_odd hz2
          go_wp2_with fail
          clear hu
          refine wp_region_held_drew (S := fun w' => (convert 30 9 (.slice (some ⟨b, off, none⟩) (k + 1) c)).run Tryz.prog w' = .ok (.string S2) w') (by kernel_rfl) hcv (fun hS => ?_)
          change wpAnyH _ _ _ _ _ 9 #[false, false, false, false, false, false, false, false, false] _ _
          refine wpAnyH_take (i := 0) (v := (.int .i64 (unf z))) rfl (by kernel_rfl) (by kernel_rfl) (by kernel_rfl) (fun _ _ _ h => h) (Or.inl ⟨by rfl, fun w hw => by dsimp only at hw; go_simp⟩) hS ?_
          simp only [Act.put, List.setIfInBounds_toArray, List.set_cons_zero, List.set_cons_succ, List.getElem_toArray, List.getElem_cons_zero]
          refine wpAnyH_take (i := 3) (v := (.slice (some ⟨b, off, none⟩) xs.length c)) rfl (by kernel_rfl) (by kernel_rfl) (by kernel_rfl) (fun _ _ _ h => h) (Or.inl ⟨by rfl, fun w hw => by dsimp only at hw; go_simp⟩) hS ?_
          simp only [Act.put, List.setIfInBounds_toArray, List.set_cons_zero, List.set_cons_succ, List.getElem_toArray, List.getElem_cons_zero, List.getElem_cons_succ]
          refine wpAnyH_take (i := 4) (v := (.int .i64 k)) rfl (by kernel_rfl) (by kernel_rfl) (by kernel_rfl) (fun _ _ _ h => h) (Or.inl ⟨by rfl, fun w hw => by dsimp only at hw; go_simp⟩) hS ?_
          simp only [Act.put, List.setIfInBounds_toArray, List.set_cons_zero, List.set_cons_succ, List.getElem_toArray, List.getElem_cons_zero, List.getElem_cons_succ]
          refine wpAnyH_take (i := 5) (v := (.int .i64 (k + 1))) rfl (by kernel_rfl) (by kernel_rfl) (by kernel_rfl) (fun _ _ _ h => h) (Or.inl ⟨by rfl, fun w hw => by dsimp only at hw; go_simp⟩) hS ?_
          simp only [Act.put, List.setIfInBounds_toArray, List.set_cons_zero, List.set_cons_succ, List.getElem_toArray, List.getElem_cons_zero, List.getElem_cons_succ]
          refine wpAnyH_take (i := 6) (v := (.slice (some ⟨b, off, none⟩) (k + 1) c)) rfl (by kernel_rfl) (by kernel_rfl) (by kernel_rfl) (fun _ _ _ h => h) (Or.inl ⟨by rfl, fun w hw => by dsimp only at hw; go_simp⟩) hS ?_
          simp only [Act.put, List.setIfInBounds_toArray, List.set_cons_zero, List.set_cons_succ, List.getElem_toArray, List.getElem_cons_zero, List.getElem_cons_succ]
          refine wpAnyH_take (i := 7) (v := (.string S2)) rfl (by kernel_rfl) (by kernel_rfl) (by kernel_rfl) (fun _ _ _ h => h) (Or.inl ⟨by rfl, fun w hw => by dsimp only at hw; go_simp⟩) hS ?_
          simp only [Act.put, List.setIfInBounds_toArray, List.set_cons_zero, List.set_cons_succ, List.getElem_toArray, List.getElem_cons_zero, List.getElem_cons_succ]
          refine wpAnyH_ready (rs := [1]) (by kernel_rfl) (by simp) ?_
          refine AllReadyH.cons rfl (fun K hK => ?_) AllReadyH.nil
          go_simp
          refine HON.out.mono ?_
          rintro e w1 ⟨v1, rfl, ho1, hb1⟩
          obtain ⟨A1, c1, rfl, -, -, hs1⟩ := ho1.sl
          have hX1 := HSW.out.below hb1
          have hcv1 : ∀ j, (convert 30 9 (.slice A1 (enc (fold (unf z))).length c1)).run Tryz.prog (w1.drewN j) = .ok (.string S2) (w1.drewN j) := fun j => by
            have h := Sl.conv (hs1.drewN j) c1
            rwa [HS1E.out] at h
          refine hK.out _ _ (HC2.out w1 hX1) (fun hS => ?_)
          clear hK K hS hcv
          refine held_narrow (C := fun w' => ∃ j, w' = w1.drewN j) (by rintro _ ⟨j, rfl⟩; exact HC2.out _ (hX1.drewN j)) _ _ _ _ ?_
          have hS : ∃ j, w1 = w1.drewN j := ⟨0, rfl⟩
          simp only [List.setIfInBounds_toArray, List.set_cons_zero, List.set_cons_succ]
          refine wpAnyH_take (i := 2) (v := (.string S2)) rfl (by kernel_rfl) (by kernel_rfl) (by kernel_rfl) (fun _ _ _ h => h) (Or.inl ⟨by rfl, fun w hw => by obtain ⟨j, rfl⟩ := hw; go_simp⟩) hS ?_
          simp only [Act.put, List.setIfInBounds_toArray, List.set_cons_zero, List.set_cons_succ, List.getElem_toArray, List.getElem_cons_zero, List.getElem_cons_succ]
          refine wpAnyH_take (i := 8) (v := (.bool false)) rfl (by kernel_rfl) (by kernel_rfl) (by kernel_rfl) (fun _ _ _ h => h) (Or.inl ⟨by rfl, fun w hw => by obtain ⟨j, rfl⟩ := hw; go_simp⟩) hS ?_
          simp only [Act.put, List.setIfInBounds_toArray, List.set_cons_zero, List.set_cons_succ, List.getElem_toArray, List.getElem_cons_zero, List.getElem_cons_succ]
          refine wpAnyH_done (by kernel_rfl) ?_ _
          have HB1 := Lib.hid hb1
          clear hS hcv1 hX1 hs1 ho1 hb1
          have HE1 := Lib.hid (show OwnS 5 .u8 (w1.alloc (.cells #[] 5)) w1.heap.size (.slice (some ⟨w1.heap.size, 0, none⟩) 0 0) [] from own_empty 5 w1)
          have HBE := Lib.hid (show Below w1.heap.size w1 (w1.alloc (.cells #[] 5)) from (Below.refl _ _).alloc (Nat.le_refl _) _)
          have HSE := Lib.hid (show Sl .u8 (w1.alloc (.cells #[] 5)) w.heap.size A' (xs.drop (k + 1)) from (HTO.out.1 .u8 _ _ _ rfl (HSW.out.below HB1.out)).below (HBE.out.mono HB1.out.size))
          have hdl : (xs.drop (k + 1)).length = xs.length - (k + 1) := List.length_drop
          have HDL := Lib.hid hdl
          clear hdl
          go_wp2_with (at_builtin; refine wpList_append_sl _ rfl _ _ 30 rfl w1.heap.size 5 i0 (.int .u8 0) 1 Tryz.underlying30 HY.out.1 HY.out.2.1 HY.out.2.2.1 HY.out.2.2.2 rfl .u8 _ [] rfl HE1.out A' (c - (k + 1)) w.heap.size (xs.drop (k + 1)) (by rw [HDL.out]; rfl) HSE.out (fun h => absurd h HTO.out.2) (by rw [HDL.out]; simp; omega) (by decide) (by simp) ?_; intro v2 w2 ho2 hb2)
          go_ret3
          rw [List.nil_append] at ho2
          exact ⟨v2, rfl, ho2.less HB1.out.size, ((Below.refl _ w).drew.trans HB1.out).trans ((HBE.out.trans hb2).mono HB1.out.size)⟩
        · have hu := unf_even hz2
          go_wp2_with fail
          clear hu
          refine wp_region_held_drew (S := fun w' => (convert 30 9 (.slice (some ⟨b, off, none⟩) (k + 1) c)).run Tryz.prog w' = .ok (.string S2) w') (by kernel_rfl) hcv (fun hS => ?_)
          change wpAnyH _ _ _ _ _ 9 #[false, false, false, false, false, false, false, false, false] _ _
          refine wpAnyH_take (i := 0) (v := (.int .i64 (unf z))) rfl (by kernel_rfl) (by kernel_rfl) (by kernel_rfl) (fun _ _ _ h => h) (Or.inl ⟨by rfl, fun w hw => by dsimp only at hw; go_simp⟩) hS ?_
          simp only [Act.put, List.setIfInBounds_toArray, List.set_cons_zero, List.set_cons_succ, List.getElem_toArray, List.getElem_cons_zero]
          refine wpAnyH_take (i := 3) (v := (.slice (some ⟨b, off, none⟩) xs.length c)) rfl (by kernel_rfl) (by kernel_rfl) (by kernel_rfl) (fun _ _ _ h => h) (Or.inl ⟨by rfl, fun w hw => by dsimp only at hw; go_simp⟩) hS ?_
          simp only [Act.put, List.setIfInBounds_toArray, List.set_cons_zero, List.set_cons_succ, List.getElem_toArray, List.getElem_cons_zero, List.getElem_cons_succ]
          refine wpAnyH_take (i := 4) (v := (.int .i64 k)) rfl (by kernel_rfl) (by kernel_rfl) (by kernel_rfl) (fun _ _ _ h => h) (Or.inl ⟨by rfl, fun w hw => by dsimp only at hw; go_simp⟩) hS ?_
          simp only [Act.put, List.setIfInBounds_toArray, List.set_cons_zero, List.set_cons_succ, List.getElem_toArray, List.getElem_cons_zero, List.getElem_cons_succ]
          refine wpAnyH_take (i := 5) (v := (.int .i64 (k + 1))) rfl (by kernel_rfl) (by kernel_rfl) (by kernel_rfl) (fun _ _ _ h => h) (Or.inl ⟨by rfl, fun w hw => by dsimp only at hw; go_simp⟩) hS ?_
          simp only [Act.put, List.setIfInBounds_toArray, List.set_cons_zero, List.set_cons_succ, List.getElem_toArray, List.getElem_cons_zero, List.getElem_cons_succ]
          refine wpAnyH_take (i := 6) (v := (.slice (some ⟨b, off, none⟩) (k + 1) c)) rfl (by kernel_rfl) (by kernel_rfl) (by kernel_rfl) (fun _ _ _ h => h) (Or.inl ⟨by rfl, fun w hw => by dsimp only at hw; go_simp⟩) hS ?_
          simp only [Act.put, List.setIfInBounds_toArray, List.set_cons_zero, List.set_cons_succ, List.getElem_toArray, List.getElem_cons_zero, List.getElem_cons_succ]
          refine wpAnyH_take (i := 7) (v := (.string S2)) rfl (by kernel_rfl) (by kernel_rfl) (by kernel_rfl) (fun _ _ _ h => h) (Or.inl ⟨by rfl, fun w hw => by dsimp only at hw; go_simp⟩) hS ?_
          simp only [Act.put, List.setIfInBounds_toArray, List.set_cons_zero, List.set_cons_succ, List.getElem_toArray, List.getElem_cons_zero, List.getElem_cons_succ]
          refine wpAnyH_ready (rs := [1]) (by kernel_rfl) (by simp) ?_
          refine AllReadyH.cons rfl (fun K hK => ?_) AllReadyH.nil
          go_simp
          refine HON.out.mono ?_
          rintro e w1 ⟨v1, rfl, ho1, hb1⟩
          obtain ⟨A1, c1, rfl, -, -, hs1⟩ := ho1.sl
          have hX1 := HSW.out.below hb1
          have hcv1 : ∀ j, (convert 30 9 (.slice A1 (enc (fold (unf z))).length c1)).run Tryz.prog (w1.drewN j) = .ok (.string S2) (w1.drewN j) := fun j => by
            have h := Sl.conv (hs1.drewN j) c1
            rwa [HS1E.out] at h
          refine hK.out _ _ (HC2.out w1 hX1) (fun hS => ?_)
          clear hK K hS hcv
          refine held_narrow (C := fun w' => ∃ j, w' = w1.drewN j) (by rintro _ ⟨j, rfl⟩; exact HC2.out _ (hX1.drewN j)) _ _ _ _ ?_
          have hS : ∃ j, w1 = w1.drewN j := ⟨0, rfl⟩
          simp only [List.setIfInBounds_toArray, List.set_cons_zero, List.set_cons_succ]
          refine wpAnyH_take (i := 2) (v := (.string S2)) rfl (by kernel_rfl) (by kernel_rfl) (by kernel_rfl) (fun _ _ _ h => h) (Or.inl ⟨by rfl, fun w hw => by obtain ⟨j, rfl⟩ := hw; go_simp⟩) hS ?_
          simp only [Act.put, List.setIfInBounds_toArray, List.set_cons_zero, List.set_cons_succ, List.getElem_toArray, List.getElem_cons_zero, List.getElem_cons_succ]
          refine wpAnyH_take (i := 8) (v := (.bool false)) rfl (by kernel_rfl) (by kernel_rfl) (by kernel_rfl) (fun _ _ _ h => h) (Or.inl ⟨by rfl, fun w hw => by obtain ⟨j, rfl⟩ := hw; go_simp⟩) hS ?_
          simp only [Act.put, List.setIfInBounds_toArray, List.set_cons_zero, List.set_cons_succ, List.getElem_toArray, List.getElem_cons_zero, List.getElem_cons_succ]
          refine wpAnyH_done (by kernel_rfl) ?_ _
          have HB1 := Lib.hid hb1
          clear hS hcv1 hX1 hs1 ho1 hb1
          have HE1 := Lib.hid (show OwnS 5 .u8 (w1.alloc (.cells #[] 5)) w1.heap.size (.slice (some ⟨w1.heap.size, 0, none⟩) 0 0) [] from own_empty 5 w1)
          have HBE := Lib.hid (show Below w1.heap.size w1 (w1.alloc (.cells #[] 5)) from (Below.refl _ _).alloc (Nat.le_refl _) _)
          have HSE := Lib.hid (show Sl .u8 (w1.alloc (.cells #[] 5)) w.heap.size A' (xs.drop (k + 1)) from (HTO.out.1 .u8 _ _ _ rfl (HSW.out.below HB1.out)).below (HBE.out.mono HB1.out.size))
          have hdl : (xs.drop (k + 1)).length = xs.length - (k + 1) := List.length_drop
          have HDL := Lib.hid hdl
          clear hdl
          go_wp2_with (at_builtin; refine wpList_append_sl _ rfl _ _ 30 rfl w1.heap.size 5 i0 (.int .u8 0) 1 Tryz.underlying30 HY.out.1 HY.out.2.1 HY.out.2.2.1 HY.out.2.2.2 rfl .u8 _ [] rfl HE1.out A' (c - (k + 1)) w.heap.size (xs.drop (k + 1)) (by rw [HDL.out]; rfl) HSE.out (fun h => absurd h HTO.out.2) (by rw [HDL.out]; simp; omega) (by decide) (by simp) ?_; intro v2 w2 ho2 hb2)
          go_ret3
          rw [List.nil_append] at ho2
          exact ⟨v2, rfl, ho2.less HB1.out.size, ((Below.refl _ w).drew.trans HB1.out).trans ((HBE.out.trans hb2).mono HB1.out.size)⟩
    · exfalso
      have h1 := HA.out.ends (by omega)
      have h2 := HF.out.1
      rw [h1] at h2
      injection h2 with _ h3
      exact HF.out.2 h3.symm
end Go.Proofs.YtfmmfaeognoleaaGreat.P
/-
  The reference's All, at this seat's translation.
-/
namespace Go.Proofs.YtfmmfaeognoleaaGreat.P
open Go.RowKit

def RAllAt (w : World) (xs : List Int) (b out : Value) (wr : World) : Prop :=
  ∃ (o ys : List Int) (A : Option Addr) (c : Nat), b = .slice A ys.length c ∧ ys.length ≤ c ∧ ys.length + o.length ≤ xs.length ∧ Byt ys ∧ Sl .u8 wr wr.heap.size A ys ∧ seq xs = o.map (fun n => (n, true)) ++ seq ys ∧ OwnS 3 .i64 wr w.heap.size out o ∧ Below w.heap.size w wr

def RAll (w : World) (xs : List Int) (e : Ending) (w' : World) : Prop :=
  ∃ v, e = .returned (.tuple #[v, .bool (flag (seq xs))]) ∧ OwnS 3 .i64 w' w.heap.size v (nums (seq xs)) ∧ Below w.heap.size w w'

theorem OwnS.reads {t : TypeId} {k : IntKind} {w : World} {base n c : Nat} {A : Option Addr} {xs : List Int} (h : OwnS t k w base (.slice A n c) xs) : Sl k w w.heap.size A xs := by
  obtain ⟨A', c', e, _, _, hs⟩ := h.sl
  injection e with e1
  subst e1
  exact hs
theorem own_apart {t1 t2 : TypeId} {k1 k2 : IntKind} {w : World} {b1 b2 : Nat} {v1 v2 : Value} {xs ys : List Int} (h1 : OwnS t1 k1 w b1 v1 xs) (h2 : OwnS t2 k2 w b2 v2 ys) (ht : t1 ≠ t2) : v1.ownBlock = none ∨ v1.ownBlock ≠ v2.ownBlock := by
  rcases h1.2 with ⟨rfl, _⟩ | ⟨g, cap, cur, rfl, _, hg, _⟩
  · exact .inl rfl
  · rcases h2.2 with ⟨rfl, _⟩ | ⟨g', cap', cur', rfl, _, hg', _⟩
    · exact .inr (by simp [Value.ownBlock])
    · refine .inr fun e => ?_
      obtain rfl : g = g' := by simpa [Value.ownBlock] using e
      rw [hg] at hg'
      injection hg' with hg'
      injection hg' with _ ht'
      exact ht ht'
theorem RAll.mk {w w' : World} {xs o : List Int} {v : Value} {f : Bool} (hf : flag (seq xs) = f) (hn : nums (seq xs) = o) (ho : OwnS 3 .i64 w' w.heap.size v o) (hb : Below w.heap.size w w') : RAll w xs (.returned (.tuple #[v, .bool f])) w' := by
  subst hf hn
  exact ⟨v, rfl, ho, hb⟩
theorem nums_app (a b : List (Int × Bool)) : nums (a ++ b) = nums a ++ nums b := by simp [nums]
theorem flag_app (a b : List (Int × Bool)) : flag (a ++ b) = (flag a || flag b) := by simp [flag]

set_option maxRecDepth 100000 in
set_option maxHeartbeats 2000000 in
theorem rall_any (A : Option Addr) (c : Nat) (xs : List Int) (w : World) (hs : Sl .u8 w w.heap.size A xs) (hb : Byt xs) (hc : xs.length ≤ c) (hm : xs.length ≤ 100000) :
    Calls Tryz.prog 19 #[.slice A xs.length c] w (RAll w xs) := by
  obtain ⟨i0, hi, hz0, hz1, hz2⟩ := info_parts Tryz.info3
  have HZ := Lib.hid (And.intro hi (And.intro hz0 (And.intro hz1 hz2)))
  clear hi hz0 hz1 hz2
  have HS := Lib.hid hs
  have HB := Lib.hid hb
  have HE := Lib.hid (own_empty 3 w)
  clear hs hb
  go_enter Tryz.func19, Tryz.ntmps19
  go_wp2_with fail
  go_loopw [0, 4] (fun b out wr => RAllAt w xs b out wr) (fun b _ _ => match b with | .slice _ n _ => n | _ => 0)
  case atStart =>
    have hB0 : Below w.heap.size w (w.alloc (.cells #[] 3)) := (Below.refl _ w).alloc (Nat.le_refl _) _
    exact ⟨[], xs, A, c, rfl, hc, by simp, HB.out, (HS.out.below hB0).more hB0.size, rfl, HE.out, hB0⟩
  case round =>
    obtain ⟨o, ys, A', c', rfl, hc', hlen, hby, hsl, hsq, ho, hb⟩ := hrel
    have HBy := Lib.hid hby
    have HSl := Lib.hid hsl
    have HQ := Lib.hid hsq
    have HO := Lib.hid ho
    have HBl := Lib.hid hb
    have hsz := hb.size
    clear hby hsl hsq ho hb
    by_cases hne : ys = []
    · subst hne
      go_wp2
      go_ret2
      exact RAll.mk (by rw [HQ.out, seq_nil, List.append_nil, flag_trues]) (by rw [HQ.out, seq_nil, List.append_nil, nums_trues]) HO.out HBl.out
    · have hpos : 0 < ys.length := List.length_pos_iff.2 hne
      have HNE := Lib.hid hne
      clear hne
      obtain ⟨x, s, hf⟩ : ∃ x s, first ys = (x, s) := ⟨_, _, rfl⟩
      by_cases hz : s = 0
      · subst hz
        have HT := Lib.hid (rtake_no A' c' ys wr HSl.out HBy.out hc' (by omega) (by rw [hf]))
        have HSB := Lib.hid (seq_bad HNE.out hf)
        clear hf
        go_wp2_with fail
        refine HT.out.mono ?_
        rintro e w1 ⟨rfl, hb1⟩
        have HB1 := Lib.hid hb1
        clear hb1
        go_wp2
        go_ret2
        exact RAll.mk (by rw [HQ.out, HSB.out, flag_app]; simp [flag]) (by rw [HQ.out, HSB.out, nums_app, nums_trues]; simp [nums]) (HO.out.keep HB1.out) (HBl.out.trans (HB1.out.mono hsz))
      · have HT := Lib.hid (rtake_yes A' c' ys wr HSl.out HBy.out hc' (by omega) x s hf hz)
        have HSG := Lib.hid (seq_good HBy.out hf hz)
        obtain ⟨-, -, -, hle, hs1, -⟩ := first_inv HBy.out hf hz
        clear hf hz
        go_wp2_with fail
        refine HT.out.mono ?_
        rintro e w1 ⟨v1, rfl, ho1, hb1⟩
        obtain ⟨A1, c1, rfl, hc1, -, hs1'⟩ := ho1.sl
        have hdl : (ys.drop s).length = ys.length - s := List.length_drop
        rw [hdl] at hc1
        have HDL := Lib.hid hdl
        have HS1 := Lib.hid ho1
        have HO1 := Lib.hid (HO.out.keep hb1)
        have HB1 := Lib.hid (HBl.out.trans (hb1.mono hsz))
        clear hb1 ho1 hs1' hdl HO HT
        go_wp2_with (at_builtin; refine wpList_append_own _ rfl _ _ 54 rfl w.heap.size 3 i0 (.int .i64 0) 1 8 Tryz.underlying54 HZ.out.1 HZ.out.2.1 HZ.out.2.2.1 HZ.out.2.2.2 rfl (by decide) _ _ _ rfl (HO1.out.row.alloc _) _ 1 1 [_] rfl rfl (cell_one_new _ _ _) (by simp [Value.oneCell']) (by unfold maxLen; omega) (by omega) (by have := HB1.out.size; simp; omega) ?_; intro v2 w2 hown' hgrow _)
        obtain ⟨ho', hb'⟩ := append_of HO1.out HB1.out.size hown' hgrow
        refine ⟨⟨o ++ [x], ys.drop s, A1, c1, by rw [HDL.out], by rw [HDL.out]; exact hc1, by rw [HDL.out]; simp; omega, HBy.out.drop s, ?_, ?_, ho', HB1.out.trans hb'⟩, by simp; omega⟩
        · exact OwnS.reads (base := wr.heap.size) ((HS1.out.row.alloc _).kept hgrow (own_apart HS1.out HO1.out (by decide)))
        · rw [HQ.out, HSG.out]; simp
end Go.Proofs.YtfmmfaeognoleaaGreat.P
/-
  '!=' of vertices, colours, instructions and triangles, and whether two lists of them are the same.
-/
namespace Go.Proofs.YtfmmfaeognoleaaGreat
open Go.RowKit
attribute [local go_sem ↓] Go.wp_at_zero Go.wp_at_succ

def sameV0 (u v : U.V) : Bool := (u.x == v.x) && (u.y == v.y) && (u.z == v.z) && (u.w == v.w) && (u.a == v.a) && (u.b == v.b) && (u.c == v.c) && (u.d == v.d)
theorem sameV_iff (u v : U.V) : sameV0 u v = true ↔ u = v := by
  constructor
  · intro h
    simp only [sameV0, Bool.and_eq_true, beq_iff_eq] at h
    obtain ⟨⟨⟨⟨⟨⟨⟨h0, h1⟩, h2⟩, h3⟩, h4⟩, h5⟩, h6⟩, h7⟩ := h
    cases u; cases v
    simp_all
  · rintro rfl; simp [sameV0]
set_option maxRecDepth 100000 in
theorem eqlAV (w : World) (x4 x5 x6 x7 y4 y5 y6 y7 : Int) : (Op.equalIn 9999 72 (.agg #[.int .i64 x4, .int .i64 x5, .int .i64 x6, .int .i64 x7]) (.agg #[.int .i64 y4, .int .i64 y5, .int .i64 y6, .int .i64 y7])).run Tryz.prog w = .ok ([x4, x5, x6, x7] == [y4, y5, y6, y7]) w :=
  U.run_equalIn_ints (P := Tryz.prog) w 9997 72 3 4 Tryz.underlying72 Tryz.underlying3 Tryz.sizeOf3 [x4, x5, x6, x7] [y4, y5, y6, y7] rfl rfl
set_option maxRecDepth 100000 in
theorem eqlV0 (w : World) (x0 x1 x2 x3 x4 x5 x6 x7 y0 y1 y2 y3 y4 y5 y6 y7 : Int) : (binOp .eql 74 (.agg #[.int .i64 x0, .int .i64 x1, .int .i64 x2, .int .i64 x3, .int .i64 x4, .int .i64 x5, .int .i64 x6, .int .i64 x7]) (.agg #[.int .i64 y0, .int .i64 y1, .int .i64 y2, .int .i64 y3, .int .i64 y4, .int .i64 y5, .int .i64 y6, .int .i64 y7])).run Tryz.prog w = .ok (.bool (sameV0 ⟨x0, x1, x2, x3, x4, x5, x6, x7⟩ ⟨y0, y1, y2, y3, y4, y5, y6, y7⟩)) w := by
  have u3 := Tryz.underlying3
  have u5 := Tryz.underlying5
  unfold sameV0
  have hS : Tryz.prog.underlying 74 = some (.struct (Tryz.prog.fieldsOf 74)) := by kernel_rfl
  have hp : Tryz.prog.stoodInHeld 74 = false := by kernel_rfl
  have hA := eqlAV w
  rw [run_eql_struct, show (10000 : Nat) = 9999 + 1 from rfl, run_equalIn_agg w 9999 74 _ _ hS hp]
  simp only [Program.fieldsOf, Tryz.underlying74]
  go_simp
  · by_cases h0 : x0 = y0
    · by_cases h1 : x1 = y1
      · by_cases h2 : x2 = y2
        · by_cases h3 : x3 = y3
          · by_cases h4 : x4 = y4
            · by_cases h5 : x5 = y5
              · by_cases h6 : x6 = y6
                · by_cases h7 : x7 = y7 <;> simp [h0, h1, h2, h3, h4, h5, h6, h7]
                · simp [h0, h1, h2, h3, h4, h5, h6]
              · simp [h0, h1, h2, h3, h4, h5]
            · simp [h0, h1, h2, h3, h4]
          · simp [h0, h1, h2, h3]
        · simp [h0, h1, h2]
      · simp [h0, h1]
    · simp [h0]
theorem neqV0 (w : World) (x0 x1 x2 x3 x4 x5 x6 x7 y0 y1 y2 y3 y4 y5 y6 y7 : Int) : (binOp .neq 74 (.agg #[.int .i64 x0, .int .i64 x1, .int .i64 x2, .int .i64 x3, .int .i64 x4, .int .i64 x5, .int .i64 x6, .int .i64 x7]) (.agg #[.int .i64 y0, .int .i64 y1, .int .i64 y2, .int .i64 y3, .int .i64 y4, .int .i64 y5, .int .i64 y6, .int .i64 y7])).run Tryz.prog w = .ok (.bool (!sameV0 ⟨x0, x1, x2, x3, x4, x5, x6, x7⟩ ⟨y0, y1, y2, y3, y4, y5, y6, y7⟩)) w := by
  have h := eqlV0 w x0 x1 x2 x3 x4 x5 x6 x7 y0 y1 y2 y3 y4 y5 y6 y7
  rw [run_eql_struct] at h
  rw [run_neq_struct]
  generalize (Op.equalIn 10000 74 _ _).run Tryz.prog w = r at h ⊢
  cases r with
  | ok b w' =>
    simp only [Result.andThen_ok, Result.ok.injEq, Value.bool.injEq] at h
    obtain ⟨rfl, rfl⟩ := h
    rfl
  | _ => cases h
set_option maxRecDepth 100000 in
theorem guardV0 : Tryz.prog.eqGuardType Tryz.prog.depth 74 = false := by kernel_rfl
def sameC0 (u v : Col) : Bool := (u.r == v.r) && (u.g == v.g) && (u.b == v.b) && (u.a == v.a)
theorem sameC_iff (u v : Col) : sameC0 u v = true ↔ u = v := by
  constructor
  · intro h
    simp only [sameC0, Bool.and_eq_true, beq_iff_eq] at h
    obtain ⟨⟨⟨h0, h1⟩, h2⟩, h3⟩ := h
    cases u; cases v
    simp_all
  · rintro rfl; simp [sameC0]
set_option maxRecDepth 100000 in
theorem eqlC0 (w : World) (x0 x1 x2 x3 y0 y1 y2 y3 : Int) : (binOp .eql 23 (.agg #[.int .u8 x0, .int .u8 x1, .int .u8 x2, .int .u8 x3]) (.agg #[.int .u8 y0, .int .u8 y1, .int .u8 y2, .int .u8 y3])).run Tryz.prog w = .ok (.bool (sameC0 ⟨x0, x1, x2, x3⟩ ⟨y0, y1, y2, y3⟩)) w := by
  have u3 := Tryz.underlying3
  have u5 := Tryz.underlying5
  unfold sameC0
  have hS : Tryz.prog.underlying 23 = some (.struct (Tryz.prog.fieldsOf 23)) := by kernel_rfl
  have hp : Tryz.prog.stoodInHeld 23 = false := by kernel_rfl
  rw [run_eql_struct, show (10000 : Nat) = 9999 + 1 from rfl, run_equalIn_agg w 9999 23 _ _ hS hp]
  simp only [Program.fieldsOf, Tryz.underlying23]
  go_simp
  · by_cases h0 : x0 = y0
    · by_cases h1 : x1 = y1
      · by_cases h2 : x2 = y2
        · by_cases h3 : x3 = y3 <;> simp [h0, h1, h2, h3]
        · simp [h0, h1, h2]
      · simp [h0, h1]
    · simp [h0]
theorem neqC0 (w : World) (x0 x1 x2 x3 y0 y1 y2 y3 : Int) : (binOp .neq 23 (.agg #[.int .u8 x0, .int .u8 x1, .int .u8 x2, .int .u8 x3]) (.agg #[.int .u8 y0, .int .u8 y1, .int .u8 y2, .int .u8 y3])).run Tryz.prog w = .ok (.bool (!sameC0 ⟨x0, x1, x2, x3⟩ ⟨y0, y1, y2, y3⟩)) w := by
  have h := eqlC0 w x0 x1 x2 x3 y0 y1 y2 y3
  rw [run_eql_struct] at h
  rw [run_neq_struct]
  generalize (Op.equalIn 10000 23 _ _).run Tryz.prog w = r at h ⊢
  cases r with
  | ok b w' =>
    simp only [Result.andThen_ok, Result.ok.injEq, Value.bool.injEq] at h
    obtain ⟨rfl, rfl⟩ := h
    rfl
  | _ => cases h
set_option maxRecDepth 100000 in
theorem guardC0 : Tryz.prog.eqGuardType Tryz.prog.depth 23 = false := by kernel_rfl
def sameI0 (u v : C.In) : Bool := (u.o == v.o) && (u.d == v.d) && (u.a == v.a) && (u.b == v.b) && (u.n == v.n)
theorem sameI_iff (u v : C.In) : sameI0 u v = true ↔ u = v := by
  constructor
  · intro h
    simp only [sameI0, Bool.and_eq_true, beq_iff_eq] at h
    obtain ⟨⟨⟨⟨h0, h1⟩, h2⟩, h3⟩, h4⟩ := h
    cases u; cases v
    simp_all
  · rintro rfl; simp [sameI0]
set_option maxRecDepth 100000 in
theorem eqlI0 (w : World) (x0 x1 x2 x3 x4 y0 y1 y2 y3 y4 : Int) : (binOp .eql 76 (.agg #[.int .u8 x0, .int .u8 x1, .int .u8 x2, .int .u8 x3, .int .i64 x4]) (.agg #[.int .u8 y0, .int .u8 y1, .int .u8 y2, .int .u8 y3, .int .i64 y4])).run Tryz.prog w = .ok (.bool (sameI0 ⟨x0, x1, x2, x3, x4⟩ ⟨y0, y1, y2, y3, y4⟩)) w := by
  have u3 := Tryz.underlying3
  have u5 := Tryz.underlying5
  unfold sameI0
  have hS : Tryz.prog.underlying 76 = some (.struct (Tryz.prog.fieldsOf 76)) := by kernel_rfl
  have hp : Tryz.prog.stoodInHeld 76 = false := by kernel_rfl
  rw [run_eql_struct, show (10000 : Nat) = 9999 + 1 from rfl, run_equalIn_agg w 9999 76 _ _ hS hp]
  simp only [Program.fieldsOf, Tryz.underlying76]
  go_simp
  · by_cases h0 : x0 = y0
    · by_cases h1 : x1 = y1
      · by_cases h2 : x2 = y2
        · by_cases h3 : x3 = y3
          · by_cases h4 : x4 = y4 <;> simp [h0, h1, h2, h3, h4]
          · simp [h0, h1, h2, h3]
        · simp [h0, h1, h2]
      · simp [h0, h1]
    · simp [h0]
theorem neqI0 (w : World) (x0 x1 x2 x3 x4 y0 y1 y2 y3 y4 : Int) : (binOp .neq 76 (.agg #[.int .u8 x0, .int .u8 x1, .int .u8 x2, .int .u8 x3, .int .i64 x4]) (.agg #[.int .u8 y0, .int .u8 y1, .int .u8 y2, .int .u8 y3, .int .i64 y4])).run Tryz.prog w = .ok (.bool (!sameI0 ⟨x0, x1, x2, x3, x4⟩ ⟨y0, y1, y2, y3, y4⟩)) w := by
  have h := eqlI0 w x0 x1 x2 x3 x4 y0 y1 y2 y3 y4
  rw [run_eql_struct] at h
  rw [run_neq_struct]
  generalize (Op.equalIn 10000 76 _ _).run Tryz.prog w = r at h ⊢
  cases r with
  | ok b w' =>
    simp only [Result.andThen_ok, Result.ok.injEq, Value.bool.injEq] at h
    obtain ⟨rfl, rfl⟩ := h
    rfl
  | _ => cases h
set_option maxRecDepth 100000 in
theorem guardI0 : Tryz.prog.eqGuardType Tryz.prog.depth 76 = false := by kernel_rfl
def sameR0 (u v : Tr) : Bool := (u.i == v.i) && (u.a == v.a) && (u.b == v.b) && (u.c == v.c)
theorem sameR_iff (u v : Tr) : sameR0 u v = true ↔ u = v := by
  constructor
  · intro h
    simp only [sameR0, Bool.and_eq_true, beq_iff_eq] at h
    obtain ⟨⟨⟨h0, h1⟩, h2⟩, h3⟩ := h
    cases u; cases v
    simp_all
  · rintro rfl; simp [sameR0]
set_option maxRecDepth 100000 in
theorem eqlAR (w : World) (x1 x2 x3 y1 y2 y3 : Int) : (Op.equalIn 9999 84 (.agg #[.int .i64 x1, .int .i64 x2, .int .i64 x3]) (.agg #[.int .i64 y1, .int .i64 y2, .int .i64 y3])).run Tryz.prog w = .ok ([x1, x2, x3] == [y1, y2, y3]) w :=
  U.run_equalIn_ints (P := Tryz.prog) w 9997 84 3 3 Tryz.underlying84 Tryz.underlying3 Tryz.sizeOf3 [x1, x2, x3] [y1, y2, y3] rfl rfl
set_option maxRecDepth 100000 in
theorem eqlR0 (w : World) (x0 x1 x2 x3 y0 y1 y2 y3 : Int) : (binOp .eql 86 (.agg #[.int .i64 x0, .int .i64 x1, .int .i64 x2, .int .i64 x3]) (.agg #[.int .i64 y0, .int .i64 y1, .int .i64 y2, .int .i64 y3])).run Tryz.prog w = .ok (.bool (sameR0 ⟨x0, x1, x2, x3⟩ ⟨y0, y1, y2, y3⟩)) w := by
  have u3 := Tryz.underlying3
  have u5 := Tryz.underlying5
  unfold sameR0
  have hS : Tryz.prog.underlying 86 = some (.struct (Tryz.prog.fieldsOf 86)) := by kernel_rfl
  have hp : Tryz.prog.stoodInHeld 86 = false := by kernel_rfl
  have hA := eqlAR w
  rw [run_eql_struct, show (10000 : Nat) = 9999 + 1 from rfl, run_equalIn_agg w 9999 86 _ _ hS hp]
  simp only [Program.fieldsOf, Tryz.underlying86]
  go_simp
  · by_cases h0 : x0 = y0
    · by_cases h1 : x1 = y1
      · by_cases h2 : x2 = y2
        · by_cases h3 : x3 = y3 <;> simp [h0, h1, h2, h3]
        · simp [h0, h1, h2]
      · simp [h0, h1]
    · simp [h0]
theorem neqR0 (w : World) (x0 x1 x2 x3 y0 y1 y2 y3 : Int) : (binOp .neq 86 (.agg #[.int .i64 x0, .int .i64 x1, .int .i64 x2, .int .i64 x3]) (.agg #[.int .i64 y0, .int .i64 y1, .int .i64 y2, .int .i64 y3])).run Tryz.prog w = .ok (.bool (!sameR0 ⟨x0, x1, x2, x3⟩ ⟨y0, y1, y2, y3⟩)) w := by
  have h := eqlR0 w x0 x1 x2 x3 y0 y1 y2 y3
  rw [run_eql_struct] at h
  rw [run_neq_struct]
  generalize (Op.equalIn 10000 86 _ _).run Tryz.prog w = r at h ⊢
  cases r with
  | ok b w' =>
    simp only [Result.andThen_ok, Result.ok.injEq, Value.bool.injEq] at h
    obtain ⟨rfl, rfl⟩ := h
    rfl
  | _ => cases h
set_option maxRecDepth 100000 in
theorem guardR0 : Tryz.prog.eqGuardType Tryz.prog.depth 86 = false := by kernel_rfl
attribute [local go_sem high] neqV0
attribute [local go_sem] guardV0
set_option maxRecDepth 100000 in
set_option maxHeartbeats 2000000 in
theorem sameV_any (A A' : Option Addr) (c c' : Nat) (xs ys : List (U.V)) (w : World) (hs : Es EV w w.heap.size A xs) (hs' : Es EV w w.heap.size A' ys) (hl : xs.length ≤ 100000) (b : Bool) (hb : b = true ↔ xs = ys) :
    Calls Tryz.prog 21 #[.slice A xs.length c, .slice A' ys.length c'] w fun e w' => e = .returned (.bool b) ∧ Below w.heap.size w w' := by
  have HS := Lib.hid hs
  have HS' := Lib.hid hs'
  have HB := Lib.hid hb
  clear hs hs' hb
  generalize hn : xs.length = n at *
  generalize hn' : ys.length = n' at *
  have HN := Lib.hid hn
  have HN' := Lib.hid hn'
  clear hn hn'
  by_cases hnn : n = n'
  · subst hnn
    go_enter Tryz.func21, Tryz.ntmps21
    go_wp2_with fail
    go_loopw [5] (fun i wr => ∃ k : Nat, k ≤ n ∧ i = .int .i64 k ∧ xs.take k = ys.take k ∧ Below w.heap.size w wr) (fun i _ => n - (intOf i).toNat)
    case atStart => exact ⟨0, Nat.zero_le _, rfl, by simp, Below.refl _ _⟩
    case round =>
      obtain ⟨k, hk, rfl, hin, hbel⟩ := hrel
      have HK := Lib.hid hin
      have HBE := Lib.hid hbel
      clear hin hbel
      by_cases hlt : k < n
      · obtain ⟨u, hu⟩ := get_lt (l := xs) (k := k) (by rw [HN.out]; exact hlt)
        obtain ⟨t, ht⟩ := get_lt (l := ys) (k := k) (by rw [HN'.out]; exact hlt)
        obtain ⟨b1, off, rfl, hbB, hat⟩ := HS.out.at hu
        obtain ⟨b2, off', rfl, hbB', hat'⟩ := HS'.out.at ht
        have HU := Lib.hid hu
        have HT := Lib.hid ht
        obtain ⟨e0, e1, e2, e3, e4, e5, e6, e7⟩ := atV (show AtE EV wr b1 (off + k * 8) u from hat.below HBE.out hbB)
        obtain ⟨f0, f1, f2, f3, f4, f5, f6, f7⟩ := atV (show AtE EV wr b2 (off' + k * 8) t from hat'.below HBE.out hbB')
        have hbw := Nat.lt_of_lt_of_le hbB HBE.out.size
        have hbw' := Nat.lt_of_lt_of_le hbB' HBE.out.size
        clear hu ht hat hat'
        go_wp2_with fail
        go_region
        go_wp2_with fail
        · rename_i hne
          go_ret
          refine ⟨?_, HBE.out.drew⟩
          have h1 : xs ≠ ys := fun e => by
            have h2 := HU.out
            rw [e, HT.out] at h2
            have h3 : t = u := by simpa using h2
            subst h3
            rw [(sameV_iff _ _).2 rfl] at hne
            cases hne
          cases b
          · rfl
          · exact absurd (HB.out.1 rfl) h1
        · rename_i heq
          go_roundw
          case rel =>
            refine ⟨k + 1, by omega, by go_num, ?_, HBE.out.drew⟩
            have h3 : u = t := by
              cases hq : sameV0 u t
              · rw [hq] at heq; exact absurd heq (by decide)
              · exact (sameV_iff _ _).1 hq
            rw [List.take_add_one, List.take_add_one, HU.out, HT.out, HK.out, h3]
          case measure => simp [intOf]; omega
      · go_wp2_with fail
        go_ret
        refine ⟨?_, HBE.out⟩
        have e : xs.take k = xs := List.take_of_length_le (by rw [HN.out]; omega)
        have e' : ys.take k = ys := List.take_of_length_le (by rw [HN'.out]; omega)
        have h := HK.out
        rw [e, e'] at h
        rw [HB.out.2 h]
        rfl
  · have e : b = false := by
      cases b
      · rfl
      · exact absurd (by rw [← HN.out, ← HN'.out, HB.out.1 rfl]) hnn
    subst e
    have hnn2 : ¬ (n : Int) = n' := by omega
    go_enter Tryz.func21, Tryz.ntmps21
    go_wp2_with fail
    go_ret
    exact ⟨rfl, Below.refl _ _⟩
attribute [local go_sem high] neqC0
attribute [local go_sem] guardC0
set_option maxRecDepth 100000 in
set_option maxHeartbeats 2000000 in
theorem sameC_any (A A' : Option Addr) (c c' : Nat) (xs ys : List (Col)) (w : World) (hs : Es EC w w.heap.size A xs) (hs' : Es EC w w.heap.size A' ys) (hl : xs.length ≤ 100000) (b : Bool) (hb : b = true ↔ xs = ys) :
    Calls Tryz.prog 23 #[.slice A xs.length c, .slice A' ys.length c'] w fun e w' => e = .returned (.bool b) ∧ Below w.heap.size w w' := by
  have HS := Lib.hid hs
  have HS' := Lib.hid hs'
  have HB := Lib.hid hb
  clear hs hs' hb
  generalize hn : xs.length = n at *
  generalize hn' : ys.length = n' at *
  have HN := Lib.hid hn
  have HN' := Lib.hid hn'
  clear hn hn'
  by_cases hnn : n = n'
  · subst hnn
    go_enter Tryz.func23, Tryz.ntmps23
    go_wp2_with fail
    go_loopw [5] (fun i wr => ∃ k : Nat, k ≤ n ∧ i = .int .i64 k ∧ xs.take k = ys.take k ∧ Below w.heap.size w wr) (fun i _ => n - (intOf i).toNat)
    case atStart => exact ⟨0, Nat.zero_le _, rfl, by simp, Below.refl _ _⟩
    case round =>
      obtain ⟨k, hk, rfl, hin, hbel⟩ := hrel
      have HK := Lib.hid hin
      have HBE := Lib.hid hbel
      clear hin hbel
      by_cases hlt : k < n
      · obtain ⟨u, hu⟩ := get_lt (l := xs) (k := k) (by rw [HN.out]; exact hlt)
        obtain ⟨t, ht⟩ := get_lt (l := ys) (k := k) (by rw [HN'.out]; exact hlt)
        obtain ⟨b1, off, rfl, hbB, hat⟩ := HS.out.at hu
        obtain ⟨b2, off', rfl, hbB', hat'⟩ := HS'.out.at ht
        have HU := Lib.hid hu
        have HT := Lib.hid ht
        obtain ⟨e0, e1, e2, e3⟩ := atC (show AtE EC wr b1 (off + k * 4) u from hat.below HBE.out hbB)
        obtain ⟨f0, f1, f2, f3⟩ := atC (show AtE EC wr b2 (off' + k * 4) t from hat'.below HBE.out hbB')
        have hbw := Nat.lt_of_lt_of_le hbB HBE.out.size
        have hbw' := Nat.lt_of_lt_of_le hbB' HBE.out.size
        clear hu ht hat hat'
        go_wp2_with fail
        go_region
        go_wp2_with fail
        · rename_i hne
          go_ret
          refine ⟨?_, HBE.out.drew⟩
          have h1 : xs ≠ ys := fun e => by
            have h2 := HU.out
            rw [e, HT.out] at h2
            have h3 : t = u := by simpa using h2
            subst h3
            rw [(sameC_iff _ _).2 rfl] at hne
            cases hne
          cases b
          · rfl
          · exact absurd (HB.out.1 rfl) h1
        · rename_i heq
          go_roundw
          case rel =>
            refine ⟨k + 1, by omega, by go_num, ?_, HBE.out.drew⟩
            have h3 : u = t := by
              cases hq : sameC0 u t
              · rw [hq] at heq; exact absurd heq (by decide)
              · exact (sameC_iff _ _).1 hq
            rw [List.take_add_one, List.take_add_one, HU.out, HT.out, HK.out, h3]
          case measure => simp [intOf]; omega
      · go_wp2_with fail
        go_ret
        refine ⟨?_, HBE.out⟩
        have e : xs.take k = xs := List.take_of_length_le (by rw [HN.out]; omega)
        have e' : ys.take k = ys := List.take_of_length_le (by rw [HN'.out]; omega)
        have h := HK.out
        rw [e, e'] at h
        rw [HB.out.2 h]
        rfl
  · have e : b = false := by
      cases b
      · rfl
      · exact absurd (by rw [← HN.out, ← HN'.out, HB.out.1 rfl]) hnn
    subst e
    have hnn2 : ¬ (n : Int) = n' := by omega
    go_enter Tryz.func23, Tryz.ntmps23
    go_wp2_with fail
    go_ret
    exact ⟨rfl, Below.refl _ _⟩
attribute [local go_sem high] neqI0
attribute [local go_sem] guardI0
set_option maxRecDepth 100000 in
set_option maxHeartbeats 2000000 in
theorem sameI_any (A A' : Option Addr) (c c' : Nat) (xs ys : List (C.In)) (w : World) (hs : Es C.EI w w.heap.size A xs) (hs' : Es C.EI w w.heap.size A' ys) (hl : xs.length ≤ 100000) (b : Bool) (hb : b = true ↔ xs = ys) :
    Calls Tryz.prog 24 #[.slice A xs.length c, .slice A' ys.length c'] w fun e w' => e = .returned (.bool b) ∧ Below w.heap.size w w' := by
  have HS := Lib.hid hs
  have HS' := Lib.hid hs'
  have HB := Lib.hid hb
  clear hs hs' hb
  generalize hn : xs.length = n at *
  generalize hn' : ys.length = n' at *
  have HN := Lib.hid hn
  have HN' := Lib.hid hn'
  clear hn hn'
  by_cases hnn : n = n'
  · subst hnn
    go_enter Tryz.func24, Tryz.ntmps24
    go_wp2_with fail
    go_loopw [5] (fun i wr => ∃ k : Nat, k ≤ n ∧ i = .int .i64 k ∧ xs.take k = ys.take k ∧ Below w.heap.size w wr) (fun i _ => n - (intOf i).toNat)
    case atStart => exact ⟨0, Nat.zero_le _, rfl, by simp, Below.refl _ _⟩
    case round =>
      obtain ⟨k, hk, rfl, hin, hbel⟩ := hrel
      have HK := Lib.hid hin
      have HBE := Lib.hid hbel
      clear hin hbel
      by_cases hlt : k < n
      · obtain ⟨u, hu⟩ := get_lt (l := xs) (k := k) (by rw [HN.out]; exact hlt)
        obtain ⟨t, ht⟩ := get_lt (l := ys) (k := k) (by rw [HN'.out]; exact hlt)
        obtain ⟨b1, off, rfl, hbB, hat⟩ := HS.out.at hu
        obtain ⟨b2, off', rfl, hbB', hat'⟩ := HS'.out.at ht
        have HU := Lib.hid hu
        have HT := Lib.hid ht
        obtain ⟨e0, e1, e2, e3, e4⟩ := C.atI (show AtE C.EI wr b1 (off + k * 5) u from hat.below HBE.out hbB)
        obtain ⟨f0, f1, f2, f3, f4⟩ := C.atI (show AtE C.EI wr b2 (off' + k * 5) t from hat'.below HBE.out hbB')
        have hbw := Nat.lt_of_lt_of_le hbB HBE.out.size
        have hbw' := Nat.lt_of_lt_of_le hbB' HBE.out.size
        clear hu ht hat hat'
        go_wp2_with fail
        go_region
        go_wp2_with fail
        · rename_i hne
          go_ret
          refine ⟨?_, HBE.out.drew⟩
          have h1 : xs ≠ ys := fun e => by
            have h2 := HU.out
            rw [e, HT.out] at h2
            have h3 : t = u := by simpa using h2
            subst h3
            rw [(sameI_iff _ _).2 rfl] at hne
            cases hne
          cases b
          · rfl
          · exact absurd (HB.out.1 rfl) h1
        · rename_i heq
          go_roundw
          case rel =>
            refine ⟨k + 1, by omega, by go_num, ?_, HBE.out.drew⟩
            have h3 : u = t := by
              cases hq : sameI0 u t
              · rw [hq] at heq; exact absurd heq (by decide)
              · exact (sameI_iff _ _).1 hq
            rw [List.take_add_one, List.take_add_one, HU.out, HT.out, HK.out, h3]
          case measure => simp [intOf]; omega
      · go_wp2_with fail
        go_ret
        refine ⟨?_, HBE.out⟩
        have e : xs.take k = xs := List.take_of_length_le (by rw [HN.out]; omega)
        have e' : ys.take k = ys := List.take_of_length_le (by rw [HN'.out]; omega)
        have h := HK.out
        rw [e, e'] at h
        rw [HB.out.2 h]
        rfl
  · have e : b = false := by
      cases b
      · rfl
      · exact absurd (by rw [← HN.out, ← HN'.out, HB.out.1 rfl]) hnn
    subst e
    have hnn2 : ¬ (n : Int) = n' := by omega
    go_enter Tryz.func24, Tryz.ntmps24
    go_wp2_with fail
    go_ret
    exact ⟨rfl, Below.refl _ _⟩
end Go.Proofs.YtfmmfaeognoleaaGreat
/-
  Whether two rows of draws are the same (glazierref14.draws).
-/
namespace Go.Proofs.YtfmmfaeognoleaaGreat
open Go.RowKit
attribute [local go_sem ↓] Go.wp_at_zero Go.wp_at_succ
attribute [local go_sem high] neqR0
attribute [local go_sem] guardR0

theorem below_drw {B : Nat} {w w' : World} (h : Below B w w') : Below B w w'.drew := h.drew
/-- The first of five that differs, or none. -/
theorem five_ways (a b c d e : Bool) : (a = false ∧ b = false ∧ c = false ∧ d = false ∧ e = false) ∨ a = true ∨ (a = false ∧ b = true) ∨ (a = false ∧ b = false ∧ c = true) ∨ (a = false ∧ b = false ∧ c = false ∧ d = true) ∨ (a = false ∧ b = false ∧ c = false ∧ d = false ∧ e = true) := by
  cases a <;> cases b <;> cases c <;> cases d <;> cases e <;> simp
set_option maxRecDepth 100000 in
set_option maxHeartbeats 4000000 in
theorem draws_any (A A' : Option Addr) (c c' : Nat) (xs ys : List (Lo Dr)) (w : World) (hs : Es ED w w.heap.size A xs) (hs' : Es ED w w.heap.size A' ys) (hx : ∀ l ∈ xs, Es ER w w.heap.size l.A l.x.tris) (hy : ∀ l ∈ ys, Es ER w w.heap.size l.A l.x.tris)
    (hl : xs.length ≤ 100000) (hlx : ∀ l ∈ xs, l.x.tris.length ≤ 100000) (b : Bool) (hb : b = true ↔ xs.map Lo.x = ys.map Lo.x) :
    Calls Tryz.prog 22 #[.slice A xs.length c, .slice A' ys.length c'] w fun e w' => e = .returned (.bool b) ∧ Below w.heap.size w w' := by
  have HS := Lib.hid hs
  have HS' := Lib.hid hs'
  have HX := Lib.hid hx
  have HY := Lib.hid hy
  have HLX := Lib.hid hlx
  have HB := Lib.hid hb
  clear hs hs' hb hx hy hlx
  generalize hn : xs.length = n at *
  generalize hn' : ys.length = n' at *
  have HN := Lib.hid hn
  have HN' := Lib.hid hn'
  clear hn hn'
  by_cases hnn : n = n'
  · subst hnn
    go_enter Tryz.func22, Tryz.ntmps22
    go_wp2_with fail
    go_loopw [5] (fun i wr => ∃ k : Nat, k ≤ n ∧ i = .int .i64 k ∧ (xs.take k).map Lo.x = (ys.take k).map Lo.x ∧ Below w.heap.size w wr) (fun i _ => n - (intOf i).toNat)
    case atStart => exact ⟨0, Nat.zero_le _, rfl, by simp, Below.refl _ _⟩
    case round =>
      obtain ⟨k, hk, rfl, hin, hbel⟩ := hrel
      have HK := Lib.hid hin
      have HBE := Lib.hid hbel
      clear hin hbel
      by_cases hlt : k < n
      · obtain ⟨u, hu⟩ := get_lt (l := xs) (k := k) (by rw [HN.out]; exact hlt)
        obtain ⟨t, ht⟩ := get_lt (l := ys) (k := k) (by rw [HN'.out]; exact hlt)
        obtain ⟨b1, off, rfl, hbB, hat⟩ := HS.out.at hu
        obtain ⟨b2, off', rfl, hbB', hat'⟩ := HS'.out.at ht
        have HU := Lib.hid hu
        have HT := Lib.hid ht
        have HEU := Lib.hid (HX.out u (List.mem_of_getElem? hu))
        have HET := Lib.hid (HY.out t (List.mem_of_getElem? ht))
        have hul := HLX.out u (List.mem_of_getElem? hu)
        obtain ⟨e0, e1, e2, e3, e4⟩ := atD (show AtE ED wr b1 (off + k * 5) u from hat.below HBE.out hbB)
        obtain ⟨f0, f1, f2, f3, f4⟩ := atD (show AtE ED wr b2 (off' + k * 5) t from hat'.below HBE.out hbB')
        have HAU := Lib.hid hat
        have HAT := Lib.hid hat'
        have hbw := Nat.lt_of_lt_of_le hbB HBE.out.size
        have hbw' := Nat.lt_of_lt_of_le hbB' HBE.out.size
        clear hu ht hat hat'
        have hne : ∀ {α : Type} [BEq α] [LawfulBEq α] {a b : α}, (a != b) = true → a ≠ b := fun h e => by subst e; simp at h
        have HBAD := Lib.hid (show u.x ≠ t.x → b = false from fun h => by
          cases b
          · rfl
          · have h2 := HB.out.1 rfl
            have h3 : (xs.map Lo.x)[k]? = (ys.map Lo.x)[k]? := by rw [h2]
            rw [List.getElem?_map, List.getElem?_map, HU.out, HT.out] at h3
            exact absurd (by simpa using h3) h)
        have y0 : ∀ x : Grow wr, x.w.cell? ⟨b1, off + k * 5, none⟩ = some (.int .i64 u.x.id) := fun x => x.cell e0
        have y1 : ∀ x : Grow wr, x.w.cell? ⟨b1, off + k * 5 + 1, none⟩ = some (.int .i64 u.x.prog) := fun x => x.cell e1
        have y2 : ∀ x : Grow wr, x.w.cell? ⟨b1, off + k * 5 + 2, none⟩ = some (.int .i64 u.x.tex) := fun x => x.cell e2
        have y3 : ∀ x : Grow wr, x.w.cell? ⟨b1, off + k * 5 + 3, none⟩ = some (.bool u.x.op) := fun x => x.cell e3
        have y4 : ∀ x : Grow wr, x.w.cell? ⟨b1, off + k * 5 + 4, none⟩ = some (.slice u.A u.x.tris.length u.c) := fun x => x.cell e4
        have z0 : ∀ x : Grow wr, x.w.cell? ⟨b2, off' + k * 5, none⟩ = some (.int .i64 t.x.id) := fun x => x.cell f0
        have z1 : ∀ x : Grow wr, x.w.cell? ⟨b2, off' + k * 5 + 1, none⟩ = some (.int .i64 t.x.prog) := fun x => x.cell f1
        have z2 : ∀ x : Grow wr, x.w.cell? ⟨b2, off' + k * 5 + 2, none⟩ = some (.int .i64 t.x.tex) := fun x => x.cell f2
        have z3 : ∀ x : Grow wr, x.w.cell? ⟨b2, off' + k * 5 + 3, none⟩ = some (.bool t.x.op) := fun x => x.cell f3
        have z4 : ∀ x : Grow wr, x.w.cell? ⟨b2, off' + k * 5 + 4, none⟩ = some (.slice t.A t.x.tris.length t.c) := fun x => x.cell f4
        have hszu : ∀ x : Grow wr, b1 < x.w.heap.size := fun x => Nat.lt_of_lt_of_le hbw x.below.size
        have hszt : ∀ x : Grow wr, b2 < x.w.heap.size := fun x => Nat.lt_of_lt_of_le hbw' x.below.size
        have ne1 := Grow.ne wr
        rcases five_ways (u.x.id != t.x.id) (u.x.prog != t.x.prog) (u.x.tex != t.x.tex) (u.x.op != t.x.op) ((u.x.tris.length : Int) != t.x.tris.length) with ⟨w0, w1, w2, w3, w4⟩ | w0 | ⟨w0, w1⟩ | ⟨w0, w1, w2⟩ | ⟨w0, w1, w2, w3⟩ | ⟨w0, w1, w2, w3, w4⟩
        rotate_left
        · obtain rfl := HBAD.out fun e => hne w0 (by rw [e])
          clear hne HBAD
          go_wp2_with fail
          refine wp_region_grow (by kernel_rfl) (by kernel_rfl) ?_
          try simp only [List.append_eq, List.cons_append, List.nil_append]
          repeat (first | go_big_quiet_skip | go_big_quiet_step (fail))
          refine wpQuiet_nil ?_
          rintro _ ⟨z, rfl⟩
          have B7 := Lib.hid (bstep HBE.out HBE.out.size z.below)
          generalize z.w = Y at *
          clear z
          go_wp2_with fail
          go_ret
          exact ⟨rfl, B7.out⟩
        · obtain rfl := HBAD.out fun e => hne w1 (by rw [e])
          clear hne HBAD
          go_wp2_with fail
          refine wp_region_grow (by kernel_rfl) (by kernel_rfl) ?_
          try simp only [List.append_eq, List.cons_append, List.nil_append]
          repeat (first | go_big_quiet_skip | go_big_quiet_step (fail))
          refine wpQuiet_nil ?_
          rintro _ ⟨z, rfl⟩
          have B7 := Lib.hid (bstep HBE.out HBE.out.size z.below)
          generalize z.w = Y at *
          clear z
          go_wp2_with fail
          go_ret
          exact ⟨rfl, B7.out⟩
        · obtain rfl := HBAD.out fun e => hne w2 (by rw [e])
          clear hne HBAD
          go_wp2_with fail
          refine wp_region_grow (by kernel_rfl) (by kernel_rfl) ?_
          try simp only [List.append_eq, List.cons_append, List.nil_append]
          repeat (first | go_big_quiet_skip | go_big_quiet_step (fail))
          refine wpQuiet_nil ?_
          rintro _ ⟨z, rfl⟩
          have B7 := Lib.hid (bstep HBE.out HBE.out.size z.below)
          generalize z.w = Y at *
          clear z
          go_wp2_with fail
          go_ret
          exact ⟨rfl, B7.out⟩
        · obtain rfl := HBAD.out fun e => hne w3 (by rw [e])
          have hop : u.x.op ≠ t.x.op := hne w3
          clear hne HBAD w3
          obtain ⟨o1, ho1⟩ : ∃ o, u.x.op = o := ⟨_, rfl⟩
          obtain ⟨o2, ho2⟩ : ∃ o, t.x.op = o := ⟨_, rfl⟩
          rw [ho1] at y3 hop
          rw [ho2] at z3 hop
          clear ho1 ho2 e3 f3
          go_wp2_with fail
          cases o1 <;> cases o2
          all_goals first
            | exact absurd rfl hop
            | skip
          all_goals
            clear hop
            refine wp_region_grow (by kernel_rfl) (by kernel_rfl) ?_
            try simp only [List.append_eq, List.cons_append, List.nil_append]
            repeat (first | go_big_quiet_skip | go_big_quiet_step (fail))
            refine wpQuiet_nil ?_
            rintro _ ⟨z, rfl⟩
            have B7 := Lib.hid (bstep HBE.out HBE.out.size z.below)
            generalize z.w = Y at *
            clear z
            go_wp2_with fail
            go_ret
            exact ⟨rfl, B7.out⟩
        · obtain rfl := HBAD.out fun e => hne w4 (by rw [e])
          have hop : u.x.op = t.x.op := by simpa using w3
          clear hne HBAD w3
          obtain ⟨o2, ho2⟩ : ∃ o, t.x.op = o := ⟨_, rfl⟩
          rw [hop, ho2] at y3
          rw [ho2] at z3
          clear ho2 e3 f3 hop
          cases o2
          all_goals
            go_wp2_with fail
            refine wp_region_grow (by kernel_rfl) (by kernel_rfl) ?_
            try simp only [List.append_eq, List.cons_append, List.nil_append]
            repeat (first | go_big_quiet_skip | go_big_quiet_step (fail))
            refine wpQuiet_nil ?_
            rintro _ ⟨z, rfl⟩
            have B7 := Lib.hid (bstep HBE.out HBE.out.size z.below)
            generalize z.w = Y at *
            clear z
            go_wp2_with fail
            go_ret
            exact ⟨rfl, B7.out⟩
        · have v0 : u.x.id = t.x.id := by simpa using w0
          have v1 : u.x.prog = t.x.prog := by simpa using w1
          have v2 : u.x.tex = t.x.tex := by simpa using w2
          have v3 : u.x.op = t.x.op := by simpa using w3
          have v4 : u.x.tris.length = t.x.tris.length := by
            have h5 : (u.x.tris.length : Int) = t.x.tris.length := by simpa using w4
            omega
          have HV := Lib.hid (show u.x.tris = t.x.tris → u.x = t.x from fun h => by
            obtain ⟨⟨a1, a2, a3, a4, a5⟩, _, _⟩ := u
            obtain ⟨⟨d1, d2, d3, d4, d5⟩, _, _⟩ := t
            simp only at v0 v1 v2 v3 h ⊢
            rw [v0, v1, v2, v3, h])
          go_wp2_with fail
          obtain ⟨o2, ho2⟩ : ∃ o, t.x.op = o := ⟨_, rfl⟩
          rw [v3, ho2] at y3
          rw [ho2] at z3
          clear v0 v1 v2 v3 hne ho2 e3 f3 w3
          refine wp_region_grow (by kernel_rfl) (by kernel_rfl) ?_
          try simp only [List.append_eq, List.cons_append, List.nil_append]
          repeat (first | go_big_quiet_skip | go_big_quiet_step (fail))
          refine wpQuiet_nil ?_
          rintro _ ⟨z, rfl⟩
          have B7 := Lib.hid (bstep HBE.out HBE.out.size z.below)
          generalize z.w = Y at *
          clear z y0 y1 y2 y3 y4 z0 z1 z2 z3 z4 hszu hszt ne1 w0 w1 w2 e0 e1 e2 e4 f0 f1 f2 f4 hbw hbw'
          obtain ⟨m, hm⟩ : ∃ m, u.x.tris.length = m := ⟨_, rfl⟩
          have HMu := Lib.hid hm
          have HMt := Lib.hid (v4.symm.trans hm)
          rw [hm] at hul
          clear hm w4 v4
          go_wp2_with fail
          go_loopw [6] (fun i wr => ∃ j : Nat, j ≤ m ∧ i = .int .i64 j ∧ u.x.tris.take j = t.x.tris.take j ∧ Below w.heap.size w wr) (fun i _ => m - (intOf i).toNat)
          case atStart => exact ⟨0, Nat.zero_le _, rfl, by simp, B7.out⟩
          case round =>
            rename World => wq
            obtain ⟨j, hj, rfl, hin2, hbel2⟩ := hrel
            have HK2 := Lib.hid hin2
            have HB2 := Lib.hid hbel2
            clear hin2 hbel2
            obtain ⟨-, -, -, -, e4⟩ := atD (show AtE ED wq b1 (off + k * 5) u from HAU.out.below HB2.out hbB)
            obtain ⟨-, -, -, -, f4⟩ := atD (show AtE ED wq b2 (off' + k * 5) t from HAT.out.below HB2.out hbB')
            rw [HMu.out] at e4
            rw [HMt.out] at f4
            have hbw := Nat.lt_of_lt_of_le hbB HB2.out.size
            have hbw' := Nat.lt_of_lt_of_le hbB' HB2.out.size
            by_cases hjm : j < m
            · obtain ⟨p, hp⟩ := get_lt (l := u.x.tris) (k := j) (by rw [HMu.out]; exact hjm)
              obtain ⟨q, hq⟩ := get_lt (l := t.x.tris) (k := j) (by rw [HMt.out]; exact hjm)
              obtain ⟨b3, off3, hA3, hb3, at3⟩ := HEU.out.at hp
              obtain ⟨b4, off4, hA4, hb4, at4⟩ := HET.out.at hq
              have HP := Lib.hid hp
              have HQ := Lib.hid hq
              rw [hA3] at e4
              rw [hA4] at f4
              obtain ⟨p0, p1, p2, p3⟩ := atR (show AtE ER wq b3 (off3 + j * 4) p from at3.below HB2.out hb3)
              obtain ⟨q0, q1, q2, q3⟩ := atR (show AtE ER wq b4 (off4 + j * 4) q from at4.below HB2.out hb4)
              have g4 : ∀ x : Grow wq, x.w.cell? ⟨b1, off + k * 5 + 4, none⟩ = some (.slice (some ⟨b3, off3, none⟩) m u.c) := fun x => x.cell e4
              have i4 : ∀ x : Grow wq, x.w.cell? ⟨b2, off' + k * 5 + 4, none⟩ = some (.slice (some ⟨b4, off4, none⟩) m t.c) := fun x => x.cell f4
              have g5 : ∀ x : Grow wq, x.w.cell? ⟨b3, off3 + j * 4, none⟩ = some (.int .i64 p.i) := fun x => x.cell p0
              have g6 : ∀ x : Grow wq, x.w.cell? ⟨b3, off3 + j * 4 + 1, none⟩ = some (.int .i64 p.a) := fun x => x.cell p1
              have g7 : ∀ x : Grow wq, x.w.cell? ⟨b3, off3 + j * 4 + 2, none⟩ = some (.int .i64 p.b) := fun x => x.cell p2
              have g8 : ∀ x : Grow wq, x.w.cell? ⟨b3, off3 + j * 4 + 3, none⟩ = some (.int .i64 p.c) := fun x => x.cell p3
              have i5 : ∀ x : Grow wq, x.w.cell? ⟨b4, off4 + j * 4, none⟩ = some (.int .i64 q.i) := fun x => x.cell q0
              have i6 : ∀ x : Grow wq, x.w.cell? ⟨b4, off4 + j * 4 + 1, none⟩ = some (.int .i64 q.a) := fun x => x.cell q1
              have i7 : ∀ x : Grow wq, x.w.cell? ⟨b4, off4 + j * 4 + 2, none⟩ = some (.int .i64 q.b) := fun x => x.cell q2
              have i8 : ∀ x : Grow wq, x.w.cell? ⟨b4, off4 + j * 4 + 3, none⟩ = some (.int .i64 q.c) := fun x => x.cell q3
              have hbw3 := Nat.lt_of_lt_of_le hb3 HB2.out.size
              have hbw4 := Nat.lt_of_lt_of_le hb4 HB2.out.size
              have s1 : ∀ x : Grow wq, b1 < x.w.heap.size := fun x => Nat.lt_of_lt_of_le hbw x.below.size
              have s2 : ∀ x : Grow wq, b2 < x.w.heap.size := fun x => Nat.lt_of_lt_of_le hbw' x.below.size
              have s3 : ∀ x : Grow wq, b3 < x.w.heap.size := fun x => Nat.lt_of_lt_of_le hbw3 x.below.size
              have s4 : ∀ x : Grow wq, b4 < x.w.heap.size := fun x => Nat.lt_of_lt_of_le hbw4 x.below.size
              have ne2 := Grow.ne wq
              obtain ⟨r, hr⟩ : ∃ r, sameR0 ⟨p.i, p.a, p.b, p.c⟩ ⟨q.i, q.a, q.b, q.c⟩ = r := ⟨_, rfl⟩
              have HR := Lib.hid (show sameR0 p q = r from hr)
              clear hp hq at3 at4
              go_wp2_with fail
              refine wp_region_grow (by kernel_rfl) (by kernel_rfl) ?_
              try simp only [List.append_eq, List.cons_append, List.nil_append]
              repeat (first | go_big_quiet_skip | go_big_quiet_step (fail))
              refine wpQuiet_nil ?_
              rintro _ ⟨z, rfl⟩
              have B8 := Lib.hid (bstep HB2.out HB2.out.size z.below)
              generalize z.w = Y2 at *
              clear z g4 i4 g5 g6 g7 g8 i5 i6 i7 i8 s1 s2 s3 s4 ne2 e4 f4 p0 p1 p2 p3 q0 q1 q2 q3
              cases r
              · have hpq : p ≠ q := fun e => by
                  have h5 := HR.out
                  rw [e, (sameR_iff q q).2 rfl] at h5
                  cases h5
                obtain rfl := HBAD.out fun e => hpq (by
                  have h5 := HP.out
                  rw [e, HQ.out] at h5
                  simpa using h5.symm)
                go_wp2_with fail
                go_ret
                exact ⟨rfl, B8.out⟩
              · go_wp2_with fail
                go_roundw
                case rel =>
                  refine ⟨j + 1, by omega, by go_num, ?_, B8.out⟩
                  rw [List.take_add_one, List.take_add_one, HP.out, HQ.out, HK2.out, (sameR_iff p q).1 HR.out]
                case measure => simp [intOf]; omega
            · obtain rfl : j = m := by omega
              have HEq := Lib.hid (show u.x = t.x from HV.out (by
                have h5 := HK2.out
                rwa [List.take_of_length_le (by rw [HMu.out]; omega), List.take_of_length_le (by rw [HMt.out]; omega)] at h5))
              go_wp2_with fail
              go_roundw
              case rel =>
                refine ⟨k + 1, by omega, by go_num, ?_, HB2.out⟩
                rw [take_snoc HU.out, take_snoc HT.out, List.map_append, List.map_append, HK.out, List.map_cons, List.map_cons, HEq.out]
              case measure => simp [intOf]; omega
      · go_wp2_with fail
        go_ret
        refine ⟨?_, HBE.out⟩
        have e : xs.take k = xs := List.take_of_length_le (by rw [HN.out]; omega)
        have e' : ys.take k = ys := List.take_of_length_le (by rw [HN'.out]; omega)
        have h := HK.out
        rw [e, e'] at h
        rw [HB.out.2 h]
        rfl
  · have e : b = false := by
      cases b
      · rfl
      · have h2 := congrArg List.length (HB.out.1 rfl)
        rw [List.length_map, List.length_map, HN.out, HN'.out] at h2
        exact absurd h2 hnn
    subst e
    have hnn2 : ¬ (n : Int) = n' := by omega
    go_enter Tryz.func22, Tryz.ntmps22
    go_wp2_with fail
    go_ret
    exact ⟨rfl, Below.refl _ _⟩
end Go.Proofs.YtfmmfaeognoleaaGreat
