/-
  How many different numbers a list has (pure), and the contracts of scene.twice, at both types that it is called at: a set that never leaves the call.
-/
import Derived.Test.YtnpcmoeleigpoaaAlls
import Derived.Maps.OwnSet
namespace Go.Proofs.Ytnpcmoeleigpoaa
open Go.RowKit Go.Maps Go.WideMaps
attribute [local go_sem ↓] Go.wp_at_zero Go.wp_at_succ

def addI (l : List Int) (x : Int) : List Int := if l.contains x then l else l ++ [x]
/-- How many different ones. -/
def dis (l : List Int) : Nat := (l.foldl addI []).length
/-- Some number stands twice. -/
def twiceB (l : List Int) : Bool := decide (dis l < l.length)
theorem fold_no : ∀ (l L : List Int), (L ++ l).Nodup → l.foldl addI L = L ++ l
  | [], L, _ => by simp
  | x :: l, L, h => by
    have hx : L.contains x = false := by
      rw [List.contains_eq_mem]
      simp only [decide_eq_false_iff_not]
      intro hm
      rw [List.nodup_append] at h
      exact (h.2.2 x hm x (by simp)) rfl
    rw [List.foldl_cons, addI, hx, if_neg (by simp), fold_no l (L ++ [x]) (by simpa using h)]
    simp
theorem fold_nodup : ∀ (l L : List Int), L.Nodup → (l.foldl addI L).Nodup
  | [], L, h => h
  | x :: l, L, h => by
    rw [List.foldl_cons]
    refine fold_nodup l _ ?_
    unfold addI
    split
    · exact h
    · rename_i hx
      rw [List.nodup_append]
      refine ⟨h, by simp, fun a ha b hb e => ?_⟩
      simp only [List.mem_singleton] at hb
      subst hb e
      exact hx (by rw [List.contains_eq_mem]; simpa using ha)
theorem fold_mem : ∀ (l L : List Int) (a : Int), a ∈ l.foldl addI L ↔ a ∈ L ∨ a ∈ l
  | [], L, a => by simp
  | x :: l, L, a => by
    rw [List.foldl_cons, fold_mem l, List.mem_cons]
    unfold addI
    split
    · rename_i hx
      rw [List.contains_eq_mem] at hx
      constructor
      · rintro (h | h)
        · exact .inl h
        · exact .inr (.inr h)
      · rintro (h | rfl | h)
        · exact .inl h
        · exact .inl (by simpa using hx)
        · exact .inr h
    · rw [List.mem_append, List.mem_singleton, or_assoc]
theorem fold_le : ∀ (l L : List Int), (l.foldl addI L).length ≤ L.length + l.length
  | [], L => by simp
  | x :: l, L => by
    have h := fold_le l (addI L x)
    rw [List.foldl_cons]
    have : (addI L x).length ≤ L.length + 1 := by unfold addI; split <;> simp
    rw [List.length_cons]
    omega
theorem dis_nodup {l : List Int} (h : l.Nodup) : dis l = l.length := by
  unfold dis
  rw [fold_no l [] (by simpa using h)]
  rfl
theorem nodup_of_dis : ∀ (l : List Int), dis l = l.length → l.Nodup
  | l, h => by
    have h2 : ∀ (l L : List Int), L.Nodup → (l.foldl addI L).length = L.length + l.length → (L ++ l).Nodup := by
      intro l
      induction l with
      | nil => intro L hL _; simpa using hL
      | cons x l ih =>
        intro L hL hl
        rw [List.foldl_cons, List.length_cons] at hl
        have hb := fold_le l (addI L x)
        by_cases hx : L.contains x = true
        · have : addI L x = L := by unfold addI; rw [if_pos hx]
          rw [this] at hb hl
          omega
        · have e : addI L x = L ++ [x] := by unfold addI; rw [if_neg hx]
          rw [e] at hl
          have hn : (L ++ [x]).Nodup := by
            rw [List.nodup_append]
            refine ⟨hL, by simp, fun a ha y hy e2 => ?_⟩
            simp only [List.mem_singleton] at hy
            subst hy e2
            exact hx (by rw [List.contains_eq_mem]; simpa using ha)
          have := ih (L ++ [x]) hn (by rw [hl]; simp; omega)
          simpa using this
    have := h2 l [] (by simp) (by unfold dis at h; simpa using h)
    simpa using this
theorem twiceB_no {l : List Int} : twiceB l = false ↔ l.Nodup := by
  unfold twiceB
  constructor
  · intro h
    have := fold_le l []
    simp only [List.length_nil, Nat.zero_add] at this
    refine nodup_of_dis l ?_
    unfold dis at h ⊢
    simp only [decide_eq_false_iff_not] at h
    omega
  · intro h
    rw [dis_nodup h]
    simp
theorem any_int (x : Int) : ∀ l : List Int, (l.map (Lit.int .i64)).any (fun y : Lit => y.sameKey (.int .i64 x)) = l.contains x
  | [] => rfl
  | a :: r => by
    rw [List.map_cons, List.any_cons, List.contains_cons, any_int x r]
    congr 1
    show decide (IntKind.i64 = IntKind.i64 ∧ a = x) = (x == a)
    by_cases e : a = x
    · subst e
      simp
    · have e' : ¬ x = a := fun h => e h.symm
      simp [e, e']
theorem fold_lits : ∀ (l L : List Int), (l.map (Lit.int .i64)).foldl addKey (L.map (Lit.int .i64)) = (l.foldl addI L).map (Lit.int .i64)
  | [], L => rfl
  | x :: l, L => by
    rw [List.map_cons, List.foldl_cons, List.foldl_cons, ← fold_lits l]
    congr 1
    unfold addKey addI
    rw [any_int]
    split <;> simp
/-- The set of the first j numbers. -/
def Dn (l : List Int) (j : Nat) : DataW Unit := setOf (.agg []) ((l.take j).map (Lit.int .i64))
theorem Dn_zero (l : List Int) : Dn l 0 = .map [] := by simp [Dn, setOf]
theorem Dn_succ {l : List Int} {j : Nat} {x : Int} (h : l[j]? = some x) : Dn l (j + 1) = (Dn l j).put (.int .i64 x) (.agg []) := by
  unfold Dn
  rw [List.take_add_one, List.map_append, h]
  exact setOf_snoc _ _ _
theorem Dn_size (l : List Int) : Maps.size (Dn l l.length) = dis l := by
  unfold Dn dis
  rw [List.take_length, size_setOf _ _ (fun y hy => by obtain ⟨_, _, rfl⟩ := List.mem_map.1 hy; trivial)]
  have := fold_lits l []
  simp only [List.map_nil] at this
  rw [this, List.length_map]
theorem law3 : Keyed Try.prog 3 := int_keyed Try.underlying3
theorem key3 {n : Int} (h : I64 n) : keyOf Try.prog 3 (.int .i64 n) = some (.int .i64 n) := keyOf_int_mk Try.underlying3 (WalkArith.wf_i64 (by unfold I64 at h; omega))
theorem owns_below {w w' : World} {b n : Nat} {D : DataW Unit} (h : w.ownsMap Try.prog 3 unitElem b n D) (hb : Below w.heap.size w w') : w'.ownsMap Try.prog 3 unitElem b n D := by
  have hlt := h.lt
  obtain ⟨es, clock, hh, F, hs, hD⟩ := h
  exact ⟨es, clock, (hb.block b hlt).trans hh, F, hs, hD⟩

set_option maxRecDepth 100000 in
set_option maxHeartbeats 2000000 in
theorem twice50_any (l : List (Lo Dr)) (A : Option Addr) (c : Nat) (hl : l.length ≤ 1000) (hok : ∀ x ∈ l, I64 (x.x.id)) (w : World) (he : Es ED w w.heap.size A l) :
    Calls Try.prog 50 #[.slice A l.length c, .func (.func 51) #[] #[]] w fun e w' => e = .returned (.bool (twiceB (l.map (fun x => x.x.id)))) ∧ Below w.heap.size w w' := by
  have hmm := @run_makeMap Try.prog
  have hB : twiceB (l.map (fun x => x.x.id)) = decide (Maps.size (Dn (l.map (fun x => x.x.id)) l.length) < l.length) := by
    have := Dn_size (l.map (fun x => x.x.id))
    rw [List.length_map] at this
    rw [this]
    unfold twiceB
    rw [List.length_map]
  rw [hB]
  clear hB
  have HL := Lib.hid (fun (k : Nat) (h : k < l.length) => get_lt h)
  have HS := Lib.hid (fun (k : Nat) (u : Lo Dr) (h : l[k]? = some u) => Dn_succ (l := l.map (fun x => x.x.id)) (j := k) (x := u.x.id) (by rw [List.getElem?_map, h]; rfl))
  have hz := Dn_zero (l.map (fun x => x.x.id))
  have HO := Lib.hid (fun x (h : x ∈ l) => key3 (hok x h))
  obtain ⟨n, hn⟩ : ∃ n, l.length = n := ⟨_, rfl⟩
  rw [hn] at HL hl ⊢
  replace hn := Lib.hid hn
  have HE := Lib.hid he
  generalize Dn (l.map (fun x => x.x.id)) = D at *
  replace hz := Lib.hid hz
  clear he hok
  go_enter Try.func50, Try.ntmps50
  go_wp2_with fail
  go_loopw [11] (fun i wr => ∃ j : Nat, j ≤ n ∧ i = .int .i64 j ∧ wr.ownsMap Try.prog 3 unitElem w.heap.size j (D j) ∧ Below w.heap.size w wr) (fun i _ => n - (intOf i).toNat)
  case atStart => exact ⟨0, Nat.zero_le _, rfl, by rw [hz.out]; exact World.ownsMap_made _ _ _ _, (Below.refl _ _).alloc (Nat.le_refl _) _⟩
  case round =>
    obtain ⟨j, hk, rfl, hown, hb⟩ := hrel
    have HB := Lib.hid hb
    have HM := Lib.hid hown
    clear hb hown
    by_cases hlt : j < n
    · obtain ⟨u, hu⟩ := HL.out j hlt
      obtain ⟨b, off, rfl, hbB, hat⟩ := HE.out.at hu
      have hc := atD (show AtE ED wr b (off + j * 5) u from hat.below HB.out hbB)
      obtain ⟨c0, c1, c2, c3, c4⟩ := hc
      have hbw := Nat.lt_of_lt_of_le hbB HB.out.size
      have hkey := HO.out u (List.mem_of_getElem? hu)
      have hs := HS.out j u hu
      replace hs := Lib.hid hs
      clear hat hu
      go_wp2_with fail
      have B2 := Lib.hid (bstep HB.out HB.out.size (new_below wr (.cells #[.int .i64 u.x.id, .int .i64 u.x.prog, .int .i64 u.x.tex, .bool u.x.op, .slice u.A u.x.tris.length u.c] 42)))
      have M2 := Lib.hid (HM.out.alloc (.cells #[.int .i64 u.x.id, .int .i64 u.x.prog, .int .i64 u.x.tex, .bool u.x.op, .slice u.A u.x.tris.length u.c] 42))
      with_reducible refine (drawId_any u _).mono ?_
      rintro e w2 ⟨rfl, hb2⟩
      have B3 := Lib.hid (bstep B2.out B2.out.size hb2)
      have M3 := Lib.hid (owns_below M2.out hb2)
      clear hb2 B2 M2 HM c0 c1 c2 c3 c4
      have hlt2 : j < maxLen := by unfold maxLen; omega
      go_wp2_with (at_mapUpdate; refine wpList_mapUpdate_own _ rfl _ _ _ 103 rfl 3 104 law3 Try.underlying103 (unitElem (H := Unit)) w.heap.size j _ rfl M3.out hlt2 _ _ _ rfl rfl hkey _ [] unitElem_mk ?_; intro w3 hown3 hgrow3)
      have M4 := Lib.hid hown3
      have B4 := Lib.hid (B3.out.grown hgrow3 B3.out.size (fun k hk => by cases hk; exact Nat.le_refl _))
      clear hown3 hgrow3
      go_roundw
      case rel => exact ⟨j + 1, by omega, by go_num, hs.out.symm ▸ M4.out, B4.out⟩
      case measure => simp [intOf]; omega
    · obtain rfl : j = n := by omega
      have hsz := HM.out.size_le
      have hd : decide ((Maps.size (D j) : Int) < j) = decide (Maps.size (D j) < j) := by
        by_cases h : Maps.size (D j) < j
        · have : (Maps.size (D j) : Int) < j := by omega
          simp [h, this]
        · have : ¬ (Maps.size (D j) : Int) < j := by omega
          simp [h, this]
      have hm := HM.out
      have hrun := hm.len Try.underlying103 3
      go_wp2_with fail
      go_ret
      exact ⟨rfl, HB.out⟩

set_option maxRecDepth 100000 in
set_option maxHeartbeats 2000000 in
theorem twice52_any (l : List (Tr)) (A : Option Addr) (c : Nat) (hl : l.length ≤ 1000) (hok : ∀ x ∈ l, I64 (x.i)) (w : World) (he : Es ER w w.heap.size A l) :
    Calls Try.prog 52 #[.slice A l.length c, .func (.func 53) #[] #[]] w fun e w' => e = .returned (.bool (twiceB (l.map (fun x => x.i)))) ∧ Below w.heap.size w w' := by
  have hmm := @run_makeMap Try.prog
  have hB : twiceB (l.map (fun x => x.i)) = decide (Maps.size (Dn (l.map (fun x => x.i)) l.length) < l.length) := by
    have := Dn_size (l.map (fun x => x.i))
    rw [List.length_map] at this
    rw [this]
    unfold twiceB
    rw [List.length_map]
  rw [hB]
  clear hB
  have HL := Lib.hid (fun (k : Nat) (h : k < l.length) => get_lt h)
  have HS := Lib.hid (fun (k : Nat) (u : Tr) (h : l[k]? = some u) => Dn_succ (l := l.map (fun x => x.i)) (j := k) (x := u.i) (by rw [List.getElem?_map, h]; rfl))
  have hz := Dn_zero (l.map (fun x => x.i))
  have HO := Lib.hid (fun x (h : x ∈ l) => key3 (hok x h))
  obtain ⟨n, hn⟩ : ∃ n, l.length = n := ⟨_, rfl⟩
  rw [hn] at HL hl ⊢
  replace hn := Lib.hid hn
  have HE := Lib.hid he
  generalize Dn (l.map (fun x => x.i)) = D at *
  replace hz := Lib.hid hz
  clear he hok
  go_enter Try.func52, Try.ntmps52
  go_wp2_with fail
  go_loopw [11] (fun i wr => ∃ j : Nat, j ≤ n ∧ i = .int .i64 j ∧ wr.ownsMap Try.prog 3 unitElem w.heap.size j (D j) ∧ Below w.heap.size w wr) (fun i _ => n - (intOf i).toNat)
  case atStart => exact ⟨0, Nat.zero_le _, rfl, by rw [hz.out]; exact World.ownsMap_made _ _ _ _, (Below.refl _ _).alloc (Nat.le_refl _) _⟩
  case round =>
    obtain ⟨j, hk, rfl, hown, hb⟩ := hrel
    have HB := Lib.hid hb
    have HM := Lib.hid hown
    clear hb hown
    by_cases hlt : j < n
    · obtain ⟨u, hu⟩ := HL.out j hlt
      obtain ⟨b, off, rfl, hbB, hat⟩ := HE.out.at hu
      have hc := atR (show AtE ER wr b (off + j * 4) u from hat.below HB.out hbB)
      obtain ⟨c0, c1, c2, c3⟩ := hc
      have hbw := Nat.lt_of_lt_of_le hbB HB.out.size
      have hkey := HO.out u (List.mem_of_getElem? hu)
      have hs := HS.out j u hu
      replace hs := Lib.hid hs
      clear hat hu
      go_wp2_with fail
      have B2 := Lib.hid (bstep HB.out HB.out.size (new_below wr (.cells #[.int .i64 u.i, .int .i64 u.a, .int .i64 u.b, .int .i64 u.c] 47)))
      have M2 := Lib.hid (HM.out.alloc (.cells #[.int .i64 u.i, .int .i64 u.a, .int .i64 u.b, .int .i64 u.c] 47))
      with_reducible refine (triId_any u _).mono ?_
      rintro e w2 ⟨rfl, hb2⟩
      have B3 := Lib.hid (bstep B2.out B2.out.size hb2)
      have M3 := Lib.hid (owns_below M2.out hb2)
      clear hb2 B2 M2 HM c0 c1 c2 c3
      have hlt2 : j < maxLen := by unfold maxLen; omega
      go_wp2_with (at_mapUpdate; refine wpList_mapUpdate_own _ rfl _ _ _ 103 rfl 3 104 law3 Try.underlying103 (unitElem (H := Unit)) w.heap.size j _ rfl M3.out hlt2 _ _ _ rfl rfl hkey _ [] unitElem_mk ?_; intro w3 hown3 hgrow3)
      have M4 := Lib.hid hown3
      have B4 := Lib.hid (B3.out.grown hgrow3 B3.out.size (fun k hk => by cases hk; exact Nat.le_refl _))
      clear hown3 hgrow3
      go_roundw
      case rel => exact ⟨j + 1, by omega, by go_num, hs.out.symm ▸ M4.out, B4.out⟩
      case measure => simp [intOf]; omega
    · obtain rfl : j = n := by omega
      have hsz := HM.out.size_le
      have hd : decide ((Maps.size (D j) : Int) < j) = decide (Maps.size (D j) < j) := by
        by_cases h : Maps.size (D j) < j
        · have : (Maps.size (D j) : Int) < j := by omega
          simp [h, this]
        · have : ¬ (Maps.size (D j) : Int) < j := by omega
          simp [h, this]
      have hm := HM.out
      have hrun := hm.len Try.underlying103 3
      go_wp2_with fail
      go_ret
      exact ⟨rfl, HB.out⟩
end Go.Proofs.Ytnpcmoeleigpoaa
