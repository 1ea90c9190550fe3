/-
  few, short, bytes.Clone, wire.Take, glazierref03.Same, wire.All, glazierlaw03.shown, at this seat's translation.
-/
import Derived.Test.YtopncdeafbpenaaPutW
import Derived.Laws.BytesArg
import Derived.Deep.Draws
namespace Go.Proofs.Ytopncdeafbpenaa
open Go.RowKit

section
variable {k : IntKind} {w w' : World} {B B' : Nat} {A : Option Addr} {xs : List Int}
theorem Sl.none_ : Sl k w B A [] := fun h => absurd rfl h
theorem Sl.take (h : Sl k w B A xs) (n : Nat) : Sl k w B A (xs.take n) := fun hne => by
  obtain ⟨b, off, e, hb, hc⟩ := h (by rintro rfl; simp at hne)
  refine ⟨b, off, e, hb, fun j hj => ?_⟩
  simp only [List.length_take] at hj
  rw [hc j (by omega), List.getD_eq_getElem?_getD, List.getD_eq_getElem?_getD, List.getElem?_take_of_lt (by omega)]
theorem Sl.below (h : Sl k w B A xs) (hb : Below B w w') : Sl k w' B A xs := fun hne => by
  obtain ⟨b, off, e, hbB, hc⟩ := h hne
  exact ⟨b, off, e, hbB, fun j hj => (hb.cell (p := ⟨b, off + j, none⟩) hbB).trans (hc j hj)⟩
theorem Sl.more (h : Sl k w B A xs) (hB : B ≤ B') : Sl k w B' A xs := fun hne => by
  obtain ⟨b, off, e, hbB, hc⟩ := h hne
  exact ⟨b, off, e, by omega, hc⟩
theorem Sl.drewN (h : Sl k w B A xs) (n : Nat) : Sl k (w.drewN n) B A xs := h
theorem Sl.cut (h : Sl k w B A xs) {n c : Nat} (hc : xs.length ≤ c) : Sl k w B (if c = n then A else A.map fun x => x.add n) (xs.drop n) := fun hne => by
  have hl : n < xs.length := by
    rcases Nat.lt_or_ge n xs.length with h | h
    · exact h
    · exact absurd (List.drop_eq_nil_of_le h) hne
  obtain ⟨b, off, rfl, hb, hcell⟩ := h (by rintro rfl; simp at hl)
  rw [if_neg (by omega)]
  refine ⟨b, off + n, by simp [Addr.add_lit], hb, fun j hj => ?_⟩
  rw [List.length_drop] at hj
  rw [Nat.add_assoc, hcell (n + j) (by omega), List.getD_eq_getElem?_getD, List.getD_eq_getElem?_getD, List.getElem?_drop]
end

theorem Sl.conv {w : World} {B : Nat} {A : Option Addr} {xs : List Int} (h : Sl .u8 w B A xs) (c : Nat) :
    (convert 23 9 (.slice A xs.length c)).run Try.prog w = .ok (.string (strOfNums xs)) w := by
  by_cases hne : xs = []
  · subst hne
    show (convert 23 9 (.slice A 0 c)).run Try.prog w = .ok (.string ByteArray.empty) w
    rw [run_convert_bytes_string w 23 9 5 _ 0 c Try.underlying23 Try.underlying5 Try.underlying9]
    cases A <;> simp [Conv.bytesToString, loadCells]
    all_goals rfl
  · obtain ⟨b, off, rfl, _, hc⟩ := h hne
    exact run_convert_bytes_arg w 23 5 Try.underlying23 Try.underlying5 b off xs.length c xs rfl hc 9 Try.underlying9

theorem few_any (A : Option Addr) (c : Nat) (l : List Int) (w : World) (hc : l.length ≤ c) (hm : c ≤ 9223372036854775807) :
    Calls Try.prog 10 #[.slice A l.length c] w fun e w' => e = .returned (.slice A (l.take 40).length c) ∧ w = w' := by
  by_cases h : 40 < l.length
  · have e : (l.take 40).length = 40 := by simp; omega
    rw [e]
    clear e
    go_enter Try.func10, Try.ntmps10
    go_wp2
    go_ret
    exact ⟨rfl, rfl⟩
  · have e : (l.take 40).length = l.length := by simp; omega
    rw [e]
    clear e
    go_enter Try.func10, Try.ntmps10
    go_wp2
    go_ret
    exact ⟨rfl, rfl⟩

theorem short_any (A : Option Addr) (c : Nat) (l : List Int) (w : World) (hc : l.length ≤ c) (hm : c ≤ 9223372036854775807) :
    Calls Try.prog 11 #[.slice A l.length c] w fun e w' => e = .returned (.slice A (l.take 200).length c) ∧ w = w' := by
  by_cases h : 200 < l.length
  · have e : (l.take 200).length = 200 := by simp; omega
    rw [e]
    clear e
    go_enter Try.func11, Try.ntmps11
    go_wp2
    go_ret
    exact ⟨rfl, rfl⟩
  · have e : (l.take 200).length = l.length := by simp; omega
    rw [e]
    clear e
    go_enter Try.func11, Try.ntmps11
    go_wp2
    go_ret
    exact ⟨rfl, rfl⟩

theorem eqIn23 (w : World) (d : Nat) (a : Addr) (n c : Nat) : (Op.equalIn (d + 1) 23 (.slice (some a) n c) (.slice none 0 0)).run Try.prog w = .ok false w := by
  simp [Op.equalIn, run_underlying Try.underlying23]
theorem eql23 (w : World) (a : Addr) (n c : Nat) : (binOp .eql 23 (.slice (some a) n c) (.slice none 0 0)).run Try.prog w = .ok (.bool false) w := by
  simp only [binOp]
  simp [Op.equal, Op.maxDepth, eqIn23 w 9999]
theorem eqIn40 (w : World) (d : Nat) (f : Fn) (a b : Array Value) : (Op.equalIn (d + 1) 40 (.func f a b) .nilFunc).run Try.prog w = .ok false w := by
  simp [Op.equalIn, run_underlying Try.underlying40]
theorem neq40 (w : World) (f : Fn) (a b : Array Value) : (binOp .neq 40 (.func f a b) .nilFunc).run Try.prog w = .ok (.bool true) w := by
  simp only [binOp]
  simp [Op.equal, Op.maxDepth, eqIn40 w 9999]
theorem eql40 (w : World) (f : Fn) (a b : Array Value) : (binOp .eql 40 (.func f a b) .nilFunc).run Try.prog w = .ok (.bool false) w := by
  simp only [binOp]
  simp [Op.equal, Op.maxDepth, eqIn40 w 9999]
theorem mk_func (fn : Fn) (first cap : Array Value) (w : World) : (Instr.makeFunc fn first cap).run Try.prog w = .ok (.func fn first cap) w := rfl

theorem all_any (A : Option Addr) (n c : Nat) (w : World) :
    Calls Try.prog 19 #[.slice A n c] w fun e w' => e = .returned (.func (.func 24) #[] #[.pointer (some ⟨w.heap.size, 0, none⟩)]) ∧ w' = w.alloc (.cells #[.slice A n c] 23) := by
  have hmf := mk_func
  go_enter Try.func19, Try.ntmps19
  go_wp2
  go_ret
  exact ⟨rfl, rfl⟩

theorem own_empty (t : TypeId) (w : World) : (w.alloc (.cells #[] t)).ownsRow w.heap.size t 1 (.slice (some ⟨w.heap.size, 0, none⟩) 0 0) 0 [] :=
  ⟨rfl, .inr ⟨w.heap.size, 0, #[], rfl, Nat.le_refl _, World.alloc_heap_new w _, Nat.le_refl _, by unfold maxLen; omega, rfl, rfl⟩⟩

theorem news_of {k : IntKind} {w : World} {b off : Nat} {xs : List Int} (hc : ∀ j, j < xs.length → w.cell? ⟨b, off + j, none⟩ = some (.int k (xs.getD j 0))) :
    ∀ j u, (xs.map (Value.int k))[j]? = some u → w.cell? ((⟨b, off, none⟩ : Addr).add j) = some u := by
  intro j u hu
  have hj : j < xs.length := by simpa using (List.getElem?_eq_some_iff.1 hu).1
  rw [Addr.add_lit, hc j hj, ← hu, List.getElem?_map, List.getElem?_eq_getElem hj, List.getD_eq_getElem?_getD, List.getElem?_eq_getElem hj]
  rfl

set_option maxRecDepth 100000 in
set_option maxHeartbeats 1000000 in
theorem clone_some (b off c : Nat) (xs : List Int) (w : World) (hb : b < w.heap.size) (hcell : ∀ j, j < xs.length → w.cell? ⟨b, off + j, none⟩ = some (.int .u8 (xs.getD j 0))) (hl : xs.length ≤ 100000) :
    Calls Try.prog 21 #[.slice (some ⟨b, off, none⟩) xs.length c] w (Made 5 .u8 w.heap.size w xs) := by
  obtain ⟨i0, hi, hz0, hz1, hz2⟩ := info_parts Try.info5
  have HI := Lib.hid hi
  have HZ := Lib.hid (And.intro hz0 (And.intro hz1 hz2))
  clear hi hz0 hz1 hz2
  have HC := Lib.hid hcell
  clear hcell
  have hnc : ∀ j, j < xs.length → (w.alloc (.cells #[] 5)).cell? ⟨b, off + j, none⟩ = some (.int .u8 (xs.getD j 0)) := fun j hj => (World.cell?_alloc_lt w _ ⟨b, off + j, none⟩ hb).trans (HC.out j hj)
  have HN := Lib.hid hnc
  clear hnc
  have he := eql23 w ⟨b, off, none⟩ xs.length c
  go_enter Try.func21, Try.ntmps21
  go_wp2_with (at_builtin; (refine wpList_append_own _ rfl _ _ 23 rfl w.heap.size 5 i0 (.int .u8 0) 1 1 Try.underlying23 HI.out HZ.out.1 HZ.out.2.1 HZ.out.2.2 rfl (by decide) _ _ _ rfl (own_empty 5 w) ⟨b, off, none⟩ xs.length c (xs.map (Value.int .u8)) rfl (by simp) (news_of HN.out) (ints_oneCell _ _) (by unfold maxLen; omega) (by omega) (by simp) ?_); intro v' w1 hown' hgrow _)
  go_ret
  refine ⟨v', rfl, by unfold OwnS; simpa using hown', ((Below.refl _ w).alloc (Nat.le_refl _) _).grown hgrow (by simp) fun j ej => own_ge (own_empty 5 w) j ej⟩


/-- wire.Take where bytes begin with no number. -/
theorem take_no (A : Option Addr) (c : Nat) (xs : List Int) (B : Nat) (w : World) (hs : Sl .u8 w B A xs) (hb : Byt xs) (hc : xs.length ≤ c) (hm : xs.length ≤ 100000) (h : (first xs).2 = 0) :
    Calls Try.prog 12 #[.slice A xs.length c] w fun e w' => e = .returned (.tuple #[.int .i64 0, .slice none 0 0, .bool false]) ∧ w = w' := by
  have hf := first_any A c xs B w hs hb hc (by omega)
  rw [h] at hf
  have HF := Lib.hid hf
  clear hf hs hb h
  go_enter Try.func12, Try.ntmps12
  go_wp2_with (go_at_call 20; refine HF.out.mono ?_; rintro e w' ⟨rfl, rfl⟩)
  go_ret3
  exact ⟨rfl, rfl⟩

def TookS (w : World) (n : Int) (xs : List Int) (e : Ending) (w' : World) : Prop :=
  ∃ v, e = .returned (.tuple #[.int .i64 n, v, .bool true]) ∧ OwnS 5 .u8 w' w.heap.size v xs ∧ Below w.heap.size w w'

set_option maxRecDepth 100000 in
/-- wire.Take where bytes begin with a number. -/
theorem take_yes (A : Option Addr) (c : Nat) (xs : List Int) (w : World) (hs : Sl .u8 w w.heap.size A xs) (hb : Byt xs) (hc : xs.length ≤ c) (hm : xs.length ≤ 100000) (n : Int) (s : Nat) (h : first xs = (n, s)) (h0 : s ≠ 0) :
    Calls Try.prog 12 #[.slice A xs.length c] w (TookS w n (xs.drop s)) := by
  have hf := first_any A c xs _ w hs hb hc (by omega)
  rw [h] at hf
  dsimp only at hf
  obtain ⟨-, -, -, hl, h1, h10⟩ := first_inv hb h h0
  obtain ⟨b, off, rfl, hbB, hcell⟩ := hs (by rintro rfl; simp at hl; omega)
  have HF := Lib.hid hf
  clear hf hs hb h h0
  have hdl : (xs.drop s).length = xs.length - s := List.length_drop
  by_cases hcs : c = s
  · subst hcs
    have hx : xs.drop c = [] := List.drop_eq_nil_of_le (by omega)
    have HC := Lib.hid (clone_some b off (c - c) (xs.drop c) w hbB (fun j hj => by rw [hx] at hj; simp at hj) (by omega))
    rw [hdl, show xs.length - c = 0 by omega, Nat.sub_self] at HC
    clear hcell hdl hx
    go_enter Try.func12, Try.ntmps12
    go_wp2_with (first | (go_at_call 20; ((with_reducible refine HF.out.mono ?_); rintro e w' ⟨rfl, rfl⟩)) | (go_at_call 21; (with_reducible refine HC.out.mono ?_); rintro e w' ⟨v, rfl, ho, hb'⟩))
    go_ret3
    exact ⟨v, rfl, ho, hb'⟩
  · have HC := Lib.hid (clone_some b (off + s) (c - s) (xs.drop s) w hbB (fun j hj => by rw [Nat.add_assoc, hcell (s + j) (by omega), List.getD_eq_getElem?_getD, List.getD_eq_getElem?_getD, List.getElem?_drop]) (by omega))
    rw [hdl] at HC
    clear hcell hdl
    go_enter Try.func12, Try.ntmps12
    go_wp2_with (first | (go_at_call 20; ((with_reducible refine HF.out.mono ?_); rintro e w' ⟨rfl, rfl⟩)) | (go_at_call 21; (with_reducible refine HC.out.mono ?_); rintro e w' ⟨v, rfl, ho, hb'⟩))
    go_ret3
    exact ⟨v, rfl, ho, hb'⟩

theorem below_draws {B : Nat} {a w : World} (h : Below B a w) (n : Nat) : Below B a (w.drewN n) := ⟨h.os, h.tape, h.output, h.size, h.block⟩

def Yes (w : World) (e : Ending) (w' : World) : Prop := e = .returned (.bool true) ∧ Below w.heap.size w w'

set_option maxHeartbeats 1000000 in
theorem same_any (A A' : Option Addr) (c c' : Nat) (xs : List Int) (w : World) (hs : Sl .i64 w w.heap.size A xs) (hs' : Sl .i64 w w.heap.size A' xs) (hl : xs.length ≤ 100000) :
    Calls Try.prog 18 #[.slice A xs.length c, .slice A' xs.length c'] w (Yes w) := by
  have HS := Lib.hid hs
  have HT := Lib.hid hs'
  clear hs hs'
  go_enter Try.func18, Try.ntmps18
  go_wp2
  go_loopw [5] (fun i wr => ∃ k : Nat, k ≤ xs.length ∧ i = .int .i64 k ∧ Below w.heap.size w wr) (fun i _ => xs.length - (intOf i).toNat)
  case atStart => exact ⟨0, by omega, rfl, Below.refl _ _⟩
  case round =>
    obtain ⟨k, hk, rfl, hb⟩ := hrel
    have HB := Lib.hid hb
    clear hb
    by_cases hlt : k < xs.length
    · obtain ⟨b, off, rfl, hbB, hcell⟩ := HS.out.at hlt
      obtain ⟨b', off', rfl, hbB', hcell'⟩ := HT.out.at hlt
      generalize xs.getD k 0 = p at hcell hcell'
      have h1 : wr.cell? ⟨b, off + k, none⟩ = some (.int .i64 p) := (HB.out.cell (p := ⟨b, off + k, none⟩) hbB).trans hcell
      have h2 : wr.cell? ⟨b', off' + k, none⟩ = some (.int .i64 p) := (HB.out.cell (p := ⟨b', off' + k, none⟩) hbB').trans hcell'
      clear hcell hcell'
      go_wp2_with fail
      go_quiet (fail)
      go_wp2
      exact ⟨⟨k + 1, by omega, by go_num, below_draws HB.out nq⟩, by simp [intOf]; omega⟩
    · go_wp2
      go_ret
      exact ⟨rfl, HB.out⟩

theorem str_shown : strOfNums (put [0, -1, 64]) = { data := #[0, 1, 128, 1] } := by
  have e : put [0, -1, 64] = [0, 1, 128, 1] := by
    simp only [put_cons, put_nil]
    rw [show fold 0 = 0 by decide, show fold (-1) = 1 by decide, show fold 64 = 128 by decide, enc_lt (u := 0) (by decide), enc_lt (u := 1) (by decide), enc_ge (u := 128) (by decide), enc_lt (u := 128 / 128) (by decide)]
    rfl
  rw [e]; rfl

set_option maxRecDepth 100000 in
theorem shown_any (w : World) : Calls Try.prog 9 #[] w (Yes w) := by
  have hp : Calls Try.prog 14 #[.slice (some ⟨w.heap.size, 0, none⟩) 3 3] (w.alloc (.cells #[.int .i64 0, .int .i64 (-1), .int .i64 64] 3)) (Made 5 .u8 (w.heap.size + 1) (w.alloc (.cells #[.int .i64 0, .int .i64 (-1), .int .i64 64] 3)) (put [0, -1, 64])) := by
   have h := put_any (some ⟨w.heap.size, 0, none⟩) 3 [0, -1, 64] (w.heap.size + 1) (w.alloc (.cells #[.int .i64 0, .int .i64 (-1), .int .i64 64] 3))
    (fun _ => ⟨w.heap.size, 0, rfl, by omega, fun j hj => by
      simp at hj
      rcases (by omega : j = 0 ∨ j = 1 ∨ j = 2) with rfl | rfl | rfl <;> simp [go_sem]⟩) (by simp) (by intro n hn; simp at hn; unfold In64; omega) (by simp)
   simpa using h
  have HP := Lib.hid hp
  clear hp
  have hs := str_shown
  have hn := neq40
  go_enter Try.func9, Try.ntmps9
  go_wp2_with (first | (go_at_call 14; (with_reducible refine HP.out.mono ?_); rintro e w1 ⟨v, rfl, ho, hb1⟩; obtain ⟨A, c, rfl, hc1, hc2, hsl⟩ := ho.sl; have hcv := hsl.conv c) | (go_at_call 19; (with_reducible refine (all_any _ _ _ _).mono ?_); rintro e w2 ⟨rfl, rfl⟩))
  go_ret
  have hB := ((Below.refl _ w).alloc (Nat.le_refl _) _).trans (hb1.mono (Nat.le_succ _))
  exact ⟨rfl, hB.alloc hB.size _⟩
end Go.Proofs.Ytopncdeafbpenaa
