/-
  What a reader reads of a list of flat things.
-/
import Derived.Test.YtfmmfaeognoleaaM6
import Derived.Test.YtfmmfaeognoleaaM5
import Derived.Laws.BytesArg
import Derived.Deep.Draws
namespace Go.Proofs.Ytfmmfaeognoleaa
open Go.RowKit
attribute [local go_sem ↓] Go.wp_at_zero Go.wp_at_succ

theorem up_pos (m : Int) (s : St) : 0 ≤ (rUp m s).1 := by
  unfold rUp
  split
  · exact Int.le_refl _
  · omega
theorem num_le (s : St) : (rNum s).2.l.length ≤ s.l.length := by
  obtain ⟨l, b⟩ := s
  cases l with
  | nil => exact Nat.le_refl _
  | cons n r => show r.length ≤ (n :: r).length; rw [List.length_cons]; omega
theorem up_le (m : Int) (s : St) : (rUp m s).2.l.length ≤ s.l.length := by
  have := num_le s
  unfold rUp
  split <;> exact this
theorem many_bd (s : St) : 0 ≤ (rMany s).1 ∧ (rMany s).1 ≤ s.l.length := by
  refine ⟨up_pos _ _, ?_⟩
  unfold rMany rUp
  split
  · show (0 : Int) ≤ _; omega
  · omega
/-- What a list's call reads. -/
def ReadsE {α : Type} (E : Elem α) (p : Nat) (xs : List α) (t : St) (w : World) (e : Ending) (w' : World) : Prop :=
  ∃ A c, e = .returned (.slice A xs.length c) ∧ OwnE E w' w.heap.size (.slice A xs.length c) xs ∧ Rd w' p t ∧ But p w w'

set_option maxRecDepth 100000 in
set_option maxHeartbeats 2000000 in
theorem readV_any {p : Nat} {s : St} (w : World) (h : Rd w p s) (hs : s.l.length ≤ 100000) :
    Calls Try.prog 58 #[.pointer (some ⟨p, 0, none⟩), .func (.func 59) #[.pointer (some ⟨p, 0, none⟩)] #[]] w (ReadsE EV p (rAll rV s).1 (rAll rV s).2 w) := by
  obtain ⟨RV⟩ := rowV
  have hp := h.lt
  have hmb := many_bd s
  obtain ⟨n, t, e1⟩ : ∃ n t, rMany s = (n, t) := ⟨_, _, rfl⟩
  have C1 := Lib.hid (show Calls Try.prog 89 #[.pointer (some ⟨p, 0, none⟩), .int .i64 ((s.l.length : Int) - 1)] w (Reads p (.int .i64 n) t w) from by
    have h2 := upTo_any ((s.l.length : Int) - 1) w h
    have e2 : rUp ((s.l.length : Int) - 1) s = (n, t) := e1
    rw [e2] at h2
    exact h2)
  rw [e1] at hmb
  dsimp only at hmb
  have hw : IntKind.i64.wrap ((s.l.length : Int) - 1) = (s.l.length : Int) - 1 := by rw [IntKind.wrap_i64]; omega
  obtain ⟨A0, c0, hb0, -, -⟩ := h
  have k0 := (rdB_cell hb0).1
  obtain ⟨m, hm⟩ : ∃ m, s.l.length = m := ⟨_, rfl⟩
  obtain ⟨k, rfl⟩ : ∃ k : Nat, n = k := ⟨n.toNat, by omega⟩
  have eA : rAll rV s = rRep rV k t := by unfold rAll; rw [e1]; rfl
  rw [eA]
  have HX := Lib.hid (show ∀ j, rRep rV (j + 1) t = ((rRep rV j t).1 ++ [(rV (rRep rV j t).2).1], (rV (rRep rV j t).2).2) from fun _ => rfl)
  have HL := Lib.hid (show ∀ j, (rRep rV j t).1.length = j from fun j => rep_len j t)
  have H00 := Lib.hid (show rRep rV 0 t = ([], t) from rfl)
  generalize rRep rV = X at *
  rw [hm] at k0 hs hw hmb C1
  clear hb0 e1 eA hm
  go_enter Try.func58, Try.ntmps58
  go_wp2_with fail
  with_reducible refine (C1.out).mono ?_
  rintro e w1 ⟨rfl, hr, hb⟩
  have HR1 := Lib.hid hr
  have HB1 := Lib.hid hb
  clear hr hb C1 k0
  go_wp2_with fail
  go_loopw [6, 16] (fun v i wr => ∃ j : Nat, j ≤ k ∧ i = .int .i64 j ∧ ∃ A c, v = .slice A j c ∧ OwnE EV wr w.heap.size (.slice A j c) (X j t).1 ∧ Rd wr p (X j t).2 ∧ But p w wr) (fun _ i _ => k - (intOf i).toNat)
  case atStart => exact ⟨0, Nat.zero_le _, rfl, none, 0, rfl, by rw [H00.out]; exact OwnE.nil _ _, by rw [H00.out]; exact HR1.out, HB1.out⟩
  case round =>
    obtain ⟨j, hk, rfl, A, c, rfl, ho, hr, hb⟩ := hrel
    have HO := Lib.hid ho
    have HR := Lib.hid hr
    have HB := Lib.hid hb
    clear ho hr hb HR1 HB1
    by_cases hlt : j < k
    · have C2 := Lib.hid (rvec_any wr HR.out)
      obtain ⟨x, t2, e2⟩ : ∃ x t2, rV (X j t).2 = (x, t2) := ⟨_, _, rfl⟩
      have hX := HX.out j
      rw [e2] at C2 hX
      have HX1 := Lib.hid hX
      have hlj := HL.out j
      clear hX e2
      go_wp2_with fail
      with_reducible refine (C2.out).mono ?_
      rintro e w2 ⟨rfl, hr, hb⟩
      have HO2 := Lib.hid ((hb.own HO.out hp).alloc (.cells #[.int .i64 x.x, .int .i64 x.y, .int .i64 x.z, .int .i64 x.w, .int .i64 x.a, .int .i64 x.b, .int .i64 x.c, .int .i64 x.d] 43))
      have HR2 := Lib.hid (hr.alloc (.cells #[.int .i64 x.x, .int .i64 x.y, .int .i64 x.z, .int .i64 x.w, .int .i64 x.a, .int .i64 x.b, .int .i64 x.c, .int .i64 x.d] 43))
      have HB2 := Lib.hid ((HB.out.trans hb).alloc hp (.cells #[.int .i64 x.x, .int .i64 x.y, .int .i64 x.z, .int .i64 x.w, .int .i64 x.a, .int .i64 x.b, .int .i64 x.c, .int .i64 x.d] 43))
      have HE2 := Lib.hid (es_one (E := EV) (x := x) (cs := #[.int .i64 x.x, .int .i64 x.y, .int .i64 x.z, .int .i64 x.w, .int .i64 x.a, .int .i64 x.b, .int .i64 x.c, .int .i64 x.d]) rfl (show (w2.alloc (.cells #[.int .i64 x.x, .int .i64 x.y, .int .i64 x.z, .int .i64 x.w, .int .i64 x.a, .int .i64 x.b, .int .i64 x.c, .int .i64 x.d] 43)).heap[w2.heap.size]? = some (.cells #[.int .i64 x.x, .int .i64 x.y, .int .i64 x.z, .int .i64 x.w, .int .i64 x.a, .int .i64 x.b, .int .i64 x.c, .int .i64 x.d] 43 (0, 0)) from heap_alloc_new _ _))
      have hsz := HB2.out.size
      clear hr hb C2 HO HR HB
      go_wp2_with (at_builtin; refine wpList_append_es rfl RV _ _ 1 rfl rfl rfl HO2.out HE2.out (by omega) (by simp) hsz ?_; intro v' w3 hown hg hat; obtain ⟨ho3, hbl⟩ := ownE_app HO2.out hown hg hsz; have hge := ownE_ge HO2.out; obtain ⟨A3, c3, rfl⟩ := ho3.form)
      go_roundw
      case rel =>
        have e3 : (X (j + 1) t).1 = (X j t).1 ++ [x] := by rw [HX1.out]
        have e4 : (X (j + 1) t).2 = t2 := by rw [HX1.out]
        have e5 : ((X j t).1 ++ [x]).length = j + 1 := by rw [List.length_append, hlj]; rfl
        refine ⟨j + 1, by omega, by go_num, A3, c3, rfl, ?_, ?_, ?_⟩
        · rw [e3, ← e5]; exact ho3
        · rw [e4]; exact HR2.out.grown hg hge hp
        · exact HB2.out.grown (by omega) hg hge
      case measure => simp [intOf]; omega
    · obtain rfl : j = k := by omega
      go_wp2_with fail
      go_ret
      exact ⟨A, c, (by rw [HL.out]; rfl), (by rw [HL.out]; exact HO.out), HR.out, HB.out⟩

set_option maxRecDepth 100000 in
set_option maxHeartbeats 2000000 in
theorem readC_any {p : Nat} {s : St} (w : World) (h : Rd w p s) (hs : s.l.length ≤ 100000) :
    Calls Try.prog 90 #[.pointer (some ⟨p, 0, none⟩), .func (.func 57) #[.pointer (some ⟨p, 0, none⟩)] #[]] w (ReadsE EC p (rAll rC s).1 (rAll rC s).2 w) := by
  obtain ⟨RV⟩ := rowC
  have hp := h.lt
  have hmb := many_bd s
  obtain ⟨n, t, e1⟩ : ∃ n t, rMany s = (n, t) := ⟨_, _, rfl⟩
  have C1 := Lib.hid (show Calls Try.prog 89 #[.pointer (some ⟨p, 0, none⟩), .int .i64 ((s.l.length : Int) - 1)] w (Reads p (.int .i64 n) t w) from by
    have h2 := upTo_any ((s.l.length : Int) - 1) w h
    have e2 : rUp ((s.l.length : Int) - 1) s = (n, t) := e1
    rw [e2] at h2
    exact h2)
  rw [e1] at hmb
  dsimp only at hmb
  have hw : IntKind.i64.wrap ((s.l.length : Int) - 1) = (s.l.length : Int) - 1 := by rw [IntKind.wrap_i64]; omega
  obtain ⟨A0, c0, hb0, -, -⟩ := h
  have k0 := (rdB_cell hb0).1
  obtain ⟨m, hm⟩ : ∃ m, s.l.length = m := ⟨_, rfl⟩
  obtain ⟨k, rfl⟩ : ∃ k : Nat, n = k := ⟨n.toNat, by omega⟩
  have eA : rAll rC s = rRep rC k t := by unfold rAll; rw [e1]; rfl
  rw [eA]
  have HX := Lib.hid (show ∀ j, rRep rC (j + 1) t = ((rRep rC j t).1 ++ [(rC (rRep rC j t).2).1], (rC (rRep rC j t).2).2) from fun _ => rfl)
  have HL := Lib.hid (show ∀ j, (rRep rC j t).1.length = j from fun j => rep_len j t)
  have H00 := Lib.hid (show rRep rC 0 t = ([], t) from rfl)
  generalize rRep rC = X at *
  rw [hm] at k0 hs hw hmb C1
  clear hb0 e1 eA hm
  go_enter Try.func90, Try.ntmps90
  go_wp2_with fail
  with_reducible refine (C1.out).mono ?_
  rintro e w1 ⟨rfl, hr, hb⟩
  have HR1 := Lib.hid hr
  have HB1 := Lib.hid hb
  clear hr hb C1 k0
  go_wp2_with fail
  go_loopw [6, 16] (fun v i wr => ∃ j : Nat, j ≤ k ∧ i = .int .i64 j ∧ ∃ A c, v = .slice A j c ∧ OwnE EC wr w.heap.size (.slice A j c) (X j t).1 ∧ Rd wr p (X j t).2 ∧ But p w wr) (fun _ i _ => k - (intOf i).toNat)
  case atStart => exact ⟨0, Nat.zero_le _, rfl, none, 0, rfl, by rw [H00.out]; exact OwnE.nil _ _, by rw [H00.out]; exact HR1.out, HB1.out⟩
  case round =>
    obtain ⟨j, hk, rfl, A, c, rfl, ho, hr, hb⟩ := hrel
    have HO := Lib.hid ho
    have HR := Lib.hid hr
    have HB := Lib.hid hb
    clear ho hr hb HR1 HB1
    by_cases hlt : j < k
    · have C2 := Lib.hid (rcol_any wr HR.out)
      obtain ⟨x, t2, e2⟩ : ∃ x t2, rC (X j t).2 = (x, t2) := ⟨_, _, rfl⟩
      have hX := HX.out j
      rw [e2] at C2 hX
      have HX1 := Lib.hid hX
      have hlj := HL.out j
      clear hX e2
      go_wp2_with fail
      with_reducible refine (C2.out).mono ?_
      rintro e w2 ⟨rfl, hr, hb⟩
      have HO2 := Lib.hid ((hb.own HO.out hp).alloc (.cells #[.int .u8 x.r, .int .u8 x.g, .int .u8 x.b, .int .u8 x.a] 27))
      have HR2 := Lib.hid (hr.alloc (.cells #[.int .u8 x.r, .int .u8 x.g, .int .u8 x.b, .int .u8 x.a] 27))
      have HB2 := Lib.hid ((HB.out.trans hb).alloc hp (.cells #[.int .u8 x.r, .int .u8 x.g, .int .u8 x.b, .int .u8 x.a] 27))
      have HE2 := Lib.hid (es_one (E := EC) (x := x) (cs := #[.int .u8 x.r, .int .u8 x.g, .int .u8 x.b, .int .u8 x.a]) rfl (show (w2.alloc (.cells #[.int .u8 x.r, .int .u8 x.g, .int .u8 x.b, .int .u8 x.a] 27)).heap[w2.heap.size]? = some (.cells #[.int .u8 x.r, .int .u8 x.g, .int .u8 x.b, .int .u8 x.a] 27 (0, 0)) from heap_alloc_new _ _))
      have hsz := HB2.out.size
      clear hr hb C2 HO HR HB
      go_wp2_with (at_builtin; refine wpList_append_es rfl RV _ _ 1 rfl rfl rfl HO2.out HE2.out (by omega) (by simp) hsz ?_; intro v' w3 hown hg hat; obtain ⟨ho3, hbl⟩ := ownE_app HO2.out hown hg hsz; have hge := ownE_ge HO2.out; obtain ⟨A3, c3, rfl⟩ := ho3.form)
      go_roundw
      case rel =>
        have e3 : (X (j + 1) t).1 = (X j t).1 ++ [x] := by rw [HX1.out]
        have e4 : (X (j + 1) t).2 = t2 := by rw [HX1.out]
        have e5 : ((X j t).1 ++ [x]).length = j + 1 := by rw [List.length_append, hlj]; rfl
        refine ⟨j + 1, by omega, by go_num, A3, c3, rfl, ?_, ?_, ?_⟩
        · rw [e3, ← e5]; exact ho3
        · rw [e4]; exact HR2.out.grown hg hge hp
        · exact HB2.out.grown (by omega) hg hge
      case measure => simp [intOf]; omega
    · obtain rfl : j = k := by omega
      go_wp2_with fail
      go_ret
      exact ⟨A, c, (by rw [HL.out]; rfl), (by rw [HL.out]; exact HO.out), HR.out, HB.out⟩

set_option maxRecDepth 100000 in
set_option maxHeartbeats 2000000 in
theorem readI_any {p : Nat} {s : St} (w : World) (h : Rd w p s) (hs : s.l.length ≤ 100000) :
    Calls Try.prog 91 #[.pointer (some ⟨p, 0, none⟩), .func (.func 92) #[.pointer (some ⟨p, 0, none⟩)] #[]] w (ReadsE C.EI p (rAll rI s).1 (rAll rI s).2 w) := by
  obtain ⟨RV⟩ := rowI
  have hp := h.lt
  have hmb := many_bd s
  obtain ⟨n, t, e1⟩ : ∃ n t, rMany s = (n, t) := ⟨_, _, rfl⟩
  have C1 := Lib.hid (show Calls Try.prog 89 #[.pointer (some ⟨p, 0, none⟩), .int .i64 ((s.l.length : Int) - 1)] w (Reads p (.int .i64 n) t w) from by
    have h2 := upTo_any ((s.l.length : Int) - 1) w h
    have e2 : rUp ((s.l.length : Int) - 1) s = (n, t) := e1
    rw [e2] at h2
    exact h2)
  rw [e1] at hmb
  dsimp only at hmb
  have hw : IntKind.i64.wrap ((s.l.length : Int) - 1) = (s.l.length : Int) - 1 := by rw [IntKind.wrap_i64]; omega
  obtain ⟨A0, c0, hb0, -, -⟩ := h
  have k0 := (rdB_cell hb0).1
  obtain ⟨m, hm⟩ : ∃ m, s.l.length = m := ⟨_, rfl⟩
  obtain ⟨k, rfl⟩ : ∃ k : Nat, n = k := ⟨n.toNat, by omega⟩
  have eA : rAll rI s = rRep rI k t := by unfold rAll; rw [e1]; rfl
  rw [eA]
  have HX := Lib.hid (show ∀ j, rRep rI (j + 1) t = ((rRep rI j t).1 ++ [(rI (rRep rI j t).2).1], (rI (rRep rI j t).2).2) from fun _ => rfl)
  have HL := Lib.hid (show ∀ j, (rRep rI j t).1.length = j from fun j => rep_len j t)
  have H00 := Lib.hid (show rRep rI 0 t = ([], t) from rfl)
  generalize rRep rI = X at *
  rw [hm] at k0 hs hw hmb C1
  clear hb0 e1 eA hm
  go_enter Try.func91, Try.ntmps91
  go_wp2_with fail
  with_reducible refine (C1.out).mono ?_
  rintro e w1 ⟨rfl, hr, hb⟩
  have HR1 := Lib.hid hr
  have HB1 := Lib.hid hb
  clear hr hb C1 k0
  go_wp2_with fail
  go_loopw [6, 16] (fun v i wr => ∃ j : Nat, j ≤ k ∧ i = .int .i64 j ∧ ∃ A c, v = .slice A j c ∧ OwnE C.EI wr w.heap.size (.slice A j c) (X j t).1 ∧ Rd wr p (X j t).2 ∧ But p w wr) (fun _ i _ => k - (intOf i).toNat)
  case atStart => exact ⟨0, Nat.zero_le _, rfl, none, 0, rfl, by rw [H00.out]; exact OwnE.nil _ _, by rw [H00.out]; exact HR1.out, HB1.out⟩
  case round =>
    obtain ⟨j, hk, rfl, A, c, rfl, ho, hr, hb⟩ := hrel
    have HO := Lib.hid ho
    have HR := Lib.hid hr
    have HB := Lib.hid hb
    clear ho hr hb HR1 HB1
    by_cases hlt : j < k
    · have C2 := Lib.hid (rins_any wr HR.out)
      obtain ⟨x, t2, e2⟩ : ∃ x t2, rI (X j t).2 = (x, t2) := ⟨_, _, rfl⟩
      have hX := HX.out j
      rw [e2] at C2 hX
      have HX1 := Lib.hid hX
      have hlj := HL.out j
      clear hX e2
      go_wp2_with fail
      with_reducible refine (C2.out).mono ?_
      rintro e w2 ⟨rfl, hr, hb⟩
      have HO2 := Lib.hid ((hb.own HO.out hp).alloc (.cells #[.int .u8 x.o, .int .u8 x.d, .int .u8 x.a, .int .u8 x.b, .int .i64 x.n] 70))
      have HR2 := Lib.hid (hr.alloc (.cells #[.int .u8 x.o, .int .u8 x.d, .int .u8 x.a, .int .u8 x.b, .int .i64 x.n] 70))
      have HB2 := Lib.hid ((HB.out.trans hb).alloc hp (.cells #[.int .u8 x.o, .int .u8 x.d, .int .u8 x.a, .int .u8 x.b, .int .i64 x.n] 70))
      have HE2 := Lib.hid (es_one (E := C.EI) (x := x) (cs := #[.int .u8 x.o, .int .u8 x.d, .int .u8 x.a, .int .u8 x.b, .int .i64 x.n]) rfl (show (w2.alloc (.cells #[.int .u8 x.o, .int .u8 x.d, .int .u8 x.a, .int .u8 x.b, .int .i64 x.n] 70)).heap[w2.heap.size]? = some (.cells #[.int .u8 x.o, .int .u8 x.d, .int .u8 x.a, .int .u8 x.b, .int .i64 x.n] 70 (0, 0)) from heap_alloc_new _ _))
      have hsz := HB2.out.size
      clear hr hb C2 HO HR HB
      go_wp2_with (at_builtin; refine wpList_append_es rfl RV _ _ 1 rfl rfl rfl HO2.out HE2.out (by omega) (by simp) hsz ?_; intro v' w3 hown hg hat; obtain ⟨ho3, hbl⟩ := ownE_app HO2.out hown hg hsz; have hge := ownE_ge HO2.out; obtain ⟨A3, c3, rfl⟩ := ho3.form)
      go_roundw
      case rel =>
        have e3 : (X (j + 1) t).1 = (X j t).1 ++ [x] := by rw [HX1.out]
        have e4 : (X (j + 1) t).2 = t2 := by rw [HX1.out]
        have e5 : ((X j t).1 ++ [x]).length = j + 1 := by rw [List.length_append, hlj]; rfl
        refine ⟨j + 1, by omega, by go_num, A3, c3, rfl, ?_, ?_, ?_⟩
        · rw [e3, ← e5]; exact ho3
        · rw [e4]; exact HR2.out.grown hg hge hp
        · exact HB2.out.grown (by omega) hg hge
      case measure => simp [intOf]; omega
    · obtain rfl : j = k := by omega
      go_wp2_with fail
      go_ret
      exact ⟨A, c, (by rw [HL.out]; rfl), (by rw [HL.out]; exact HO.out), HR.out, HB.out⟩

set_option maxRecDepth 100000 in
set_option maxHeartbeats 2000000 in
theorem readR_any {p : Nat} {s : St} (w : World) (h : Rd w p s) (hs : s.l.length ≤ 100000) :
    Calls Try.prog 94 #[.pointer (some ⟨p, 0, none⟩), .func (.func 95) #[.pointer (some ⟨p, 0, none⟩)] #[]] w (ReadsE ER p (rAll rR s).1 (rAll rR s).2 w) := by
  obtain ⟨RV⟩ := rowR
  have hp := h.lt
  have hmb := many_bd s
  obtain ⟨n, t, e1⟩ : ∃ n t, rMany s = (n, t) := ⟨_, _, rfl⟩
  have C1 := Lib.hid (show Calls Try.prog 89 #[.pointer (some ⟨p, 0, none⟩), .int .i64 ((s.l.length : Int) - 1)] w (Reads p (.int .i64 n) t w) from by
    have h2 := upTo_any ((s.l.length : Int) - 1) w h
    have e2 : rUp ((s.l.length : Int) - 1) s = (n, t) := e1
    rw [e2] at h2
    exact h2)
  rw [e1] at hmb
  dsimp only at hmb
  have hw : IntKind.i64.wrap ((s.l.length : Int) - 1) = (s.l.length : Int) - 1 := by rw [IntKind.wrap_i64]; omega
  obtain ⟨A0, c0, hb0, -, -⟩ := h
  have k0 := (rdB_cell hb0).1
  obtain ⟨m, hm⟩ : ∃ m, s.l.length = m := ⟨_, rfl⟩
  obtain ⟨k, rfl⟩ : ∃ k : Nat, n = k := ⟨n.toNat, by omega⟩
  have eA : rAll rR s = rRep rR k t := by unfold rAll; rw [e1]; rfl
  rw [eA]
  have HX := Lib.hid (show ∀ j, rRep rR (j + 1) t = ((rRep rR j t).1 ++ [(rR (rRep rR j t).2).1], (rR (rRep rR j t).2).2) from fun _ => rfl)
  have HL := Lib.hid (show ∀ j, (rRep rR j t).1.length = j from fun j => rep_len j t)
  have H00 := Lib.hid (show rRep rR 0 t = ([], t) from rfl)
  generalize rRep rR = X at *
  rw [hm] at k0 hs hw hmb C1
  clear hb0 e1 eA hm
  go_enter Try.func94, Try.ntmps94
  go_wp2_with fail
  with_reducible refine (C1.out).mono ?_
  rintro e w1 ⟨rfl, hr, hb⟩
  have HR1 := Lib.hid hr
  have HB1 := Lib.hid hb
  clear hr hb C1 k0
  go_wp2_with fail
  go_loopw [6, 16] (fun v i wr => ∃ j : Nat, j ≤ k ∧ i = .int .i64 j ∧ ∃ A c, v = .slice A j c ∧ OwnE ER wr w.heap.size (.slice A j c) (X j t).1 ∧ Rd wr p (X j t).2 ∧ But p w wr) (fun _ i _ => k - (intOf i).toNat)
  case atStart => exact ⟨0, Nat.zero_le _, rfl, none, 0, rfl, by rw [H00.out]; exact OwnE.nil _ _, by rw [H00.out]; exact HR1.out, HB1.out⟩
  case round =>
    obtain ⟨j, hk, rfl, A, c, rfl, ho, hr, hb⟩ := hrel
    have HO := Lib.hid ho
    have HR := Lib.hid hr
    have HB := Lib.hid hb
    clear ho hr hb HR1 HB1
    by_cases hlt : j < k
    · have C2 := Lib.hid (rtri_any wr HR.out)
      obtain ⟨x, t2, e2⟩ : ∃ x t2, rR (X j t).2 = (x, t2) := ⟨_, _, rfl⟩
      have hX := HX.out j
      rw [e2] at C2 hX
      have HX1 := Lib.hid hX
      have hlj := HL.out j
      clear hX e2
      go_wp2_with fail
      with_reducible refine (C2.out).mono ?_
      rintro e w2 ⟨rfl, hr, hb⟩
      have HO2 := Lib.hid ((hb.own HO.out hp).alloc (.cells #[.int .i64 x.i, .int .i64 x.a, .int .i64 x.b, .int .i64 x.c] 74))
      have HR2 := Lib.hid (hr.alloc (.cells #[.int .i64 x.i, .int .i64 x.a, .int .i64 x.b, .int .i64 x.c] 74))
      have HB2 := Lib.hid ((HB.out.trans hb).alloc hp (.cells #[.int .i64 x.i, .int .i64 x.a, .int .i64 x.b, .int .i64 x.c] 74))
      have HE2 := Lib.hid (es_one (E := ER) (x := x) (cs := #[.int .i64 x.i, .int .i64 x.a, .int .i64 x.b, .int .i64 x.c]) rfl (show (w2.alloc (.cells #[.int .i64 x.i, .int .i64 x.a, .int .i64 x.b, .int .i64 x.c] 74)).heap[w2.heap.size]? = some (.cells #[.int .i64 x.i, .int .i64 x.a, .int .i64 x.b, .int .i64 x.c] 74 (0, 0)) from heap_alloc_new _ _))
      have hsz := HB2.out.size
      clear hr hb C2 HO HR HB
      go_wp2_with (at_builtin; refine wpList_append_es rfl RV _ _ 1 rfl rfl rfl HO2.out HE2.out (by omega) (by simp) hsz ?_; intro v' w3 hown hg hat; obtain ⟨ho3, hbl⟩ := ownE_app HO2.out hown hg hsz; have hge := ownE_ge HO2.out; obtain ⟨A3, c3, rfl⟩ := ho3.form)
      go_roundw
      case rel =>
        have e3 : (X (j + 1) t).1 = (X j t).1 ++ [x] := by rw [HX1.out]
        have e4 : (X (j + 1) t).2 = t2 := by rw [HX1.out]
        have e5 : ((X j t).1 ++ [x]).length = j + 1 := by rw [List.length_append, hlj]; rfl
        refine ⟨j + 1, by omega, by go_num, A3, c3, rfl, ?_, ?_, ?_⟩
        · rw [e3, ← e5]; exact ho3
        · rw [e4]; exact HR2.out.grown hg hge hp
        · exact HB2.out.grown (by omega) hg hge
      case measure => simp [intOf]; omega
    · obtain rfl : j = k := by omega
      go_wp2_with fail
      go_ret
      exact ⟨A, c, (by rw [HL.out]; rfl), (by rw [HL.out]; exact HO.out), HR.out, HB.out⟩
end Go.Proofs.Ytfmmfaeognoleaa
/-
  What a reader reads of pictures, programs and draws, and of their lists.
-/
namespace Go.Proofs.Ytfmmfaeognoleaa
open Go.RowKit
attribute [local go_sem ↓] Go.wp_at_zero Go.wp_at_succ

theorem OwnN.less {α β : Type} {E : Elem (Lo α)} {F : Elem β} {inn : α → List β} {w : World} {base base' : Nat} {v : Value} {ls : List (Lo α)} (h : OwnN E F inn w base v ls) (hb : base' ≤ base) : OwnN E F inn w base' v ls :=
  ⟨h.own.less hb, fun l hl => (h.els l hl).imp fun _ hb2 _ => ⟨Nat.le_trans hb hb2.1, hb2.2⟩, h.cap⟩
theorem sign_le (s : St) : (rSign s).2.l.length ≤ s.l.length := up_le 1 s
theorem rC_le (s : St) : (rC s).2.l.length ≤ s.l.length := by
  unfold rC rSm
  exact Nat.le_trans (up_le _ _) (Nat.le_trans (up_le _ _) (Nat.le_trans (up_le _ _) (up_le _ _)))
theorem rI_le (s : St) : (rI s).2.l.length ≤ s.l.length := by
  unfold rI rSm
  exact Nat.le_trans (num_le _) (Nat.le_trans (up_le _ _) (Nat.le_trans (up_le _ _) (Nat.le_trans (up_le _ _) (up_le _ _))))
theorem tri_le (s : St) : (rR s).2.l.length ≤ s.l.length := by
  unfold rR
  exact Nat.le_trans (num_le _) (Nat.le_trans (num_le _) (Nat.le_trans (num_le _) (num_le _)))
theorem vert_le (s : St) : (rV s).2.l.length ≤ s.l.length := by
  unfold rV
  exact Nat.le_trans (num_le _) (Nat.le_trans (num_le _) (Nat.le_trans (num_le _) (Nat.le_trans (num_le _) (Nat.le_trans (num_le _) (Nat.le_trans (num_le _) (Nat.le_trans (num_le _) (num_le _)))))))
theorem rep_le {α : Type} {f : St → α × St} (h : ∀ s, (f s).2.l.length ≤ s.l.length) : ∀ k s, (rRep f k s).2.l.length ≤ s.l.length
  | 0, _ => Nat.le_refl _
  | k + 1, s => Nat.le_trans (h _) (rep_le h k s)
theorem all_le {α : Type} {f : St → α × St} (h : ∀ s, (f s).2.l.length ≤ s.l.length) (s : St) : (rAll f s).2.l.length ≤ s.l.length := Nat.le_trans (rep_le h _ _) (up_le _ _)
theorem tex_le (s : St) : (rT s).2.l.length ≤ s.l.length := by
  unfold rT
  exact Nat.le_trans (all_le rC_le _) (Nat.le_trans (num_le _) (num_le _))
theorem prog_le (s : St) : (rP s).2.l.length ≤ s.l.length := all_le rI_le s
theorem draw_le (s : St) : (rD s).2.l.length ≤ s.l.length := by
  unfold rD
  exact Nat.le_trans (all_le tri_le _) (Nat.le_trans (up_le _ _) (Nat.le_trans (num_le _) (Nat.le_trans (num_le _) (num_le _))))
/-- What a nested list's call reads. -/
def ReadsN {α β : Type} (E : Elem (Lo α)) (F : Elem β) (inn : α → List β) (p : Nat) (xs : List α) (t : St) (w : World) (e : Ending) (w' : World) : Prop :=
  ∃ A c ls, e = .returned (.slice A ls.length c) ∧ ls.map Lo.x = xs ∧ OwnN E F inn w' w.heap.size (.slice A ls.length c) ls ∧ Rd w' p t ∧ But p w w'
/-- What one of its elements' call reads. -/
def ReadsL {α β : Type} (F : Elem β) (inn : α → List β) (val : Lo α → Value) (p : Nat) (x : α) (t : St) (w : World) (e : Ending) (w' : World) : Prop :=
  ∃ A c, e = .returned (val ⟨x, A, c⟩) ∧ OwnE F w' w.heap.size (.slice A (inn x).length c) (inn x) ∧ Rd w' p t ∧ But p w w'
def vT (u : Lo Tx) : Value := .agg #[.int .i64 u.x.w, .int .i64 u.x.h, .slice u.A u.x.px.length u.c]
def vP (u : Lo (List C.In)) : Value := .slice u.A u.x.length u.c
def vD (u : Lo Dr) : Value := .agg #[.int .i64 u.x.id, .int .i64 u.x.prog, .int .i64 u.x.tex, .bool u.x.op, .slice u.A u.x.tris.length u.c]
set_option maxRecDepth 100000 in
set_option maxHeartbeats 2000000 in
theorem rtex_any {p : Nat} {s : St} (w : World) (h : Rd w p s) (hs : s.l.length ≤ 100000) :
    Calls Try.prog 61 #[.pointer (some ⟨p, 0, none⟩)] w (ReadsL EC Tx.px vT p (rT s).1 (rT s).2 w) := by
  have hp := h.lt
  have hmf := mk_func
  have H0 := Lib.hid (show Rd (w.alloc (.cells #[.int .i64 0, .int .i64 0, .slice none 0 0] 49)) p s from h.alloc _)
  have HB0 := Lib.hid (show But p w (w.alloc (.cells #[.int .i64 0, .int .i64 0, .slice none 0 0] 49)) from (But.refl p w).alloc hp _)
  have HG0 := Lib.hid (show (w.alloc (.cells #[.int .i64 0, .int .i64 0, .slice none 0 0] 49)).heap[w.heap.size]? = some (.cells #[.int .i64 0, .int .i64 0, .slice none 0 0] 49 (0, 0)) from heap_alloc_new _ _)
  have HZ0 := Lib.hid (show w.heap.size < (w.alloc (.cells #[.int .i64 0, .int .i64 0, .slice none 0 0] 49)).heap.size by simp)
  clear h
  obtain ⟨x1, t1, e1⟩ : ∃ x t, rNum s = (x, t) := ⟨_, _, rfl⟩
  have C1 := Lib.hid (show ∀ w, Rd w p s → Calls Try.prog 56 #[.pointer (some ⟨p, 0, none⟩)] w (Reads p (.int .i64 x1) t1 w) from fun w h => by have h2 := number_any w h; rw [e1] at h2; exact h2)
  have l1 : t1.l.length ≤ 100000 := by have h2 := num_le s; rw [e1] at h2; exact Nat.le_trans h2 hs
  obtain ⟨x2, t2, e2⟩ : ∃ x t, rNum t1 = (x, t) := ⟨_, _, rfl⟩
  have C2 := Lib.hid (show ∀ w, Rd w p t1 → Calls Try.prog 56 #[.pointer (some ⟨p, 0, none⟩)] w (Reads p (.int .i64 x2) t2 w) from fun w h => by have h2 := number_any w h; rw [e2] at h2; exact h2)
  have l2 : t2.l.length ≤ 100000 := by have h2 := num_le t1; rw [e2] at h2; exact Nat.le_trans h2 l1
  obtain ⟨x3, t3, e3⟩ : ∃ x t, rAll rC t2 = (x, t) := ⟨_, _, rfl⟩
  have C3 := Lib.hid (show ∀ w, Rd w p t2 → Calls Try.prog 90 #[.pointer (some ⟨p, 0, none⟩), .func (.func 57) #[.pointer (some ⟨p, 0, none⟩)] #[]] w (ReadsE EC p x3 t3 w) from fun w h => by have h2 := readC_any w h l2; rw [e3] at h2; exact h2)
  have hC : rT s = (⟨x1, x2, x3⟩, t3) := by unfold rT; simp only [e1, e2, e3]
  rw [hC]
  clear hC e1 e2 e3 l1 l2
  go_enter Try.func61, Try.ntmps61
  go_wp2_with fail
  with_reducible refine (C1.out _ H0.out).mono ?_
  rintro e w1 ⟨rfl, hr, hb⟩
  have HR1 := Lib.hid hr
  have HB1 := Lib.hid (HB0.out.trans hb)
  have HG1 := Lib.hid ((hb.block HZ0.out (by omega)).trans HG0.out)
  have HZ1 := Lib.hid (Nat.lt_of_lt_of_le HZ0.out hb.size)
  clear hr hb  C1 H0 HB0 HG0 HZ0 
  go_wp2_with fail
  with_reducible refine (C2.out _ HR1.out).mono ?_
  rintro e w2 ⟨rfl, hr, hb⟩
  have HR2 := Lib.hid hr
  have HB2 := Lib.hid (HB1.out.trans hb)
  have HG2 := Lib.hid ((hb.block HZ1.out (by omega)).trans HG1.out)
  have HZ2 := Lib.hid (Nat.lt_of_lt_of_le HZ1.out hb.size)
  clear hr hb  C2 HR1 HB1 HG1 HZ1 
  go_wp2_with fail
  with_reducible refine (C3.out _ HR2.out).mono ?_
  rintro e w3 ⟨A3, c3, rfl, ho, hr, hb⟩
  have HO3_3 := Lib.hid (ho.less HZ2.out)
  have HR3 := Lib.hid hr
  have HB3 := Lib.hid (HB2.out.trans hb)
  have HG3 := Lib.hid ((hb.block HZ2.out (by omega)).trans HG2.out)
  have HZ3 := Lib.hid (Nat.lt_of_lt_of_le HZ2.out hb.size)
  clear hr hb ho C3 HR2 HB2 HG2 HZ2 
  have f0 : w3.frozen? ⟨w.heap.size, 0, none⟩ = false := by simp [World.frozen?, HG3.out]
  have q0 := Joins.cell_of_block HG3.out 0
  have f1 : w3.frozen? ⟨w.heap.size, 1, none⟩ = false := by simp [World.frozen?, HG3.out]
  have q1 := Joins.cell_of_block HG3.out 1
  have f2 : w3.frozen? ⟨w.heap.size, 2, none⟩ = false := by simp [World.frozen?, HG3.out]
  have q2 := Joins.cell_of_block HG3.out 2
  have HS := Lib.hid (show ((((w3).setCell ⟨w.heap.size, 0, none⟩ (.int .i64 x1)).setCell ⟨w.heap.size, 1, none⟩ (.int .i64 x2)).setCell ⟨w.heap.size, 2, none⟩ (.slice A3 x3.length c3)).heap[w.heap.size]? = some (.cells #[.int .i64 x1, .int .i64 x2, .slice A3 x3.length c3] 49 (0, 0)) from (heap_setCell_same _ _ _ _ _ _ (heap_setCell_same _ _ _ _ _ _ (heap_setCell_same _ _ _ _ _ _ HG3.out))).trans (by simp))
  have HX := Lib.hid (show Rd ((((w3).setCell ⟨w.heap.size, 0, none⟩ (.int .i64 x1)).setCell ⟨w.heap.size, 1, none⟩ (.int .i64 x2)).setCell ⟨w.heap.size, 2, none⟩ (.slice A3 x3.length c3)) p t3 from (((HR3.out.setNew hp).setNew hp).setNew hp))
  have HY := Lib.hid (show But p w ((((w3).setCell ⟨w.heap.size, 0, none⟩ (.int .i64 x1)).setCell ⟨w.heap.size, 1, none⟩ (.int .i64 x2)).setCell ⟨w.heap.size, 2, none⟩ (.slice A3 x3.length c3)) from (((HB3.out.setNew (by omega) (Nat.le_refl _)).setNew (by omega) (Nat.le_refl _)).setNew (by omega) (Nat.le_refl _)))
  have HO3 := Lib.hid (show OwnE EC ((((w3).setCell ⟨w.heap.size, 0, none⟩ (.int .i64 x1)).setCell ⟨w.heap.size, 1, none⟩ (.int .i64 x2)).setCell ⟨w.heap.size, 2, none⟩ (.slice A3 x3.length c3)) (w.heap.size + 1) (.slice A3 x3.length c3) x3 from (((HO3_3.out.setCell (Nat.lt_succ_self _)).setCell (Nat.lt_succ_self _)).setCell (Nat.lt_succ_self _)))
  go_wp2_with fail
  obtain ⟨W, hW⟩ : ∃ W, (((w3).setCell ⟨w.heap.size, 0, none⟩ (.int .i64 x1)).setCell ⟨w.heap.size, 1, none⟩ (.int .i64 x2)).setCell ⟨w.heap.size, 2, none⟩ (.slice A3 x3.length c3) = W := ⟨_, rfl⟩
  rw [hW] at HS HX HY HO3
  try rw [hW]
  have k0 := Joins.cell_of_block HS.out 0
  have k1 := Joins.cell_of_block HS.out 1
  have k2 := Joins.cell_of_block HS.out 2
  refine bodyPost_ret (v := .agg #[.int .i64 x1, .int .i64 x2, .slice A3 x3.length c3]) (by simp [results, Try.results61, go_sem, k0, k1, k2]) rfl ?_
  exact ⟨A3, c3, rfl, HO3.out.less (Nat.le_succ _), HX.out, HY.out⟩
set_option maxRecDepth 100000 in
set_option maxHeartbeats 2000000 in
theorem readT_any {p : Nat} {s : St} (w : World) (h : Rd w p s) (hs : s.l.length ≤ 100000) :
    Calls Try.prog 60 #[.pointer (some ⟨p, 0, none⟩), .func (.func 61) #[.pointer (some ⟨p, 0, none⟩)] #[]] w (ReadsN ET EC Tx.px p (rAll rT s).1 (rAll rT s).2 w) := by
  obtain ⟨RV⟩ := rowT
  have hp := h.lt
  have hmb := many_bd s
  obtain ⟨n, t, e1⟩ : ∃ n t, rMany s = (n, t) := ⟨_, _, rfl⟩
  have C1 := Lib.hid (show Calls Try.prog 89 #[.pointer (some ⟨p, 0, none⟩), .int .i64 ((s.l.length : Int) - 1)] w (Reads p (.int .i64 n) t w) from by
    have h2 := upTo_any ((s.l.length : Int) - 1) w h
    have e2 : rUp ((s.l.length : Int) - 1) s = (n, t) := e1
    rw [e2] at h2
    exact h2)
  have htl : t.l.length ≤ 100000 := by
    have h2 := up_le ((s.l.length : Int) - 1) s
    have e2 : rUp ((s.l.length : Int) - 1) s = (n, t) := e1
    rw [e2] at h2
    exact Nat.le_trans h2 hs
  rw [e1] at hmb
  dsimp only at hmb
  have hw : IntKind.i64.wrap ((s.l.length : Int) - 1) = (s.l.length : Int) - 1 := by rw [IntKind.wrap_i64]; omega
  obtain ⟨A0, c0, hb0, -, -⟩ := h
  have k0 := (rdB_cell hb0).1
  obtain ⟨m, hm⟩ : ∃ m, s.l.length = m := ⟨_, rfl⟩
  obtain ⟨k, rfl⟩ : ∃ k : Nat, n = k := ⟨n.toNat, by omega⟩
  have eA : rAll rT s = rRep rT k t := by unfold rAll; rw [e1]; rfl
  rw [eA]
  have HX := Lib.hid (show ∀ j, rRep rT (j + 1) t = ((rRep rT j t).1 ++ [(rT (rRep rT j t).2).1], (rT (rRep rT j t).2).2) from fun _ => rfl)
  have HL := Lib.hid (show ∀ j, (rRep rT j t).1.length = j from fun j => rep_len j t)
  have HLe := Lib.hid (show ∀ j, (rRep rT j t).2.l.length ≤ 100000 from fun j => Nat.le_trans (rep_le tex_le j t) htl)
  have H00 := Lib.hid (show rRep rT 0 t = ([], t) from rfl)
  generalize rRep rT = X at *
  rw [hm] at k0 hs hw hmb C1
  clear hb0 e1 eA hm htl
  go_enter Try.func60, Try.ntmps60
  go_wp2_with fail
  with_reducible refine (C1.out).mono ?_
  rintro e w1 ⟨rfl, hr, hb⟩
  have HR1 := Lib.hid hr
  have HB1 := Lib.hid hb
  clear hr hb C1 k0
  go_wp2_with fail
  go_loopw [6, 16] (fun v i wr => ∃ j : Nat, j ≤ k ∧ i = .int .i64 j ∧ ∃ A c ls, v = .slice A j c ∧ ls.length = j ∧ ls.map Lo.x = (X j t).1 ∧ OwnN ET EC Tx.px wr w.heap.size (.slice A j c) ls ∧ Rd wr p (X j t).2 ∧ But p w wr) (fun _ i _ => k - (intOf i).toNat)
  case atStart => exact ⟨0, Nat.zero_le _, rfl, none, 0, [], rfl, rfl, (by rw [H00.out]; rfl), OwnN.nil _ _, (by rw [H00.out]; exact HR1.out), HB1.out⟩
  case round =>
    obtain ⟨j, hk, rfl, A, c, ls, rfl, hlj, hmp, ho, hr, hb⟩ := hrel
    have HO := Lib.hid ho
    have HR := Lib.hid hr
    have HB := Lib.hid hb
    have HMp := Lib.hid hmp
    clear ho hr hb hmp HR1 HB1
    by_cases hlt : j < k
    · have C2 := Lib.hid (rtex_any wr HR.out (HLe.out j))
      obtain ⟨x, t2, e2⟩ : ∃ x t2, rT (X j t).2 = (x, t2) := ⟨_, _, rfl⟩
      have hX := HX.out j
      rw [e2] at C2 hX
      have HX1 := Lib.hid hX
      clear hX e2
      go_wp2_with fail
      with_reducible refine (C2.out).mono ?_
      rintro e w2 ⟨A2, c2, he, hoi, hr, hb⟩
      obtain rfl : e = .returned (.agg #[.int .i64 (⟨x, A2, c2⟩ : Lo Tx).x.w, .int .i64 (⟨x, A2, c2⟩ : Lo Tx).x.h, .slice (⟨x, A2, c2⟩ : Lo Tx).A (⟨x, A2, c2⟩ : Lo Tx).x.px.length (⟨x, A2, c2⟩ : Lo Tx).c]) := he
      have HO1 := Lib.hid (hb.ownN HO.out hp)
      have HI2 := Lib.hid (show EsP EC (w2.alloc (.cells #[.int .i64 (⟨x, A2, c2⟩ : Lo Tx).x.w, .int .i64 (⟨x, A2, c2⟩ : Lo Tx).x.h, .slice (⟨x, A2, c2⟩ : Lo Tx).A (⟨x, A2, c2⟩ : Lo Tx).x.px.length (⟨x, A2, c2⟩ : Lo Tx).c] 49)) (fun b => w.heap.size ≤ b ∧ (Value.slice A j c).ownBlock ≠ some b) A2 (Tx.px x) from
        ((OwnE.toP hoi).imp fun b hb2 _ => ⟨by have := HB.out.size; omega, fun e => by have := ownE_lt HO.out.own e; omega⟩).keep fun b _ hlt => (new_below w2 _).block b hlt)
      have HC2 := Lib.hid (ownE_es hoi).2.1
      have HO2 := Lib.hid ((hb.ownN HO.out hp).keep (new_below w2 (.cells #[.int .i64 (⟨x, A2, c2⟩ : Lo Tx).x.w, .int .i64 (⟨x, A2, c2⟩ : Lo Tx).x.h, .slice (⟨x, A2, c2⟩ : Lo Tx).A (⟨x, A2, c2⟩ : Lo Tx).x.px.length (⟨x, A2, c2⟩ : Lo Tx).c] 49)))
      have HR2 := Lib.hid (hr.alloc (.cells #[.int .i64 (⟨x, A2, c2⟩ : Lo Tx).x.w, .int .i64 (⟨x, A2, c2⟩ : Lo Tx).x.h, .slice (⟨x, A2, c2⟩ : Lo Tx).A (⟨x, A2, c2⟩ : Lo Tx).x.px.length (⟨x, A2, c2⟩ : Lo Tx).c] 49))
      have HB2 := Lib.hid ((HB.out.trans hb).alloc hp (.cells #[.int .i64 (⟨x, A2, c2⟩ : Lo Tx).x.w, .int .i64 (⟨x, A2, c2⟩ : Lo Tx).x.h, .slice (⟨x, A2, c2⟩ : Lo Tx).A (⟨x, A2, c2⟩ : Lo Tx).x.px.length (⟨x, A2, c2⟩ : Lo Tx).c] 49))
      have HE2 := Lib.hid (es_one (E := ET) (x := ⟨x, A2, c2⟩) (cs := #[.int .i64 (⟨x, A2, c2⟩ : Lo Tx).x.w, .int .i64 (⟨x, A2, c2⟩ : Lo Tx).x.h, .slice (⟨x, A2, c2⟩ : Lo Tx).A (⟨x, A2, c2⟩ : Lo Tx).x.px.length (⟨x, A2, c2⟩ : Lo Tx).c]) rfl (show (w2.alloc (.cells #[.int .i64 (⟨x, A2, c2⟩ : Lo Tx).x.w, .int .i64 (⟨x, A2, c2⟩ : Lo Tx).x.h, .slice (⟨x, A2, c2⟩ : Lo Tx).A (⟨x, A2, c2⟩ : Lo Tx).x.px.length (⟨x, A2, c2⟩ : Lo Tx).c] 49)).heap[w2.heap.size]? = some (.cells #[.int .i64 (⟨x, A2, c2⟩ : Lo Tx).x.w, .int .i64 (⟨x, A2, c2⟩ : Lo Tx).x.h, .slice (⟨x, A2, c2⟩ : Lo Tx).A (⟨x, A2, c2⟩ : Lo Tx).x.px.length (⟨x, A2, c2⟩ : Lo Tx).c] 49 (0, 0)) from heap_alloc_new _ _))
      have hsz := HB2.out.size
      have hsz2 := (HB.out.trans hb).size
      clear hr hb hoi C2 HO HR HB
      
      go_wp2_with (at_builtin; refine wpList_append_ln rfl RV _ _ 1 1 (show [(⟨x, A2, c2⟩ : Lo (Tx))].length = 1 from rfl) rfl rfl rfl HO2.out.own HE2.out (by omega) (by simp) hsz ?_; intro v' w3 hown hg hat; obtain ⟨ho3, hbl⟩ := HO1.out.app (new_below w2 (.cells #[.int .i64 (⟨x, A2, c2⟩ : Lo Tx).x.w, .int .i64 (⟨x, A2, c2⟩ : Lo Tx).x.h, .slice (⟨x, A2, c2⟩ : Lo Tx).A (⟨x, A2, c2⟩ : Lo Tx).x.px.length (⟨x, A2, c2⟩ : Lo Tx).c] 49)) hsz2 (by simpa [Elem.flat] using hown) hg hat HI2.out HC2.out; have hge := ownE_ge HO2.out.own; obtain ⟨A3, c3, rfl⟩ := ho3.own.form)
      go_roundw
      case rel =>
        have e3 : (X (j + 1) t).1 = (X j t).1 ++ [x] := by rw [HX1.out]
        have e4 : (X (j + 1) t).2 = t2 := by rw [HX1.out]
        have e5 : (ls ++ [(⟨x, A2, c2⟩ : Lo (Tx))]).length = j + 1 := by rw [List.length_append, hlj]; rfl
        refine ⟨j + 1, by omega, by go_num, A3, c3, ls ++ [⟨x, A2, c2⟩], ?_, e5, ?_, ?_, ?_, ?_⟩
        · rw [← e5]
        · rw [e3, List.map_append, HMp.out]; rfl
        · rw [← e5]; exact ho3
        · rw [e4]; exact HR2.out.grown hg hge hp
        · exact HB2.out.grown (by omega) hg hge
      case measure => simp [intOf]; omega
    · obtain rfl : j = k := by omega
      go_wp2_with fail
      go_ret
      exact ⟨A, c, ls, (by rw [hlj]; rfl), HMp.out, (by rw [hlj]; exact HO.out), HR.out, HB.out⟩
set_option maxRecDepth 100000 in
set_option maxHeartbeats 1000000 in
theorem rprog_any {p : Nat} {s : St} (w : World) (h : Rd w p s) (hs : s.l.length ≤ 100000) :
    Calls Try.prog 63 #[.pointer (some ⟨p, 0, none⟩)] w (ReadsL C.EI id vP p (rP s).1 (rP s).2 w) := by
  have hmf := mk_func
  have H := Lib.hid (readI_any w h hs)
  have e : rP s = rAll rI s := rfl
  rw [e]
  generalize rAll rI s = r at *
  obtain ⟨x, t⟩ := r
  dsimp only at *
  clear h e
  go_enter Try.func63, Try.ntmps63
  go_wp2_with fail
  with_reducible refine (H.out).mono ?_
  rintro e w1 ⟨A, c, rfl, ho, hr, hb⟩
  have HR := Lib.hid (And.intro ho (And.intro hr hb))
  clear ho hr hb
  go_wp2_with fail
  go_ret
  exact ⟨A, c, rfl, HR.out.1, HR.out.2.1, HR.out.2.2⟩
set_option maxRecDepth 100000 in
set_option maxHeartbeats 2000000 in
theorem readP_any {p : Nat} {s : St} (w : World) (h : Rd w p s) (hs : s.l.length ≤ 100000) :
    Calls Try.prog 62 #[.pointer (some ⟨p, 0, none⟩), .func (.func 63) #[.pointer (some ⟨p, 0, none⟩)] #[]] w (ReadsN EP C.EI id p (rAll rP s).1 (rAll rP s).2 w) := by
  obtain ⟨RV⟩ := rowP
  have hp := h.lt
  have hmb := many_bd s
  obtain ⟨n, t, e1⟩ : ∃ n t, rMany s = (n, t) := ⟨_, _, rfl⟩
  have C1 := Lib.hid (show Calls Try.prog 89 #[.pointer (some ⟨p, 0, none⟩), .int .i64 ((s.l.length : Int) - 1)] w (Reads p (.int .i64 n) t w) from by
    have h2 := upTo_any ((s.l.length : Int) - 1) w h
    have e2 : rUp ((s.l.length : Int) - 1) s = (n, t) := e1
    rw [e2] at h2
    exact h2)
  have htl : t.l.length ≤ 100000 := by
    have h2 := up_le ((s.l.length : Int) - 1) s
    have e2 : rUp ((s.l.length : Int) - 1) s = (n, t) := e1
    rw [e2] at h2
    exact Nat.le_trans h2 hs
  rw [e1] at hmb
  dsimp only at hmb
  have hw : IntKind.i64.wrap ((s.l.length : Int) - 1) = (s.l.length : Int) - 1 := by rw [IntKind.wrap_i64]; omega
  obtain ⟨A0, c0, hb0, -, -⟩ := h
  have k0 := (rdB_cell hb0).1
  obtain ⟨m, hm⟩ : ∃ m, s.l.length = m := ⟨_, rfl⟩
  obtain ⟨k, rfl⟩ : ∃ k : Nat, n = k := ⟨n.toNat, by omega⟩
  have eA : rAll rP s = rRep rP k t := by unfold rAll; rw [e1]; rfl
  rw [eA]
  have HX := Lib.hid (show ∀ j, rRep rP (j + 1) t = ((rRep rP j t).1 ++ [(rP (rRep rP j t).2).1], (rP (rRep rP j t).2).2) from fun _ => rfl)
  have HL := Lib.hid (show ∀ j, (rRep rP j t).1.length = j from fun j => rep_len j t)
  have HLe := Lib.hid (show ∀ j, (rRep rP j t).2.l.length ≤ 100000 from fun j => Nat.le_trans (rep_le prog_le j t) htl)
  have H00 := Lib.hid (show rRep rP 0 t = ([], t) from rfl)
  generalize rRep rP = X at *
  rw [hm] at k0 hs hw hmb C1
  clear hb0 e1 eA hm htl
  go_enter Try.func62, Try.ntmps62
  go_wp2_with fail
  with_reducible refine (C1.out).mono ?_
  rintro e w1 ⟨rfl, hr, hb⟩
  have HR1 := Lib.hid hr
  have HB1 := Lib.hid hb
  clear hr hb C1 k0
  go_wp2_with fail
  go_loopw [6, 16] (fun v i wr => ∃ j : Nat, j ≤ k ∧ i = .int .i64 j ∧ ∃ A c ls, v = .slice A j c ∧ ls.length = j ∧ ls.map Lo.x = (X j t).1 ∧ OwnN EP C.EI id wr w.heap.size (.slice A j c) ls ∧ Rd wr p (X j t).2 ∧ But p w wr) (fun _ i _ => k - (intOf i).toNat)
  case atStart => exact ⟨0, Nat.zero_le _, rfl, none, 0, [], rfl, rfl, (by rw [H00.out]; rfl), OwnN.nil _ _, (by rw [H00.out]; exact HR1.out), HB1.out⟩
  case round =>
    obtain ⟨j, hk, rfl, A, c, ls, rfl, hlj, hmp, ho, hr, hb⟩ := hrel
    have HO := Lib.hid ho
    have HR := Lib.hid hr
    have HB := Lib.hid hb
    have HMp := Lib.hid hmp
    clear ho hr hb hmp HR1 HB1
    by_cases hlt : j < k
    · have C2 := Lib.hid (rprog_any wr HR.out (HLe.out j))
      obtain ⟨x, t2, e2⟩ : ∃ x t2, rP (X j t).2 = (x, t2) := ⟨_, _, rfl⟩
      have hX := HX.out j
      rw [e2] at C2 hX
      have HX1 := Lib.hid hX
      clear hX e2
      go_wp2_with fail
      with_reducible refine (C2.out).mono ?_
      rintro e w2 ⟨A2, c2, he, hoi, hr, hb⟩
      obtain rfl : e = .returned (.slice (⟨x, A2, c2⟩ : Lo (List C.In)).A (⟨x, A2, c2⟩ : Lo (List C.In)).x.length (⟨x, A2, c2⟩ : Lo (List C.In)).c) := he
      have HO1 := Lib.hid (hb.ownN HO.out hp)
      have HI2 := Lib.hid (show EsP C.EI (w2.alloc (.cells #[.slice (⟨x, A2, c2⟩ : Lo (List C.In)).A (⟨x, A2, c2⟩ : Lo (List C.In)).x.length (⟨x, A2, c2⟩ : Lo (List C.In)).c] 65)) (fun b => w.heap.size ≤ b ∧ (Value.slice A j c).ownBlock ≠ some b) A2 (id x) from
        ((OwnE.toP hoi).imp fun b hb2 _ => ⟨by have := HB.out.size; omega, fun e => by have := ownE_lt HO.out.own e; omega⟩).keep fun b _ hlt => (new_below w2 _).block b hlt)
      have HC2 := Lib.hid (ownE_es hoi).2.1
      have HO2 := Lib.hid ((hb.ownN HO.out hp).keep (new_below w2 (.cells #[.slice (⟨x, A2, c2⟩ : Lo (List C.In)).A (⟨x, A2, c2⟩ : Lo (List C.In)).x.length (⟨x, A2, c2⟩ : Lo (List C.In)).c] 65)))
      have HR2 := Lib.hid (hr.alloc (.cells #[.slice (⟨x, A2, c2⟩ : Lo (List C.In)).A (⟨x, A2, c2⟩ : Lo (List C.In)).x.length (⟨x, A2, c2⟩ : Lo (List C.In)).c] 65))
      have HB2 := Lib.hid ((HB.out.trans hb).alloc hp (.cells #[.slice (⟨x, A2, c2⟩ : Lo (List C.In)).A (⟨x, A2, c2⟩ : Lo (List C.In)).x.length (⟨x, A2, c2⟩ : Lo (List C.In)).c] 65))
      have HE2 := Lib.hid (es_one (E := EP) (x := ⟨x, A2, c2⟩) (cs := #[.slice (⟨x, A2, c2⟩ : Lo (List C.In)).A (⟨x, A2, c2⟩ : Lo (List C.In)).x.length (⟨x, A2, c2⟩ : Lo (List C.In)).c]) rfl (show (w2.alloc (.cells #[.slice (⟨x, A2, c2⟩ : Lo (List C.In)).A (⟨x, A2, c2⟩ : Lo (List C.In)).x.length (⟨x, A2, c2⟩ : Lo (List C.In)).c] 65)).heap[w2.heap.size]? = some (.cells #[.slice (⟨x, A2, c2⟩ : Lo (List C.In)).A (⟨x, A2, c2⟩ : Lo (List C.In)).x.length (⟨x, A2, c2⟩ : Lo (List C.In)).c] 65 (0, 0)) from heap_alloc_new _ _))
      have hsz := HB2.out.size
      have hsz2 := (HB.out.trans hb).size
      clear hr hb hoi C2 HO HR HB
      
      go_wp2_with (at_builtin; refine wpList_append_ln rfl RV _ _ 1 1 (show [(⟨x, A2, c2⟩ : Lo (List C.In))].length = 1 from rfl) rfl rfl rfl HO2.out.own HE2.out (by omega) (by simp) hsz ?_; intro v' w3 hown hg hat; obtain ⟨ho3, hbl⟩ := HO1.out.app (new_below w2 (.cells #[.slice (⟨x, A2, c2⟩ : Lo (List C.In)).A (⟨x, A2, c2⟩ : Lo (List C.In)).x.length (⟨x, A2, c2⟩ : Lo (List C.In)).c] 65)) hsz2 (by simpa [Elem.flat] using hown) hg hat HI2.out HC2.out; have hge := ownE_ge HO2.out.own; obtain ⟨A3, c3, rfl⟩ := ho3.own.form)
      go_roundw
      case rel =>
        have e3 : (X (j + 1) t).1 = (X j t).1 ++ [x] := by rw [HX1.out]
        have e4 : (X (j + 1) t).2 = t2 := by rw [HX1.out]
        have e5 : (ls ++ [(⟨x, A2, c2⟩ : Lo (List C.In))]).length = j + 1 := by rw [List.length_append, hlj]; rfl
        refine ⟨j + 1, by omega, by go_num, A3, c3, ls ++ [⟨x, A2, c2⟩], ?_, e5, ?_, ?_, ?_, ?_⟩
        · rw [← e5]
        · rw [e3, List.map_append, HMp.out]; rfl
        · rw [← e5]; exact ho3
        · rw [e4]; exact HR2.out.grown hg hge hp
        · exact HB2.out.grown (by omega) hg hge
      case measure => simp [intOf]; omega
    · obtain rfl : j = k := by omega
      go_wp2_with fail
      go_ret
      exact ⟨A, c, ls, (by rw [hlj]; rfl), HMp.out, (by rw [hlj]; exact HO.out), HR.out, HB.out⟩
set_option maxRecDepth 100000 in
set_option maxHeartbeats 2000000 in
theorem rddraw_any {p : Nat} {s : St} (w : World) (h : Rd w p s) (hs : s.l.length ≤ 100000) :
    Calls Try.prog 65 #[.pointer (some ⟨p, 0, none⟩)] w (ReadsL ER Dr.tris vD p (rD s).1 (rD s).2 w) := by
  have hp := h.lt
  have hmf := mk_func
  have H0 := Lib.hid (show Rd (w.alloc (.cells #[.int .i64 0, .int .i64 0, .int .i64 0, .bool false, .slice none 0 0] 52)) p s from h.alloc _)
  have HB0 := Lib.hid (show But p w (w.alloc (.cells #[.int .i64 0, .int .i64 0, .int .i64 0, .bool false, .slice none 0 0] 52)) from (But.refl p w).alloc hp _)
  have HG0 := Lib.hid (show (w.alloc (.cells #[.int .i64 0, .int .i64 0, .int .i64 0, .bool false, .slice none 0 0] 52)).heap[w.heap.size]? = some (.cells #[.int .i64 0, .int .i64 0, .int .i64 0, .bool false, .slice none 0 0] 52 (0, 0)) from heap_alloc_new _ _)
  have HZ0 := Lib.hid (show w.heap.size < (w.alloc (.cells #[.int .i64 0, .int .i64 0, .int .i64 0, .bool false, .slice none 0 0] 52)).heap.size by simp)
  clear h
  obtain ⟨x1, t1, e1⟩ : ∃ x t, rNum s = (x, t) := ⟨_, _, rfl⟩
  have C1 := Lib.hid (show ∀ w, Rd w p s → Calls Try.prog 56 #[.pointer (some ⟨p, 0, none⟩)] w (Reads p (.int .i64 x1) t1 w) from fun w h => by have h2 := number_any w h; rw [e1] at h2; exact h2)
  have l1 : t1.l.length ≤ 100000 := by have h2 := num_le s; rw [e1] at h2; exact Nat.le_trans h2 hs
  obtain ⟨x2, t2, e2⟩ : ∃ x t, rNum t1 = (x, t) := ⟨_, _, rfl⟩
  have C2 := Lib.hid (show ∀ w, Rd w p t1 → Calls Try.prog 56 #[.pointer (some ⟨p, 0, none⟩)] w (Reads p (.int .i64 x2) t2 w) from fun w h => by have h2 := number_any w h; rw [e2] at h2; exact h2)
  have l2 : t2.l.length ≤ 100000 := by have h2 := num_le t1; rw [e2] at h2; exact Nat.le_trans h2 l1
  obtain ⟨x3, t3, e3⟩ : ∃ x t, rNum t2 = (x, t) := ⟨_, _, rfl⟩
  have C3 := Lib.hid (show ∀ w, Rd w p t2 → Calls Try.prog 56 #[.pointer (some ⟨p, 0, none⟩)] w (Reads p (.int .i64 x3) t3 w) from fun w h => by have h2 := number_any w h; rw [e3] at h2; exact h2)
  have l3 : t3.l.length ≤ 100000 := by have h2 := num_le t2; rw [e3] at h2; exact Nat.le_trans h2 l2
  obtain ⟨x4, t4, e4⟩ : ∃ x t, rSign t3 = (x, t) := ⟨_, _, rfl⟩
  have C4 := Lib.hid (show ∀ w, Rd w p t3 → Calls Try.prog 93 #[.pointer (some ⟨p, 0, none⟩)] w (Reads p (.bool x4) t4 w) from fun w h => by have h2 := sign_any w h; rw [e4] at h2; exact h2)
  have l4 : t4.l.length ≤ 100000 := by have h2 := sign_le t3; rw [e4] at h2; exact Nat.le_trans h2 l3
  obtain ⟨x5, t5, e5⟩ : ∃ x t, rAll rR t4 = (x, t) := ⟨_, _, rfl⟩
  have C5 := Lib.hid (show ∀ w, Rd w p t4 → Calls Try.prog 94 #[.pointer (some ⟨p, 0, none⟩), .func (.func 95) #[.pointer (some ⟨p, 0, none⟩)] #[]] w (ReadsE ER p x5 t5 w) from fun w h => by have h2 := readR_any w h l4; rw [e5] at h2; exact h2)
  have hC : rD s = (⟨x1, x2, x3, x4, x5⟩, t5) := by unfold rD; simp only [e1, e2, e3, e4, e5]
  rw [hC]
  clear hC e1 e2 e3 e4 e5 l1 l2 l3 l4
  go_enter Try.func65, Try.ntmps65
  go_wp2_with fail
  with_reducible refine (C1.out _ H0.out).mono ?_
  rintro e w1 ⟨rfl, hr, hb⟩
  have HR1 := Lib.hid hr
  have HB1 := Lib.hid (HB0.out.trans hb)
  have HG1 := Lib.hid ((hb.block HZ0.out (by omega)).trans HG0.out)
  have HZ1 := Lib.hid (Nat.lt_of_lt_of_le HZ0.out hb.size)
  clear hr hb  C1 H0 HB0 HG0 HZ0 
  go_wp2_with fail
  with_reducible refine (C2.out _ HR1.out).mono ?_
  rintro e w2 ⟨rfl, hr, hb⟩
  have HR2 := Lib.hid hr
  have HB2 := Lib.hid (HB1.out.trans hb)
  have HG2 := Lib.hid ((hb.block HZ1.out (by omega)).trans HG1.out)
  have HZ2 := Lib.hid (Nat.lt_of_lt_of_le HZ1.out hb.size)
  clear hr hb  C2 HR1 HB1 HG1 HZ1 
  go_wp2_with fail
  with_reducible refine (C3.out _ HR2.out).mono ?_
  rintro e w3 ⟨rfl, hr, hb⟩
  have HR3 := Lib.hid hr
  have HB3 := Lib.hid (HB2.out.trans hb)
  have HG3 := Lib.hid ((hb.block HZ2.out (by omega)).trans HG2.out)
  have HZ3 := Lib.hid (Nat.lt_of_lt_of_le HZ2.out hb.size)
  clear hr hb  C3 HR2 HB2 HG2 HZ2 
  go_wp2_with fail
  with_reducible refine (C4.out _ HR3.out).mono ?_
  rintro e w4 ⟨rfl, hr, hb⟩
  have HR4 := Lib.hid hr
  have HB4 := Lib.hid (HB3.out.trans hb)
  have HG4 := Lib.hid ((hb.block HZ3.out (by omega)).trans HG3.out)
  have HZ4 := Lib.hid (Nat.lt_of_lt_of_le HZ3.out hb.size)
  clear hr hb  C4 HR3 HB3 HG3 HZ3 
  go_wp2_with fail
  with_reducible refine (C5.out _ HR4.out).mono ?_
  rintro e w5 ⟨A5, c5, rfl, ho, hr, hb⟩
  have HO5_5 := Lib.hid (ho.less HZ4.out)
  have HR5 := Lib.hid hr
  have HB5 := Lib.hid (HB4.out.trans hb)
  have HG5 := Lib.hid ((hb.block HZ4.out (by omega)).trans HG4.out)
  have HZ5 := Lib.hid (Nat.lt_of_lt_of_le HZ4.out hb.size)
  clear hr hb ho C5 HR4 HB4 HG4 HZ4 
  have f0 : w5.frozen? ⟨w.heap.size, 0, none⟩ = false := by simp [World.frozen?, HG5.out]
  have q0 := Joins.cell_of_block HG5.out 0
  have f1 : w5.frozen? ⟨w.heap.size, 1, none⟩ = false := by simp [World.frozen?, HG5.out]
  have q1 := Joins.cell_of_block HG5.out 1
  have f2 : w5.frozen? ⟨w.heap.size, 2, none⟩ = false := by simp [World.frozen?, HG5.out]
  have q2 := Joins.cell_of_block HG5.out 2
  have f3 : w5.frozen? ⟨w.heap.size, 3, none⟩ = false := by simp [World.frozen?, HG5.out]
  have q3 := Joins.cell_of_block HG5.out 3
  have f4 : w5.frozen? ⟨w.heap.size, 4, none⟩ = false := by simp [World.frozen?, HG5.out]
  have q4 := Joins.cell_of_block HG5.out 4
  have HS := Lib.hid (show ((((((w5).setCell ⟨w.heap.size, 0, none⟩ (.int .i64 x1)).setCell ⟨w.heap.size, 1, none⟩ (.int .i64 x2)).setCell ⟨w.heap.size, 2, none⟩ (.int .i64 x3)).setCell ⟨w.heap.size, 3, none⟩ (.bool x4)).setCell ⟨w.heap.size, 4, none⟩ (.slice A5 x5.length c5)).heap[w.heap.size]? = some (.cells #[.int .i64 x1, .int .i64 x2, .int .i64 x3, .bool x4, .slice A5 x5.length c5] 52 (0, 0)) from (heap_setCell_same _ _ _ _ _ _ (heap_setCell_same _ _ _ _ _ _ (heap_setCell_same _ _ _ _ _ _ (heap_setCell_same _ _ _ _ _ _ (heap_setCell_same _ _ _ _ _ _ HG5.out))))).trans (by simp))
  have HX := Lib.hid (show Rd ((((((w5).setCell ⟨w.heap.size, 0, none⟩ (.int .i64 x1)).setCell ⟨w.heap.size, 1, none⟩ (.int .i64 x2)).setCell ⟨w.heap.size, 2, none⟩ (.int .i64 x3)).setCell ⟨w.heap.size, 3, none⟩ (.bool x4)).setCell ⟨w.heap.size, 4, none⟩ (.slice A5 x5.length c5)) p t5 from (((((HR5.out.setNew hp).setNew hp).setNew hp).setNew hp).setNew hp))
  have HY := Lib.hid (show But p w ((((((w5).setCell ⟨w.heap.size, 0, none⟩ (.int .i64 x1)).setCell ⟨w.heap.size, 1, none⟩ (.int .i64 x2)).setCell ⟨w.heap.size, 2, none⟩ (.int .i64 x3)).setCell ⟨w.heap.size, 3, none⟩ (.bool x4)).setCell ⟨w.heap.size, 4, none⟩ (.slice A5 x5.length c5)) from (((((HB5.out.setNew (by omega) (Nat.le_refl _)).setNew (by omega) (Nat.le_refl _)).setNew (by omega) (Nat.le_refl _)).setNew (by omega) (Nat.le_refl _)).setNew (by omega) (Nat.le_refl _)))
  have HO5 := Lib.hid (show OwnE ER ((((((w5).setCell ⟨w.heap.size, 0, none⟩ (.int .i64 x1)).setCell ⟨w.heap.size, 1, none⟩ (.int .i64 x2)).setCell ⟨w.heap.size, 2, none⟩ (.int .i64 x3)).setCell ⟨w.heap.size, 3, none⟩ (.bool x4)).setCell ⟨w.heap.size, 4, none⟩ (.slice A5 x5.length c5)) (w.heap.size + 1) (.slice A5 x5.length c5) x5 from (((((HO5_5.out.setCell (Nat.lt_succ_self _)).setCell (Nat.lt_succ_self _)).setCell (Nat.lt_succ_self _)).setCell (Nat.lt_succ_self _)).setCell (Nat.lt_succ_self _)))
  go_wp2_with fail
  obtain ⟨W, hW⟩ : ∃ W, (((((w5).setCell ⟨w.heap.size, 0, none⟩ (.int .i64 x1)).setCell ⟨w.heap.size, 1, none⟩ (.int .i64 x2)).setCell ⟨w.heap.size, 2, none⟩ (.int .i64 x3)).setCell ⟨w.heap.size, 3, none⟩ (.bool x4)).setCell ⟨w.heap.size, 4, none⟩ (.slice A5 x5.length c5) = W := ⟨_, rfl⟩
  rw [hW] at HS HX HY HO5
  try rw [hW]
  have k0 := Joins.cell_of_block HS.out 0
  have k1 := Joins.cell_of_block HS.out 1
  have k2 := Joins.cell_of_block HS.out 2
  have k3 := Joins.cell_of_block HS.out 3
  have k4 := Joins.cell_of_block HS.out 4
  refine bodyPost_ret (v := .agg #[.int .i64 x1, .int .i64 x2, .int .i64 x3, .bool x4, .slice A5 x5.length c5]) (by simp [results, Try.results65, go_sem, k0, k1, k2, k3, k4]) rfl ?_
  exact ⟨A5, c5, rfl, HO5.out.less (Nat.le_succ _), HX.out, HY.out⟩
set_option maxRecDepth 100000 in
set_option maxHeartbeats 2000000 in
theorem readD_any {p : Nat} {s : St} (w : World) (h : Rd w p s) (hs : s.l.length ≤ 100000) :
    Calls Try.prog 64 #[.pointer (some ⟨p, 0, none⟩), .func (.func 65) #[.pointer (some ⟨p, 0, none⟩)] #[]] w (ReadsN ED ER Dr.tris p (rAll rD s).1 (rAll rD s).2 w) := by
  obtain ⟨RV⟩ := rowD
  have hp := h.lt
  have hmb := many_bd s
  obtain ⟨n, t, e1⟩ : ∃ n t, rMany s = (n, t) := ⟨_, _, rfl⟩
  have C1 := Lib.hid (show Calls Try.prog 89 #[.pointer (some ⟨p, 0, none⟩), .int .i64 ((s.l.length : Int) - 1)] w (Reads p (.int .i64 n) t w) from by
    have h2 := upTo_any ((s.l.length : Int) - 1) w h
    have e2 : rUp ((s.l.length : Int) - 1) s = (n, t) := e1
    rw [e2] at h2
    exact h2)
  have htl : t.l.length ≤ 100000 := by
    have h2 := up_le ((s.l.length : Int) - 1) s
    have e2 : rUp ((s.l.length : Int) - 1) s = (n, t) := e1
    rw [e2] at h2
    exact Nat.le_trans h2 hs
  rw [e1] at hmb
  dsimp only at hmb
  have hw : IntKind.i64.wrap ((s.l.length : Int) - 1) = (s.l.length : Int) - 1 := by rw [IntKind.wrap_i64]; omega
  obtain ⟨A0, c0, hb0, -, -⟩ := h
  have k0 := (rdB_cell hb0).1
  obtain ⟨m, hm⟩ : ∃ m, s.l.length = m := ⟨_, rfl⟩
  obtain ⟨k, rfl⟩ : ∃ k : Nat, n = k := ⟨n.toNat, by omega⟩
  have eA : rAll rD s = rRep rD k t := by unfold rAll; rw [e1]; rfl
  rw [eA]
  have HX := Lib.hid (show ∀ j, rRep rD (j + 1) t = ((rRep rD j t).1 ++ [(rD (rRep rD j t).2).1], (rD (rRep rD j t).2).2) from fun _ => rfl)
  have HL := Lib.hid (show ∀ j, (rRep rD j t).1.length = j from fun j => rep_len j t)
  have HLe := Lib.hid (show ∀ j, (rRep rD j t).2.l.length ≤ 100000 from fun j => Nat.le_trans (rep_le draw_le j t) htl)
  have H00 := Lib.hid (show rRep rD 0 t = ([], t) from rfl)
  generalize rRep rD = X at *
  rw [hm] at k0 hs hw hmb C1
  clear hb0 e1 eA hm htl
  go_enter Try.func64, Try.ntmps64
  go_wp2_with fail
  with_reducible refine (C1.out).mono ?_
  rintro e w1 ⟨rfl, hr, hb⟩
  have HR1 := Lib.hid hr
  have HB1 := Lib.hid hb
  clear hr hb C1 k0
  go_wp2_with fail
  go_loopw [6, 16] (fun v i wr => ∃ j : Nat, j ≤ k ∧ i = .int .i64 j ∧ ∃ A c ls, v = .slice A j c ∧ ls.length = j ∧ ls.map Lo.x = (X j t).1 ∧ OwnN ED ER Dr.tris wr w.heap.size (.slice A j c) ls ∧ Rd wr p (X j t).2 ∧ But p w wr) (fun _ i _ => k - (intOf i).toNat)
  case atStart => exact ⟨0, Nat.zero_le _, rfl, none, 0, [], rfl, rfl, (by rw [H00.out]; rfl), OwnN.nil _ _, (by rw [H00.out]; exact HR1.out), HB1.out⟩
  case round =>
    obtain ⟨j, hk, rfl, A, c, ls, rfl, hlj, hmp, ho, hr, hb⟩ := hrel
    have HO := Lib.hid ho
    have HR := Lib.hid hr
    have HB := Lib.hid hb
    have HMp := Lib.hid hmp
    clear ho hr hb hmp HR1 HB1
    by_cases hlt : j < k
    · have C2 := Lib.hid (rddraw_any wr HR.out (HLe.out j))
      obtain ⟨x, t2, e2⟩ : ∃ x t2, rD (X j t).2 = (x, t2) := ⟨_, _, rfl⟩
      have hX := HX.out j
      rw [e2] at C2 hX
      have HX1 := Lib.hid hX
      clear hX e2
      go_wp2_with fail
      with_reducible refine (C2.out).mono ?_
      rintro e w2 ⟨A2, c2, he, hoi, hr, hb⟩
      obtain rfl : e = .returned (.agg #[.int .i64 (⟨x, A2, c2⟩ : Lo Dr).x.id, .int .i64 (⟨x, A2, c2⟩ : Lo Dr).x.prog, .int .i64 (⟨x, A2, c2⟩ : Lo Dr).x.tex, .bool (⟨x, A2, c2⟩ : Lo Dr).x.op, .slice (⟨x, A2, c2⟩ : Lo Dr).A (⟨x, A2, c2⟩ : Lo Dr).x.tris.length (⟨x, A2, c2⟩ : Lo Dr).c]) := he
      have HO1 := Lib.hid (hb.ownN HO.out hp)
      have HI2 := Lib.hid (show EsP ER (w2.alloc (.cells #[.int .i64 (⟨x, A2, c2⟩ : Lo Dr).x.id, .int .i64 (⟨x, A2, c2⟩ : Lo Dr).x.prog, .int .i64 (⟨x, A2, c2⟩ : Lo Dr).x.tex, .bool (⟨x, A2, c2⟩ : Lo Dr).x.op, .slice (⟨x, A2, c2⟩ : Lo Dr).A (⟨x, A2, c2⟩ : Lo Dr).x.tris.length (⟨x, A2, c2⟩ : Lo Dr).c] 52)) (fun b => w.heap.size ≤ b ∧ (Value.slice A j c).ownBlock ≠ some b) A2 (Dr.tris x) from
        ((OwnE.toP hoi).imp fun b hb2 _ => ⟨by have := HB.out.size; omega, fun e => by have := ownE_lt HO.out.own e; omega⟩).keep fun b _ hlt => (new_below w2 _).block b hlt)
      have HC2 := Lib.hid (ownE_es hoi).2.1
      have HO2 := Lib.hid ((hb.ownN HO.out hp).keep (new_below w2 (.cells #[.int .i64 (⟨x, A2, c2⟩ : Lo Dr).x.id, .int .i64 (⟨x, A2, c2⟩ : Lo Dr).x.prog, .int .i64 (⟨x, A2, c2⟩ : Lo Dr).x.tex, .bool (⟨x, A2, c2⟩ : Lo Dr).x.op, .slice (⟨x, A2, c2⟩ : Lo Dr).A (⟨x, A2, c2⟩ : Lo Dr).x.tris.length (⟨x, A2, c2⟩ : Lo Dr).c] 52)))
      have HR2 := Lib.hid (hr.alloc (.cells #[.int .i64 (⟨x, A2, c2⟩ : Lo Dr).x.id, .int .i64 (⟨x, A2, c2⟩ : Lo Dr).x.prog, .int .i64 (⟨x, A2, c2⟩ : Lo Dr).x.tex, .bool (⟨x, A2, c2⟩ : Lo Dr).x.op, .slice (⟨x, A2, c2⟩ : Lo Dr).A (⟨x, A2, c2⟩ : Lo Dr).x.tris.length (⟨x, A2, c2⟩ : Lo Dr).c] 52))
      have HB2 := Lib.hid ((HB.out.trans hb).alloc hp (.cells #[.int .i64 (⟨x, A2, c2⟩ : Lo Dr).x.id, .int .i64 (⟨x, A2, c2⟩ : Lo Dr).x.prog, .int .i64 (⟨x, A2, c2⟩ : Lo Dr).x.tex, .bool (⟨x, A2, c2⟩ : Lo Dr).x.op, .slice (⟨x, A2, c2⟩ : Lo Dr).A (⟨x, A2, c2⟩ : Lo Dr).x.tris.length (⟨x, A2, c2⟩ : Lo Dr).c] 52))
      have HE2 := Lib.hid (es_one (E := ED) (x := ⟨x, A2, c2⟩) (cs := #[.int .i64 (⟨x, A2, c2⟩ : Lo Dr).x.id, .int .i64 (⟨x, A2, c2⟩ : Lo Dr).x.prog, .int .i64 (⟨x, A2, c2⟩ : Lo Dr).x.tex, .bool (⟨x, A2, c2⟩ : Lo Dr).x.op, .slice (⟨x, A2, c2⟩ : Lo Dr).A (⟨x, A2, c2⟩ : Lo Dr).x.tris.length (⟨x, A2, c2⟩ : Lo Dr).c]) rfl (show (w2.alloc (.cells #[.int .i64 (⟨x, A2, c2⟩ : Lo Dr).x.id, .int .i64 (⟨x, A2, c2⟩ : Lo Dr).x.prog, .int .i64 (⟨x, A2, c2⟩ : Lo Dr).x.tex, .bool (⟨x, A2, c2⟩ : Lo Dr).x.op, .slice (⟨x, A2, c2⟩ : Lo Dr).A (⟨x, A2, c2⟩ : Lo Dr).x.tris.length (⟨x, A2, c2⟩ : Lo Dr).c] 52)).heap[w2.heap.size]? = some (.cells #[.int .i64 (⟨x, A2, c2⟩ : Lo Dr).x.id, .int .i64 (⟨x, A2, c2⟩ : Lo Dr).x.prog, .int .i64 (⟨x, A2, c2⟩ : Lo Dr).x.tex, .bool (⟨x, A2, c2⟩ : Lo Dr).x.op, .slice (⟨x, A2, c2⟩ : Lo Dr).A (⟨x, A2, c2⟩ : Lo Dr).x.tris.length (⟨x, A2, c2⟩ : Lo Dr).c] 52 (0, 0)) from heap_alloc_new _ _))
      have hsz := HB2.out.size
      have hsz2 := (HB.out.trans hb).size
      clear hr hb hoi C2 HO HR HB
      
      go_wp2_with (at_builtin; refine wpList_append_ln rfl RV _ _ 1 1 (show [(⟨x, A2, c2⟩ : Lo (Dr))].length = 1 from rfl) rfl rfl rfl HO2.out.own HE2.out (by omega) (by simp) hsz ?_; intro v' w3 hown hg hat; obtain ⟨ho3, hbl⟩ := HO1.out.app (new_below w2 (.cells #[.int .i64 (⟨x, A2, c2⟩ : Lo Dr).x.id, .int .i64 (⟨x, A2, c2⟩ : Lo Dr).x.prog, .int .i64 (⟨x, A2, c2⟩ : Lo Dr).x.tex, .bool (⟨x, A2, c2⟩ : Lo Dr).x.op, .slice (⟨x, A2, c2⟩ : Lo Dr).A (⟨x, A2, c2⟩ : Lo Dr).x.tris.length (⟨x, A2, c2⟩ : Lo Dr).c] 52)) hsz2 (by simpa [Elem.flat] using hown) hg hat HI2.out HC2.out; have hge := ownE_ge HO2.out.own; obtain ⟨A3, c3, rfl⟩ := ho3.own.form)
      go_roundw
      case rel =>
        have e3 : (X (j + 1) t).1 = (X j t).1 ++ [x] := by rw [HX1.out]
        have e4 : (X (j + 1) t).2 = t2 := by rw [HX1.out]
        have e5 : (ls ++ [(⟨x, A2, c2⟩ : Lo (Dr))]).length = j + 1 := by rw [List.length_append, hlj]; rfl
        refine ⟨j + 1, by omega, by go_num, A3, c3, ls ++ [⟨x, A2, c2⟩], ?_, e5, ?_, ?_, ?_, ?_⟩
        · rw [← e5]
        · rw [e3, List.map_append, HMp.out]; rfl
        · rw [← e5]; exact ho3
        · rw [e4]; exact HR2.out.grown hg hge hp
        · exact HB2.out.grown (by omega) hg hge
      case measure => simp [intOf]; omega
    · obtain rfl : j = k := by omega
      go_wp2_with fail
      go_ret
      exact ⟨A, c, ls, (by rw [hlj]; rfl), HMp.out, (by rw [hlj]; exact HO.out), HR.out, HB.out⟩
end Go.Proofs.Ytfmmfaeognoleaa
/-
  What a reader reads of a scene.
-/
namespace Go.Proofs.Ytfmmfaeognoleaa
open Go.RowKit
attribute [local go_sem ↓] Go.wp_at_zero Go.wp_at_succ

/-- A scene's rows read so, in blocks of which P holds. -/
structure Sc.on (s : Sc) (w : World) (P : Nat → Prop) : Prop where
  v : EsP EV w P s.vA s.vs
  t : EsP ET w P s.tA s.ts
  tx : ∀ l ∈ s.ts, EsP EC w P l.A l.x.px
  p : EsP EP w P s.pA s.ps
  px : ∀ l ∈ s.ps, EsP C.EI w P l.A l.x
  d : EsP ED w P s.dA s.ds
  dx : ∀ l ∈ s.ds, EsP ER w P l.A l.x.tris
theorem Sc.on.at {s : Sc} {w : World} {P : Nat → Prop} (h : s.on w P) : s.at w w.heap.size :=
  ⟨h.v.es fun _ _ hl => hl, h.t.es fun _ _ hl => hl, fun l hl => (h.tx l hl).es fun _ _ hl => hl, h.p.es fun _ _ hl => hl, fun l hl => (h.px l hl).es fun _ _ hl => hl, h.d.es fun _ _ hl => hl, fun l hl => (h.dx l hl).es fun _ _ hl => hl⟩
theorem Sc.on.keep {s : Sc} {w w' : World} {P : Nat → Prop} (h : s.on w P) (hk : ∀ b, P b → b < w.heap.size → w'.heap[b]? = w.heap[b]?) : s.on w' P :=
  ⟨h.v.keep hk, h.t.keep hk, fun l hl => (h.tx l hl).keep hk, h.p.keep hk, fun l hl => (h.px l hl).keep hk, h.d.keep hk, fun l hl => (h.dx l hl).keep hk⟩
theorem Sc.on.imp {s : Sc} {w : World} {P Q : Nat → Prop} (h : s.on w P) (hk : ∀ b, P b → b < w.heap.size → Q b) : s.on w Q :=
  ⟨h.v.imp hk, h.t.imp hk, fun l hl => (h.tx l hl).imp hk, h.p.imp hk, fun l hl => (h.px l hl).imp hk, h.d.imp hk, fun l hl => (h.dx l hl).imp hk⟩
def ReadsS (p : Nat) (q : PS) (t : St) (w : World) (e : Ending) (w' : World) : Prop := ∃ x : Sc, e = .returned (.agg #[.int .i64 x.w, .int .i64 x.h, .int .u8 x.k.r, .int .u8 x.k.g, .int .u8 x.k.b, .int .u8 x.k.a, .slice x.vA x.vs.length x.vc, .slice x.tA x.ts.length x.tc, .slice x.pA x.ps.length x.pc, .slice x.dA x.ds.length x.dc]) ∧ x.p = q ∧ x.on w' (fun b => w.heap.size ≤ b) ∧ x.cap ∧ Rd w' p t ∧ But p w w'
set_option maxRecDepth 100000 in
set_option maxHeartbeats 4000000 in
theorem rscene_any {p : Nat} {s : St} (w : World) (h : Rd w p s) (hs : s.l.length ≤ 100000) :
    Calls Try.prog 30 #[.pointer (some ⟨p, 0, none⟩)] w (ReadsS p (rS s).1 (rS s).2 w) := by
  have hp := h.lt
  have hmf := mk_func
  have H0 := Lib.hid (show Rd (w.alloc (.cells #[.int .i64 0, .int .i64 0, .int .u8 0, .int .u8 0, .int .u8 0, .int .u8 0, .slice none 0 0, .slice none 0 0, .slice none 0 0, .slice none 0 0] 33)) p s from h.alloc _)
  have HB0 := Lib.hid (show But p w (w.alloc (.cells #[.int .i64 0, .int .i64 0, .int .u8 0, .int .u8 0, .int .u8 0, .int .u8 0, .slice none 0 0, .slice none 0 0, .slice none 0 0, .slice none 0 0] 33)) from (But.refl p w).alloc hp _)
  have HG0 := Lib.hid (show (w.alloc (.cells #[.int .i64 0, .int .i64 0, .int .u8 0, .int .u8 0, .int .u8 0, .int .u8 0, .slice none 0 0, .slice none 0 0, .slice none 0 0, .slice none 0 0] 33)).heap[w.heap.size]? = some (.cells #[.int .i64 0, .int .i64 0, .int .u8 0, .int .u8 0, .int .u8 0, .int .u8 0, .slice none 0 0, .slice none 0 0, .slice none 0 0, .slice none 0 0] 33 (0, 0)) from heap_alloc_new _ _)
  have HZ0 := Lib.hid (show w.heap.size < (w.alloc (.cells #[.int .i64 0, .int .i64 0, .int .u8 0, .int .u8 0, .int .u8 0, .int .u8 0, .slice none 0 0, .slice none 0 0, .slice none 0 0, .slice none 0 0] 33)).heap.size by simp)
  clear h
  obtain ⟨x1, t1, e1⟩ : ∃ x t, rNum s = (x, t) := ⟨_, _, rfl⟩
  have C1 := Lib.hid (show ∀ w, Rd w p s → Calls Try.prog 56 #[.pointer (some ⟨p, 0, none⟩)] w (Reads p (.int .i64 x1) t1 w) from fun w h => by have h2 := number_any w h; rw [e1] at h2; exact h2)
  have l1 : t1.l.length ≤ 100000 := by have h2 := num_le s; rw [e1] at h2; exact Nat.le_trans h2 hs
  obtain ⟨x2, t2, e2⟩ : ∃ x t, rNum t1 = (x, t) := ⟨_, _, rfl⟩
  have C2 := Lib.hid (show ∀ w, Rd w p t1 → Calls Try.prog 56 #[.pointer (some ⟨p, 0, none⟩)] w (Reads p (.int .i64 x2) t2 w) from fun w h => by have h2 := number_any w h; rw [e2] at h2; exact h2)
  have l2 : t2.l.length ≤ 100000 := by have h2 := num_le t1; rw [e2] at h2; exact Nat.le_trans h2 l1
  obtain ⟨x3, t3, e3⟩ : ∃ x t, rC t2 = (x, t) := ⟨_, _, rfl⟩
  have C3 := Lib.hid (show ∀ w, Rd w p t2 → Calls Try.prog 57 #[.pointer (some ⟨p, 0, none⟩)] w (Reads p (.agg #[.int .u8 x3.r, .int .u8 x3.g, .int .u8 x3.b, .int .u8 x3.a]) t3 w) from fun w h => by have h2 := rcol_any w h; rw [e3] at h2; exact h2)
  have l3 : t3.l.length ≤ 100000 := by have h2 := rC_le t2; rw [e3] at h2; exact Nat.le_trans h2 l2
  obtain ⟨x4, t4, e4⟩ : ∃ x t, rAll rV t3 = (x, t) := ⟨_, _, rfl⟩
  have C4 := Lib.hid (show ∀ w, Rd w p t3 → Calls Try.prog 58 #[.pointer (some ⟨p, 0, none⟩), .func (.func 59) #[.pointer (some ⟨p, 0, none⟩)] #[]] w (ReadsE EV p x4 t4 w) from fun w h => by have h2 := readV_any w h l3; rw [e4] at h2; exact h2)
  have l4 : t4.l.length ≤ 100000 := by have h2 := all_le vert_le t3; rw [e4] at h2; exact Nat.le_trans h2 l3
  obtain ⟨x5, t5, e5⟩ : ∃ x t, rAll rT t4 = (x, t) := ⟨_, _, rfl⟩
  have C5 := Lib.hid (show ∀ w, Rd w p t4 → Calls Try.prog 60 #[.pointer (some ⟨p, 0, none⟩), .func (.func 61) #[.pointer (some ⟨p, 0, none⟩)] #[]] w (ReadsN ET EC Tx.px p x5 t5 w) from fun w h => by have h2 := readT_any w h l4; rw [e5] at h2; exact h2)
  have l5 : t5.l.length ≤ 100000 := by have h2 := all_le tex_le t4; rw [e5] at h2; exact Nat.le_trans h2 l4
  obtain ⟨x6, t6, e6⟩ : ∃ x t, rAll rP t5 = (x, t) := ⟨_, _, rfl⟩
  have C6 := Lib.hid (show ∀ w, Rd w p t5 → Calls Try.prog 62 #[.pointer (some ⟨p, 0, none⟩), .func (.func 63) #[.pointer (some ⟨p, 0, none⟩)] #[]] w (ReadsN EP C.EI id p x6 t6 w) from fun w h => by have h2 := readP_any w h l5; rw [e6] at h2; exact h2)
  have l6 : t6.l.length ≤ 100000 := by have h2 := all_le prog_le t5; rw [e6] at h2; exact Nat.le_trans h2 l5
  obtain ⟨x7, t7, e7⟩ : ∃ x t, rAll rD t6 = (x, t) := ⟨_, _, rfl⟩
  have C7 := Lib.hid (show ∀ w, Rd w p t6 → Calls Try.prog 64 #[.pointer (some ⟨p, 0, none⟩), .func (.func 65) #[.pointer (some ⟨p, 0, none⟩)] #[]] w (ReadsN ED ER Dr.tris p x7 t7 w) from fun w h => by have h2 := readD_any w h l6; rw [e7] at h2; exact h2)
  have hC : rS s = (⟨x1, x2, x3, x4, x5, x6, x7⟩, t7) := by unfold rS; simp only [e1, e2, e3, e4, e5, e6, e7]
  rw [hC]
  clear hC e1 e2 e3 e4 e5 e6 e7 l1 l2 l3 l4 l5 l6
  go_enter Try.func30, Try.ntmps30
  go_wp2_with fail
  with_reducible refine (C1.out _ H0.out).mono ?_
  rintro e w1 ⟨rfl, hr, hb⟩
  have HR1 := Lib.hid hr
  have HB1 := Lib.hid (HB0.out.trans hb)
  have HG1 := Lib.hid ((hb.block HZ0.out (by omega)).trans HG0.out)
  have HZ1 := Lib.hid (Nat.lt_of_lt_of_le HZ0.out hb.size)
  clear hr hb  C1 H0 HB0 HG0 HZ0 
  go_wp2_with fail
  with_reducible refine (C2.out _ HR1.out).mono ?_
  rintro e w2 ⟨rfl, hr, hb⟩
  have HR2 := Lib.hid hr
  have HB2 := Lib.hid (HB1.out.trans hb)
  have HG2 := Lib.hid ((hb.block HZ1.out (by omega)).trans HG1.out)
  have HZ2 := Lib.hid (Nat.lt_of_lt_of_le HZ1.out hb.size)
  clear hr hb  C2 HR1 HB1 HG1 HZ1 
  go_wp2_with fail
  with_reducible refine (C3.out _ HR2.out).mono ?_
  rintro e w3 ⟨rfl, hr, hb⟩
  have HR3 := Lib.hid hr
  have HB3 := Lib.hid (HB2.out.trans hb)
  have HG3 := Lib.hid ((hb.block HZ2.out (by omega)).trans HG2.out)
  have HZ3 := Lib.hid (Nat.lt_of_lt_of_le HZ2.out hb.size)
  clear hr hb  C3 HR2 HB2 HG2 HZ2 
  go_wp2_with fail
  with_reducible refine (C4.out _ HR3.out).mono ?_
  rintro e w4 ⟨A4, c4, rfl, ho, hr, hb⟩
  have HO4_4 := Lib.hid (ho.less HZ3.out)
  have HR4 := Lib.hid hr
  have HB4 := Lib.hid (HB3.out.trans hb)
  have HG4 := Lib.hid ((hb.block HZ3.out (by omega)).trans HG3.out)
  have HZ4 := Lib.hid (Nat.lt_of_lt_of_le HZ3.out hb.size)
  clear hr hb ho C4 HR3 HB3 HG3 HZ3 
  go_wp2_with fail
  with_reducible refine (C5.out _ HR4.out).mono ?_
  rintro e w5 ⟨A5, c5, l5, rfl, hm5, ho, hr, hb⟩
  have HO4_5 := Lib.hid (hb.own HO4_4.out (by omega))
  have HO5_5 := Lib.hid (ho.less HZ4.out)
  have HM5 := Lib.hid hm5
  clear hm5
  have HR5 := Lib.hid hr
  have HB5 := Lib.hid (HB4.out.trans hb)
  have HG5 := Lib.hid ((hb.block HZ4.out (by omega)).trans HG4.out)
  have HZ5 := Lib.hid (Nat.lt_of_lt_of_le HZ4.out hb.size)
  clear hr hb ho C5 HR4 HB4 HG4 HZ4 HO4_4
  go_wp2_with fail
  with_reducible refine (C6.out _ HR5.out).mono ?_
  rintro e w6 ⟨A6, c6, l6, rfl, hm6, ho, hr, hb⟩
  have HO4_6 := Lib.hid (hb.own HO4_5.out (by omega))
  have HO5_6 := Lib.hid (hb.ownN HO5_5.out (by omega))
  have HO6_6 := Lib.hid (ho.less HZ5.out)
  have HM6 := Lib.hid hm6
  clear hm6
  have HR6 := Lib.hid hr
  have HB6 := Lib.hid (HB5.out.trans hb)
  have HG6 := Lib.hid ((hb.block HZ5.out (by omega)).trans HG5.out)
  have HZ6 := Lib.hid (Nat.lt_of_lt_of_le HZ5.out hb.size)
  clear hr hb ho C6 HR5 HB5 HG5 HZ5 HO4_5 HO5_5
  go_wp2_with fail
  with_reducible refine (C7.out _ HR6.out).mono ?_
  rintro e w7 ⟨A7, c7, l7, rfl, hm7, ho, hr, hb⟩
  have HO4_7 := Lib.hid (hb.own HO4_6.out (by omega))
  have HO5_7 := Lib.hid (hb.ownN HO5_6.out (by omega))
  have HO6_7 := Lib.hid (hb.ownN HO6_6.out (by omega))
  have HO7_7 := Lib.hid (ho.less HZ6.out)
  have HM7 := Lib.hid hm7
  clear hm7
  have HR7 := Lib.hid hr
  have HB7 := Lib.hid (HB6.out.trans hb)
  have HG7 := Lib.hid ((hb.block HZ6.out (by omega)).trans HG6.out)
  have HZ7 := Lib.hid (Nat.lt_of_lt_of_le HZ6.out hb.size)
  clear hr hb ho C7 HR6 HB6 HG6 HZ6 HO4_6 HO5_6 HO6_6
  have f0 : w7.frozen? ⟨w.heap.size, 0, none⟩ = false := by simp [World.frozen?, HG7.out]
  have q0 := Joins.cell_of_block HG7.out 0
  have f1 : w7.frozen? ⟨w.heap.size, 1, none⟩ = false := by simp [World.frozen?, HG7.out]
  have q1 := Joins.cell_of_block HG7.out 1
  have f2 : w7.frozen? ⟨w.heap.size, 2, none⟩ = false := by simp [World.frozen?, HG7.out]
  have q2 := Joins.cell_of_block HG7.out 2
  have f3 : w7.frozen? ⟨w.heap.size, 3, none⟩ = false := by simp [World.frozen?, HG7.out]
  have q3 := Joins.cell_of_block HG7.out 3
  have f4 : w7.frozen? ⟨w.heap.size, 4, none⟩ = false := by simp [World.frozen?, HG7.out]
  have q4 := Joins.cell_of_block HG7.out 4
  have f5 : w7.frozen? ⟨w.heap.size, 5, none⟩ = false := by simp [World.frozen?, HG7.out]
  have q5 := Joins.cell_of_block HG7.out 5
  have f6 : w7.frozen? ⟨w.heap.size, 6, none⟩ = false := by simp [World.frozen?, HG7.out]
  have q6 := Joins.cell_of_block HG7.out 6
  have f7 : w7.frozen? ⟨w.heap.size, 7, none⟩ = false := by simp [World.frozen?, HG7.out]
  have q7 := Joins.cell_of_block HG7.out 7
  have f8 : w7.frozen? ⟨w.heap.size, 8, none⟩ = false := by simp [World.frozen?, HG7.out]
  have q8 := Joins.cell_of_block HG7.out 8
  have f9 : w7.frozen? ⟨w.heap.size, 9, none⟩ = false := by simp [World.frozen?, HG7.out]
  have q9 := Joins.cell_of_block HG7.out 9
  have HS := Lib.hid (show (((((((((((w7).setCell ⟨w.heap.size, 0, none⟩ (.int .i64 x1)).setCell ⟨w.heap.size, 1, none⟩ (.int .i64 x2)).setCell ⟨w.heap.size, 2, none⟩ (.int .u8 x3.r)).setCell ⟨w.heap.size, 3, none⟩ (.int .u8 x3.g)).setCell ⟨w.heap.size, 4, none⟩ (.int .u8 x3.b)).setCell ⟨w.heap.size, 5, none⟩ (.int .u8 x3.a)).setCell ⟨w.heap.size, 6, none⟩ (.slice A4 x4.length c4)).setCell ⟨w.heap.size, 7, none⟩ (.slice A5 l5.length c5)).setCell ⟨w.heap.size, 8, none⟩ (.slice A6 l6.length c6)).setCell ⟨w.heap.size, 9, none⟩ (.slice A7 l7.length c7)).heap[w.heap.size]? = some (.cells #[.int .i64 x1, .int .i64 x2, .int .u8 x3.r, .int .u8 x3.g, .int .u8 x3.b, .int .u8 x3.a, .slice A4 x4.length c4, .slice A5 l5.length c5, .slice A6 l6.length c6, .slice A7 l7.length c7] 33 (0, 0)) from (heap_setCell_same _ _ _ _ _ _ (heap_setCell_same _ _ _ _ _ _ (heap_setCell_same _ _ _ _ _ _ (heap_setCell_same _ _ _ _ _ _ (heap_setCell_same _ _ _ _ _ _ (heap_setCell_same _ _ _ _ _ _ (heap_setCell_same _ _ _ _ _ _ (heap_setCell_same _ _ _ _ _ _ (heap_setCell_same _ _ _ _ _ _ (heap_setCell_same _ _ _ _ _ _ HG7.out)))))))))).trans (by simp))
  have HX := Lib.hid (show Rd (((((((((((w7).setCell ⟨w.heap.size, 0, none⟩ (.int .i64 x1)).setCell ⟨w.heap.size, 1, none⟩ (.int .i64 x2)).setCell ⟨w.heap.size, 2, none⟩ (.int .u8 x3.r)).setCell ⟨w.heap.size, 3, none⟩ (.int .u8 x3.g)).setCell ⟨w.heap.size, 4, none⟩ (.int .u8 x3.b)).setCell ⟨w.heap.size, 5, none⟩ (.int .u8 x3.a)).setCell ⟨w.heap.size, 6, none⟩ (.slice A4 x4.length c4)).setCell ⟨w.heap.size, 7, none⟩ (.slice A5 l5.length c5)).setCell ⟨w.heap.size, 8, none⟩ (.slice A6 l6.length c6)).setCell ⟨w.heap.size, 9, none⟩ (.slice A7 l7.length c7)) p t7 from ((((((((((HR7.out.setNew hp).setNew hp).setNew hp).setNew hp).setNew hp).setNew hp).setNew hp).setNew hp).setNew hp).setNew hp))
  have HY := Lib.hid (show But p w (((((((((((w7).setCell ⟨w.heap.size, 0, none⟩ (.int .i64 x1)).setCell ⟨w.heap.size, 1, none⟩ (.int .i64 x2)).setCell ⟨w.heap.size, 2, none⟩ (.int .u8 x3.r)).setCell ⟨w.heap.size, 3, none⟩ (.int .u8 x3.g)).setCell ⟨w.heap.size, 4, none⟩ (.int .u8 x3.b)).setCell ⟨w.heap.size, 5, none⟩ (.int .u8 x3.a)).setCell ⟨w.heap.size, 6, none⟩ (.slice A4 x4.length c4)).setCell ⟨w.heap.size, 7, none⟩ (.slice A5 l5.length c5)).setCell ⟨w.heap.size, 8, none⟩ (.slice A6 l6.length c6)).setCell ⟨w.heap.size, 9, none⟩ (.slice A7 l7.length c7)) from ((((((((((HB7.out.setNew (by omega) (Nat.le_refl _)).setNew (by omega) (Nat.le_refl _)).setNew (by omega) (Nat.le_refl _)).setNew (by omega) (Nat.le_refl _)).setNew (by omega) (Nat.le_refl _)).setNew (by omega) (Nat.le_refl _)).setNew (by omega) (Nat.le_refl _)).setNew (by omega) (Nat.le_refl _)).setNew (by omega) (Nat.le_refl _)).setNew (by omega) (Nat.le_refl _)))
  have HO4 := Lib.hid (show OwnE EV (((((((((((w7).setCell ⟨w.heap.size, 0, none⟩ (.int .i64 x1)).setCell ⟨w.heap.size, 1, none⟩ (.int .i64 x2)).setCell ⟨w.heap.size, 2, none⟩ (.int .u8 x3.r)).setCell ⟨w.heap.size, 3, none⟩ (.int .u8 x3.g)).setCell ⟨w.heap.size, 4, none⟩ (.int .u8 x3.b)).setCell ⟨w.heap.size, 5, none⟩ (.int .u8 x3.a)).setCell ⟨w.heap.size, 6, none⟩ (.slice A4 x4.length c4)).setCell ⟨w.heap.size, 7, none⟩ (.slice A5 l5.length c5)).setCell ⟨w.heap.size, 8, none⟩ (.slice A6 l6.length c6)).setCell ⟨w.heap.size, 9, none⟩ (.slice A7 l7.length c7)) (w.heap.size + 1) (.slice A4 x4.length c4) x4 from ((((((((((HO4_7.out.setCell (Nat.lt_succ_self _)).setCell (Nat.lt_succ_self _)).setCell (Nat.lt_succ_self _)).setCell (Nat.lt_succ_self _)).setCell (Nat.lt_succ_self _)).setCell (Nat.lt_succ_self _)).setCell (Nat.lt_succ_self _)).setCell (Nat.lt_succ_self _)).setCell (Nat.lt_succ_self _)).setCell (Nat.lt_succ_self _)))
  have HO5 := Lib.hid (show OwnN ET EC Tx.px (((((((((((w7).setCell ⟨w.heap.size, 0, none⟩ (.int .i64 x1)).setCell ⟨w.heap.size, 1, none⟩ (.int .i64 x2)).setCell ⟨w.heap.size, 2, none⟩ (.int .u8 x3.r)).setCell ⟨w.heap.size, 3, none⟩ (.int .u8 x3.g)).setCell ⟨w.heap.size, 4, none⟩ (.int .u8 x3.b)).setCell ⟨w.heap.size, 5, none⟩ (.int .u8 x3.a)).setCell ⟨w.heap.size, 6, none⟩ (.slice A4 x4.length c4)).setCell ⟨w.heap.size, 7, none⟩ (.slice A5 l5.length c5)).setCell ⟨w.heap.size, 8, none⟩ (.slice A6 l6.length c6)).setCell ⟨w.heap.size, 9, none⟩ (.slice A7 l7.length c7)) (w.heap.size + 1) (.slice A5 l5.length c5) l5 from ((((((((((HO5_7.out.set (Nat.lt_succ_self _)).set (Nat.lt_succ_self _)).set (Nat.lt_succ_self _)).set (Nat.lt_succ_self _)).set (Nat.lt_succ_self _)).set (Nat.lt_succ_self _)).set (Nat.lt_succ_self _)).set (Nat.lt_succ_self _)).set (Nat.lt_succ_self _)).set (Nat.lt_succ_self _)))
  have HO6 := Lib.hid (show OwnN EP C.EI id (((((((((((w7).setCell ⟨w.heap.size, 0, none⟩ (.int .i64 x1)).setCell ⟨w.heap.size, 1, none⟩ (.int .i64 x2)).setCell ⟨w.heap.size, 2, none⟩ (.int .u8 x3.r)).setCell ⟨w.heap.size, 3, none⟩ (.int .u8 x3.g)).setCell ⟨w.heap.size, 4, none⟩ (.int .u8 x3.b)).setCell ⟨w.heap.size, 5, none⟩ (.int .u8 x3.a)).setCell ⟨w.heap.size, 6, none⟩ (.slice A4 x4.length c4)).setCell ⟨w.heap.size, 7, none⟩ (.slice A5 l5.length c5)).setCell ⟨w.heap.size, 8, none⟩ (.slice A6 l6.length c6)).setCell ⟨w.heap.size, 9, none⟩ (.slice A7 l7.length c7)) (w.heap.size + 1) (.slice A6 l6.length c6) l6 from ((((((((((HO6_7.out.set (Nat.lt_succ_self _)).set (Nat.lt_succ_self _)).set (Nat.lt_succ_self _)).set (Nat.lt_succ_self _)).set (Nat.lt_succ_self _)).set (Nat.lt_succ_self _)).set (Nat.lt_succ_self _)).set (Nat.lt_succ_self _)).set (Nat.lt_succ_self _)).set (Nat.lt_succ_self _)))
  have HO7 := Lib.hid (show OwnN ED ER Dr.tris (((((((((((w7).setCell ⟨w.heap.size, 0, none⟩ (.int .i64 x1)).setCell ⟨w.heap.size, 1, none⟩ (.int .i64 x2)).setCell ⟨w.heap.size, 2, none⟩ (.int .u8 x3.r)).setCell ⟨w.heap.size, 3, none⟩ (.int .u8 x3.g)).setCell ⟨w.heap.size, 4, none⟩ (.int .u8 x3.b)).setCell ⟨w.heap.size, 5, none⟩ (.int .u8 x3.a)).setCell ⟨w.heap.size, 6, none⟩ (.slice A4 x4.length c4)).setCell ⟨w.heap.size, 7, none⟩ (.slice A5 l5.length c5)).setCell ⟨w.heap.size, 8, none⟩ (.slice A6 l6.length c6)).setCell ⟨w.heap.size, 9, none⟩ (.slice A7 l7.length c7)) (w.heap.size + 1) (.slice A7 l7.length c7) l7 from ((((((((((HO7_7.out.set (Nat.lt_succ_self _)).set (Nat.lt_succ_self _)).set (Nat.lt_succ_self _)).set (Nat.lt_succ_self _)).set (Nat.lt_succ_self _)).set (Nat.lt_succ_self _)).set (Nat.lt_succ_self _)).set (Nat.lt_succ_self _)).set (Nat.lt_succ_self _)).set (Nat.lt_succ_self _)))
  go_wp2_with fail
  obtain ⟨W, hW⟩ : ∃ W, ((((((((((w7).setCell ⟨w.heap.size, 0, none⟩ (.int .i64 x1)).setCell ⟨w.heap.size, 1, none⟩ (.int .i64 x2)).setCell ⟨w.heap.size, 2, none⟩ (.int .u8 x3.r)).setCell ⟨w.heap.size, 3, none⟩ (.int .u8 x3.g)).setCell ⟨w.heap.size, 4, none⟩ (.int .u8 x3.b)).setCell ⟨w.heap.size, 5, none⟩ (.int .u8 x3.a)).setCell ⟨w.heap.size, 6, none⟩ (.slice A4 x4.length c4)).setCell ⟨w.heap.size, 7, none⟩ (.slice A5 l5.length c5)).setCell ⟨w.heap.size, 8, none⟩ (.slice A6 l6.length c6)).setCell ⟨w.heap.size, 9, none⟩ (.slice A7 l7.length c7) = W := ⟨_, rfl⟩
  rw [hW] at HS HX HY HO4 HO5 HO6 HO7
  try rw [hW]
  have k0 := Joins.cell_of_block HS.out 0
  have k1 := Joins.cell_of_block HS.out 1
  have k2 := Joins.cell_of_block HS.out 2
  have k3 := Joins.cell_of_block HS.out 3
  have k4 := Joins.cell_of_block HS.out 4
  have k5 := Joins.cell_of_block HS.out 5
  have k6 := Joins.cell_of_block HS.out 6
  have k7 := Joins.cell_of_block HS.out 7
  have k8 := Joins.cell_of_block HS.out 8
  have k9 := Joins.cell_of_block HS.out 9
  refine bodyPost_ret (v := .agg #[.int .i64 x1, .int .i64 x2, .int .u8 x3.r, .int .u8 x3.g, .int .u8 x3.b, .int .u8 x3.a, .slice A4 x4.length c4, .slice A5 l5.length c5, .slice A6 l6.length c6, .slice A7 l7.length c7]) (by simp [results, Try.results30, go_sem, k0, k1, k2, k3, k4, k5, k6, k7, k8, k9]) rfl ?_
  obtain ⟨-, m4, -⟩ := ownE_es HO4.out
  obtain ⟨-, m5, -⟩ := ownE_es HO5.out.own
  obtain ⟨-, m6, -⟩ := ownE_es HO6.out.own
  obtain ⟨-, m7, -⟩ := ownE_es HO7.out.own
  refine ⟨⟨x1, x2, x3, x4, A4, c4, l5, A5, c5, l6, A6, c6, l7, A7, c7⟩, rfl, ?_, ⟨(OwnE.toP HO4.out).imp fun b hb _ => Nat.le_of_succ_le hb, (OwnE.toP HO5.out.own).imp fun b hb _ => Nat.le_of_succ_le hb, fun l hl => (HO5.out.els l hl).imp fun b hb _ => Nat.le_of_succ_le hb.1, (OwnE.toP HO6.out.own).imp fun b hb _ => Nat.le_of_succ_le hb, fun l hl => (HO6.out.els l hl).imp fun b hb _ => Nat.le_of_succ_le hb.1, (OwnE.toP HO7.out.own).imp fun b hb _ => Nat.le_of_succ_le hb, fun l hl => (HO7.out.els l hl).imp fun b hb _ => Nat.le_of_succ_le hb.1⟩, ⟨m4, m5, HO5.out.cap, m6, HO6.out.cap, m7, HO7.out.cap⟩, HX.out, HY.out⟩
  show (⟨x1, x2, x3, x4, l5.map Lo.x, l6.map Lo.x, l7.map Lo.x⟩ : PS) = _
  rw [HM5.out, HM6.out, HM7.out]
end Go.Proofs.Ytfmmfaeognoleaa
/-
  few, short, bytes.Clone, wire.Take, glazierref03.Same, wire.All, glazierlaw03.shown, at this seat's translation.
-/
namespace Go.Proofs.Ytfmmfaeognoleaa.P
open Go.RowKit

section
variable {k : IntKind} {w w' : World} {B B' : Nat} {A : Option Addr} {xs : List Int}
theorem Sl.none_ : Sl k w B A [] := fun h => absurd rfl h
theorem Sl.take (h : Sl k w B A xs) (n : Nat) : Sl k w B A (xs.take n) := fun hne => by
  obtain ⟨b, off, e, hb, hc⟩ := h (by rintro rfl; simp at hne)
  refine ⟨b, off, e, hb, fun j hj => ?_⟩
  simp only [List.length_take] at hj
  rw [hc j (by omega), List.getD_eq_getElem?_getD, List.getD_eq_getElem?_getD, List.getElem?_take_of_lt (by omega)]
theorem Sl.below (h : Sl k w B A xs) (hb : Below B w w') : Sl k w' B A xs := fun hne => by
  obtain ⟨b, off, e, hbB, hc⟩ := h hne
  exact ⟨b, off, e, hbB, fun j hj => (hb.cell (p := ⟨b, off + j, none⟩) hbB).trans (hc j hj)⟩
theorem Sl.more (h : Sl k w B A xs) (hB : B ≤ B') : Sl k w B' A xs := fun hne => by
  obtain ⟨b, off, e, hbB, hc⟩ := h hne
  exact ⟨b, off, e, by omega, hc⟩
theorem Sl.drewN (h : Sl k w B A xs) (n : Nat) : Sl k (w.drewN n) B A xs := h
theorem Sl.cut (h : Sl k w B A xs) {n c : Nat} (hc : xs.length ≤ c) : Sl k w B (if c = n then A else A.map fun x => x.add n) (xs.drop n) := fun hne => by
  have hl : n < xs.length := by
    rcases Nat.lt_or_ge n xs.length with h | h
    · exact h
    · exact absurd (List.drop_eq_nil_of_le h) hne
  obtain ⟨b, off, rfl, hb, hcell⟩ := h (by rintro rfl; simp at hl)
  rw [if_neg (by omega)]
  refine ⟨b, off + n, by simp [Addr.add_lit], hb, fun j hj => ?_⟩
  rw [List.length_drop] at hj
  rw [Nat.add_assoc, hcell (n + j) (by omega), List.getD_eq_getElem?_getD, List.getD_eq_getElem?_getD, List.getElem?_drop]
end

theorem Sl.conv {w : World} {B : Nat} {A : Option Addr} {xs : List Int} (h : Sl .u8 w B A xs) (c : Nat) :
    (convert 24 9 (.slice A xs.length c)).run Try.prog w = .ok (.string (strOfNums xs)) w := by
  by_cases hne : xs = []
  · subst hne
    show (convert 24 9 (.slice A 0 c)).run Try.prog w = .ok (.string ByteArray.empty) w
    rw [run_convert_bytes_string w 24 9 5 _ 0 c Try.underlying24 Try.underlying5 Try.underlying9]
    cases A <;> simp [Conv.bytesToString, loadCells]
    all_goals rfl
  · obtain ⟨b, off, rfl, _, hc⟩ := h hne
    exact run_convert_bytes_arg w 24 5 Try.underlying24 Try.underlying5 b off xs.length c xs rfl hc 9 Try.underlying9

theorem eqIn23 (w : World) (d : Nat) (a : Addr) (n c : Nat) : (Op.equalIn (d + 1) 24 (.slice (some a) n c) (.slice none 0 0)).run Try.prog w = .ok false w := by
  simp [Op.equalIn, run_underlying Try.underlying24]
theorem eql23 (w : World) (a : Addr) (n c : Nat) : (binOp .eql 24 (.slice (some a) n c) (.slice none 0 0)).run Try.prog w = .ok (.bool false) w := by
  simp only [binOp]
  simp [Op.equal, Op.maxDepth, eqIn23 w 9999]
theorem eqIn40 (w : World) (d : Nat) (f : Fn) (a b : Array Value) : (Op.equalIn (d + 1) 111 (.func f a b) .nilFunc).run Try.prog w = .ok false w := by
  simp [Op.equalIn, run_underlying Try.underlying111]
theorem neq40 (w : World) (f : Fn) (a b : Array Value) : (binOp .neq 111 (.func f a b) .nilFunc).run Try.prog w = .ok (.bool true) w := by
  simp only [binOp]
  simp [Op.equal, Op.maxDepth, eqIn40 w 9999]
theorem eql40 (w : World) (f : Fn) (a b : Array Value) : (binOp .eql 111 (.func f a b) .nilFunc).run Try.prog w = .ok (.bool false) w := by
  simp only [binOp]
  simp [Op.equal, Op.maxDepth, eqIn40 w 9999]
theorem mk_func (fn : Fn) (first cap : Array Value) (w : World) : (Instr.makeFunc fn first cap).run Try.prog w = .ok (.func fn first cap) w := rfl

theorem all_any (A : Option Addr) (n c : Nat) (w : World) :
    Calls Try.prog 55 #[.slice A n c] w fun e w' => e = .returned (.func (.func 86) #[] #[.pointer (some ⟨w.heap.size, 0, none⟩)]) ∧ w' = w.alloc (.cells #[.slice A n c] 24) := by
  have hmf := mk_func
  go_enter Try.func55, Try.ntmps55
  go_wp2
  go_ret
  exact ⟨rfl, rfl⟩

theorem own_empty (t : TypeId) (w : World) : (w.alloc (.cells #[] t)).ownsRow w.heap.size t 1 (.slice (some ⟨w.heap.size, 0, none⟩) 0 0) 0 [] :=
  ⟨rfl, .inr ⟨w.heap.size, 0, #[], rfl, Nat.le_refl _, World.alloc_heap_new w _, Nat.le_refl _, by unfold maxLen; omega, rfl, rfl⟩⟩

theorem news_of {k : IntKind} {w : World} {b off : Nat} {xs : List Int} (hc : ∀ j, j < xs.length → w.cell? ⟨b, off + j, none⟩ = some (.int k (xs.getD j 0))) :
    ∀ j u, (xs.map (Value.int k))[j]? = some u → w.cell? ((⟨b, off, none⟩ : Addr).add j) = some u := by
  intro j u hu
  have hj : j < xs.length := by simpa using (List.getElem?_eq_some_iff.1 hu).1
  rw [Addr.add_lit, hc j hj, ← hu, List.getElem?_map, List.getElem?_eq_getElem hj, List.getD_eq_getElem?_getD, List.getElem?_eq_getElem hj]
  rfl

def TookS (w : World) (n : Int) (xs : List Int) (e : Ending) (w' : World) : Prop :=
  ∃ v, e = .returned (.tuple #[.int .i64 n, v, .bool true]) ∧ OwnS 5 .u8 w' w.heap.size v xs ∧ Below w.heap.size w w'

theorem below_draws {B : Nat} {a w : World} (h : Below B a w) (n : Nat) : Below B a (w.drewN n) := ⟨h.os, h.tape, h.output, h.size, h.block⟩

def Yes (w : World) (e : Ending) (w' : World) : Prop := e = .returned (.bool true) ∧ Below w.heap.size w w'

theorem str_shown : strOfNums (put [0, -1, 64]) = { data := #[0, 1, 128, 1] } := by
  have e : put [0, -1, 64] = [0, 1, 128, 1] := by
    simp only [put_cons, put_nil]
    rw [show fold 0 = 0 by decide, show fold (-1) = 1 by decide, show fold 64 = 128 by decide, enc_lt (u := 0) (by decide), enc_lt (u := 1) (by decide), enc_ge (u := 128) (by decide), enc_lt (u := 128 / 128) (by decide)]
    rfl
  rw [e]; rfl

end Go.Proofs.Ytfmmfaeognoleaa.P
