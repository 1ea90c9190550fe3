/-
  The contract of the statements' straight.
-/
import Derived.Test.YtehkcnmjkgelkaaStayP
import Derived.Test.YtehkcnmjkgelkaaCPutI
namespace Go.Proofs.Ytehkcnmjkgelkaa
open Go.RowKit C
attribute [local go_sem ↓] Go.wp_at_zero Go.wp_at_succ

/-- A program whose first instructions are told without jumps. -/
def strJ (P : List In) (j : Nat) : List In := (P.take j).map noJ ++ P.drop j
theorem strJ_len (P : List In) (j : Nat) : (strJ P j).length = P.length := by simp [strJ]; omega
theorem strJ_at {P : List In} {j : Nat} {x : In} (h : P[j]? = some x) : (strJ P j)[j]? = some x := by
  have hj := (List.getElem?_eq_some_iff.1 h).1
  unfold strJ
  rw [List.getElem?_append_right (by simp; omega)]
  simp [Nat.min_eq_left (Nat.le_of_lt hj), h]
theorem strJ_set {P : List In} {j : Nat} {x : In} (h : P[j]? = some x) : (strJ P j).set j (noJ x) = strJ P (j + 1) := by
  obtain ⟨hj, hx⟩ := List.getElem?_eq_some_iff.1 h
  unfold strJ
  rw [List.set_append_right _ _ (by simp; omega)]
  simp only [List.length_map, List.length_take, Nat.min_eq_left (Nat.le_of_lt hj), Nat.sub_self]
  rw [List.drop_eq_getElem_cons hj, hx, List.set_cons_zero, List.take_add_one, List.map_append, List.append_assoc, List.getElem?_eq_getElem hj, hx]
  rfl
theorem strJ_same {P : List In} {j : Nat} {x : In} (h : P[j]? = some x) (e : noJ x = x) : strJ P (j + 1) = strJ P j := by
  rw [← strJ_set h, e]
  have hs := strJ_at h
  obtain ⟨hj, hx⟩ := List.getElem?_eq_some_iff.1 hs
  rw [← hx]
  exact List.set_getElem_self hj
theorem strJ_all (P : List In) : strJ P P.length = P.map noJ := by simp [strJ]
set_option maxRecDepth 100000 in
set_option maxHeartbeats 4000000 in
theorem straight_any (l : List In) (A : Option Addr) (c : Nat) (hok : ∀ x ∈ l, x.ok) (w : World) (he : Es EI w w.heap.size A l) :
    Calls Try.prog 18 #[.slice A l.length c] w (MadeE EI w.heap.size w (strP l)) := by
  have HF := Lib.hid (C.Fitb_any l A c hok w he)
  have hfl := C.fitP_len (l.map bareI)
  have HSA := Lib.hid (strJ_all (fitP (l.map bareI)))
  have hsp : strP l = (fitP (l.map bareI)).map noJ := rfl
  rw [hsp]
  generalize fitP (l.map bareI) = P at *
  clear hsp hok he
  have HL := Lib.hid (fun (k : Nat) (h : k < P.length) => C.get_lt h)
  go_enter Try.func18, Try.ntmps18
  go_wp2_with (go_at_call 13; (with_reducible refine (HF.out).mono ?_); rintro e w1 ⟨v, rfl, ho, hb⟩; obtain ⟨g, c1, rfl, hge, hgl⟩ := C.own_at0 ho (by intro h; rw [h] at hfl; simp at hfl); have HB1 := Lib.hid hb; have HO1 := Lib.hid ho; clear ho hb)
  obtain ⟨n, hn⟩ : ∃ n, P.length = n := ⟨_, rfl⟩
  rw [hn] at HSA HL hfl HO1 ⊢
  have HN := Lib.hid hn
  have O0 := Lib.hid (show OwnE EI w1 w.heap.size (.slice (some ⟨g, 0, none⟩) n c1) (strJ P 0) from HO1.out)
  clear hn HF HO1
  go_loopw [4] (fun i wr => ∃ j : Nat, j ≤ n ∧ i = .int .i64 j ∧ Below w.heap.size w wr ∧ OwnE EI wr w.heap.size (.slice (some ⟨g, 0, none⟩) n c1) (strJ P j)) (fun i _ => n - (intOf i).toNat)
  case atStart => exact ⟨0, Nat.zero_le _, rfl, HB1.out, O0.out⟩
  case round =>
    clear O0 HB1
    obtain ⟨j, hj, rfl, hb, ho⟩ := hrel
    have HB := Lib.hid hb
    have HO := Lib.hid ho
    clear hb ho
    by_cases hlt : j < n
    · obtain ⟨x, hx⟩ := HL.out j hlt
      have hs := strJ_at hx
      obtain ⟨b, off, e1, hbB, hat⟩ := (C.ownI_es HO.out).at hs
      cases e1
      obtain ⟨c0, c1', c2, c3, c4⟩ := atI (show AtE EI wr g (0 + j * 5) x from hat)
      have hfz := C.ownI_free HO.out
      have hlt' : (j : Int) < n := by omega
      rw [Nat.zero_add] at c0 c1' c2 c3 c4
      rcases Classical.em (x.o = 12) with e12 | e12
      · have hnj : noJ x = ⟨1, x.a, x.a, 0, 0⟩ := if_pos e12
        have e := strJ_set hx
        rw [hnj] at e
        have O3 := Lib.hid (show OwnE EI (((((wr.setCell ⟨g, j * 5, none⟩ (.int .u8 1)).setCell ⟨g, j * 5 + 1, none⟩ (.int .u8 x.a)).setCell ⟨g, j * 5 + 2, none⟩ (.int .u8 x.a)).setCell ⟨g, j * 5 + 3, none⟩ (.int .u8 0)).setCell ⟨g, j * 5 + 4, none⟩ (.int .i64 0)) w.heap.size (.slice (some ⟨g, 0, none⟩) n c1) (strJ P (j + 1)) from e ▸ C.ownI_put ⟨1, x.a, x.a, 0, 0⟩ HO.out hs)
        have B3 := Lib.hid (show Below w.heap.size w (((((wr.setCell ⟨g, j * 5, none⟩ (.int .u8 1)).setCell ⟨g, j * 5 + 1, none⟩ (.int .u8 x.a)).setCell ⟨g, j * 5 + 2, none⟩ (.int .u8 x.a)).setCell ⟨g, j * 5 + 3, none⟩ (.int .u8 0)).setCell ⟨g, j * 5 + 4, none⟩ (.int .i64 0)) from ((((HB.out.setCell hge _).setCell hge _).setCell hge _).setCell hge _).setCell hge _)
        have z12 : (x.o == 12) = true := by simpa using e12
        clear e hnj hs hx hat e12
        go_wp2_with fail
        go_still_tail 14, (by kernel_rfl)
        change wpList _ _ _ _ _ wr.drew
        go_wp2_with fail
        exact ⟨⟨j + 1, by omega, by simp, B3.out.drew, O3.out⟩, by simp [intOf]; omega⟩
      · have hnj : noJ x = x := if_neg e12
        have O3 := Lib.hid (show OwnE EI wr w.heap.size (.slice (some ⟨g, 0, none⟩) n c1) (strJ P (j + 1)) by rw [strJ_same hx hnj]; exact HO.out)
        have z12 : (x.o == 12) = false := by simpa using e12
        clear hnj hs hx hat e12
        go_wp2_with fail
        go_roundw
        case rel => exact ⟨j + 1, by omega, by go_num, HB.out, O3.out⟩
        case measure => simp [intOf]; omega
    · have hjn : j = n := by omega
      have hlt' : ¬ (j : Int) < n := by omega
      have ho := HO.out
      rw [hjn, HSA.out] at ho
      have HOF := Lib.hid ho
      clear ho
      go_wp2_with fail
      go_ret
      exact ⟨_, rfl, HOF.out, HB.out⟩
end Go.Proofs.Ytehkcnmjkgelkaa
