/-
  The walk of glazierlaw15.CodecParts.
-/
import Derived.Test.YtfmmfaeognoleaaM8
import Derived.Test.YtfmmfaeognoleaaM9
namespace Go.Proofs.Ytfmmfaeognoleaa
open Go.RowKit
attribute [local go_sem ↓] Go.wp_at_zero Go.wp_at_succ

def p0 : PS := ⟨1, 1, ⟨0, 0, 0, 0⟩, [⟨0, 0, 0, 1, 0, 0, 0, 0⟩], [], [[⟨1, 0, 0, 0, 0⟩]], [⟨5, 0, -1, false, []⟩]⟩
def l0 : List Int := [1, 1, 0, 0, 0, 0, 1, 0, 0, 0, 1, 0, 0, 0, 0, 0, 1, 1, 1, 0, 0, 0, 0, 1, 5, 0, -1, 0, 0]
theorem l0_nS : nS p0 = l0 := rfl
theorem p0_check : check p0 = 0 := by decide
theorem p0_ok : p0.ok := by
  refine ⟨by unfold I64; decide, by unfold I64; decide, by unfold Col.ok; decide, fun v hv => ?_, fun t ht => (by cases ht), fun l hl x hx => ?_, fun d hd => ?_⟩
  · obtain rfl : v = ⟨0, 0, 0, 1, 0, 0, 0, 0⟩ := by simpa [p0] using hv
    constructor <;> decide
  · obtain rfl : l = [⟨1, 0, 0, 0, 0⟩] := by simpa [p0] using hl
    obtain rfl : x = ⟨1, 0, 0, 0, 0⟩ := by simpa using hx
    constructor <;> first | decide | (unfold I64; decide)
  · obtain rfl : d = ⟨5, 0, -1, false, []⟩ := by simpa [p0] using hd
    refine ⟨by unfold I64; decide, by unfold I64; decide, by unfold I64; decide, fun t ht => (by cases ht)⟩
theorem p0_few : p0.few := few_len (by rw [l0_nS]; decide)
theorem take_l0 : takeP (P.put l0) = (p0, 0) := by
  have h := P.put_len (ins_nS p0_ok p0_few)
  rw [← l0_nS, takeP_put p0_ok p0_few (by rw [l0_nS] at h ⊢; have : l0.length = 29 := rfl; omega), if_pos p0_check]
theorem ins_l0 : P.Ins l0 := by rw [← l0_nS]; exact ins_nS p0_ok p0_few
theorem ins_set {l : List Int} {k : Nat} {n : Int} (h : P.Ins l) (hn : I64 n) : P.Ins (l.set k n) := fun x hx => by
  rcases List.mem_or_eq_of_mem_set hx with h1 | rfl
  · exact h x h1
  · exact hn
theorem scan_part {n : Int} {k : Nat} (hk : k = 2 ∨ k = 3 ∨ k = 4 ∨ k = 5) (hi : I64 n) (h : n < 0 ∨ 255 < n) : scanP (l0.set k n) = none := by
  cases e : scanP (l0.set k n) with
  | none => rfl
  | some q =>
    exfalso
    obtain ⟨hq, hn⟩ := scan_inv (ins_set ins_l0 hi) e
    obtain ⟨⟨r0, r1⟩, ⟨g0, g1⟩, ⟨b0, b1⟩, ⟨a0, a1⟩⟩ := hq.k
    have h2 : (nS q)[k]? = (l0.set k n)[k]? := by rw [hn]
    rcases hk with rfl | rfl | rfl | rfl <;> simp [nS, nC, l0] at h2 <;> omega
theorem scan_sign {n : Int} (h : n < 0 ∨ 255 < n) : scanP (l0.set 27 n) = none := by
  have hb : (rS ⟨l0.set 27 n, false⟩).2.bad = true := by
    have h1 : n < 0 ∨ 1 < n := by omega
    simp [l0, rS, rNum, rC, rSm, rUp, rAll, rMany, rRep, rV, rP, rI, rD, rSign, h1]
  unfold scanP
  rw [hb]
  simp
theorem take_set {n : Int} {k : Nat} (hk : k = 2 ∨ k = 3 ∨ k = 4 ∨ k = 5 ∨ k = 27) (hi : I64 n) (h : n < 0 ∨ 255 < n) : takeP (P.put (l0.set k n)) = (zS, 10) := by
  have hr : readP (P.put (l0.set k n)) = none := by
    unfold readP
    rw [P.seq_all (ins_set ins_l0 hi), P.flag_trues, P.nums_trues]
    rw [if_neg (by decide)]
    rcases hk with hk | hk | hk | hk | rfl
    · exact scan_part (.inl hk) hi h
    · exact scan_part (.inr (.inl hk)) hi h
    · exact scan_part (.inr (.inr (.inl hk))) hi h
    · exact scan_part (.inr (.inr (.inr hk))) hi h
    · exact scan_sign h
  unfold takeP
  split
  · rfl
  · rw [hr]
set_option maxRecDepth 100000 in
set_option maxHeartbeats 16000000 in
theorem parts_in (n n' a : Int) (d : Bool) (k : Nat) (r : Int) (hn : (0 ≤ n ∧ n ≤ 255 ∧ IntKind.i64.wrap (n + 256) = n') ∨ (n < 0 ∧ n' = n) ∨ (255 < n ∧ n' = n)) (hi : I64 n') (hb : n' < 0 ∨ 255 < n') (ha : 0 ≤ a ∧ a ≤ 255) (hr : a.tmod 4 = r) (hr2 : 0 ≤ r ∧ r ≤ 3)
    (hk : (d = true ∧ k = 27) ∨ (d = false ∧ (k : Int) = 2 + r)) (w : World) :
    Calls Try.prog 5 #[.int .i64 n, .int .u8 a, .bool d] w fun e w' => e = .returned (.bool true) ∧ Below w.heap.size w w' := by
  have HP0 := Lib.hid (fun (g : Nat) (t : World) (hg : t.heap[g]? = some (.cells #[.int .i64 1, .int .i64 1, .int .i64 0, .int .i64 0, .int .i64 0, .int .i64 0, .int .i64 1, .int .i64 0, .int .i64 0, .int .i64 0, .int .i64 1, .int .i64 0, .int .i64 0, .int .i64 0, .int .i64 0, .int .i64 0, .int .i64 1, .int .i64 1, .int .i64 1, .int .i64 0, .int .i64 0, .int .i64 0, .int .i64 0, .int .i64 1, .int .i64 5, .int .i64 0, .int .i64 (-1), .int .i64 0, .int .i64 0] 3 (0, 0))) => show Calls Try.prog 7 #[.slice (some ⟨g, 0, none⟩) 29 29] t (P.Made 5 .u8 t.heap.size t (P.put l0)) from
    P.rput_any (some ⟨g, 0, none⟩) 29 l0 (g + 1) t (sl_of_es (es_mid (off := 0) hg l0 rfl)) (Array.getElem?_eq_some_iff.1 hg).1 ins_l0 (by decide))
  have HTk0 := Lib.hid take_l0
  have hk27 : k = 2 ∨ k = 3 ∨ k = 4 ∨ k = 5 ∨ k = 27 := by omega
  have HTk1 := Lib.hid (take_set hk27 hi hb)
  have HIn := Lib.hid (ins_set (k := k) ins_l0 hi)
  have HB0 := Lib.hid (P.put_byt l0)
  have HB1 := Lib.hid (P.put_byt (l0.set k n'))
  have hlen0 := (P.put_len ins_l0).2
  have hlen1 := (P.put_len (ins_set (k := k) ins_l0 hi)).2
  rw [List.length_set] at hlen1
  have e29 : l0.length = 29 := rfl
  rw [e29] at hlen0 hlen1
  have HP1 := Lib.hid (fun (g : Nat) (t : World) (cs : Array Value) (hg : t.heap[g]? = some (.cells cs 3 (0, 0))) (hcs : (cs.toList.drop 0).take (l0.set k n').length = (l0.set k n').map (Value.int .i64)) => show Calls Try.prog 7 #[.slice (some ⟨g, 0, none⟩) 29 29] t (P.Made 5 .u8 t.heap.size t (P.put (l0.set k n'))) from by
    have h := P.rput_any (some ⟨g, 0, none⟩) 29 (l0.set k n') (g + 1) t (sl_of_es (es_mid (off := 0) hg (l0.set k n') hcs)) (Array.getElem?_eq_some_iff.1 hg).1 HIn.out (by rw [List.length_set]; decide)
    rw [List.length_set] at h
    exact h)
  have hwa : IntKind.i64.wrap a = a := by rw [IntKind.wrap_i64]; omega
  have hw2 : IntKind.i64.wrap (2 + r) = 2 + r := by rw [IntKind.wrap_i64]; omega
  have HN := Lib.hid hn
  generalize hbs0 : P.put l0 = bs0 at *
  generalize hbs1 : P.put (l0.set k n') = bs1 at *
  have hk29 : k < 29 := by omega
  have HKd := Lib.hid hk
  clear hbs0 hbs1 hn hi hb hk27 e29 HIn hk
  go_enter Try.func5, Try.ntmps5
  go_wp2_with fail
  with_reducible refine (cshown_any _).mono ?_
  rintro e w1 ⟨rfl, hb⟩
  have HW1 := Lib.hid hb
  clear hb
  obtain ⟨B, hB⟩ : ∃ B : Bool, decide (0 ≤ n ∧ n ≤ 255) = B := ⟨_, rfl⟩
  have HBd := Lib.hid hB
  clear hB
  go_upto_region 2 with fail
  go_cut [21] from 16 to 20 (fun c Xc => c = .bool B ∧ Xc = w1)
  case first =>
    by_cases g0 : 0 ≤ n
    · have d0 : decide (0 ≤ n) = true := by simpa using g0
      by_cases g1 : n ≤ 255
      · have d1 : decide (n ≤ 255) = true := by simpa using g1
        have e1 : B = true := by rw [← HBd.out]; simp [g0, g1]
        have E1 := Lib.hid e1
        clear e1
        go_wp2_with fail
        go_meet
        exact ⟨by rw [E1.out], rfl⟩
      · have d1 : decide (n ≤ 255) = false := by simpa using g1
        have e1 : B = false := by rw [← HBd.out]; simp [g1]
        have E1 := Lib.hid e1
        clear e1
        go_wp2_with fail
        go_meet
        exact ⟨by rw [E1.out], rfl⟩
    · have d0 : decide (0 ≤ n) = false := by simpa using g0
      have e1 : B = false := by rw [← HBd.out]; simp [g0]
      have E1 := Lib.hid e1
      clear e1
      go_wp2_with fail
      go_meet
      exact ⟨by rw [E1.out], rfl⟩
  case rest =>
  rename World => wb
  obtain ⟨rfl, rfl⟩ := hcut
  go_upto_if 21 with fail
  go_cut [0] from 22 to 23 (fun v Xc => v = .int .i64 n' ∧ Xc = wb)
  case first =>
    cases B
    · have e1 : n' = n := by
        have h := HBd.out
        rcases HN.out with ⟨a1, a2, -⟩ | ⟨-, h2⟩ | ⟨-, h2⟩
        · exact absurd h (by simp [a1, a2])
        · exact h2
        · exact h2
      have E1 := Lib.hid e1
      clear e1
      go_wp2_with fail
      go_meet
      exact ⟨by rw [E1.out], rfl⟩
    · have nw : IntKind.i64.wrap (n + 256) = n' := by
        have h := HBd.out
        rcases HN.out with ⟨-, -, h2⟩ | ⟨h2, -⟩ | ⟨h2, -⟩
        · exact h2
        · simp only [decide_eq_true_eq] at h; omega
        · simp only [decide_eq_true_eq] at h; omega
      go_wp2_with fail
      go_meet
      exact ⟨rfl, rfl⟩
  case rest =>
  rename World => wc
  obtain ⟨rfl, rfl⟩ := hcut
  go_upto_region 5 with fail
  obtain ⟨t, ht⟩ : ∃ t, wc.alloc (.cells #[.int .i64 1, .int .i64 1, .int .i64 0, .int .i64 0, .int .i64 0, .int .i64 0, .int .i64 1, .int .i64 0, .int .i64 0, .int .i64 0, .int .i64 1, .int .i64 0, .int .i64 0, .int .i64 0, .int .i64 0, .int .i64 0, .int .i64 1, .int .i64 1, .int .i64 1, .int .i64 0, .int .i64 0, .int .i64 0, .int .i64 0, .int .i64 1, .int .i64 5, .int .i64 0, .int .i64 (-1), .int .i64 0, .int .i64 0] 3) = t := ⟨_, rfl⟩
  have HG := Lib.hid (show t.heap[wc.heap.size]? = some (.cells #[.int .i64 1, .int .i64 1, .int .i64 0, .int .i64 0, .int .i64 0, .int .i64 0, .int .i64 1, .int .i64 0, .int .i64 0, .int .i64 0, .int .i64 1, .int .i64 0, .int .i64 0, .int .i64 0, .int .i64 0, .int .i64 0, .int .i64 1, .int .i64 1, .int .i64 1, .int .i64 0, .int .i64 0, .int .i64 0, .int .i64 0, .int .i64 1, .int .i64 5, .int .i64 0, .int .i64 (-1), .int .i64 0, .int .i64 0] 3 (0, 0)) by rw [← ht]; exact heap_alloc_new _ _)
  have HBt := Lib.hid (show Below w.heap.size w t by rw [← ht]; exact bstep HW1.out HW1.out.size (new_below _ _))
  have hts : wc.heap.size < t.heap.size := by rw [← ht]; simp
  rw [ht]
  clear ht
  go_wp2_with fail
  with_reducible refine (HP0.out _ t HG.out).mono ?_
  rintro e w2 ⟨v1, rfl, ho, hb⟩
  obtain ⟨A1, e1, rfl, hc1, -, hsl⟩ := ho.sl
  have HTa := Lib.hid (take_any A1 e1 bs0 hc1 (by omega) HB0.out w2 hsl)
  have HG2 := Lib.hid ((hb.block _ hts).trans HG.out)
  have HB2 := Lib.hid (bstep HBt.out HBt.out.size hb)
  have hs2 := hb.size
  clear ho hb hsl HP0 HG HBt hc1
  unfold TakeA at HTa
  go_wp2_with fail
  with_reducible refine (HTa.out).mono ?_
  rintro e w3 ⟨x, err, rfl, hb, hon, hcap, htk⟩
  obtain ⟨hxp, rfl⟩ : x.p = p0 ∧ err = 0 := by
    have h := htk.symm.trans HTk0.out
    exact ⟨congrArg Prod.fst h, congrArg Prod.snd h⟩
  have HXP := Lib.hid hxp
  have hs3 := hb.size
  have HB4 := Lib.hid (bstep (bstep HB2.out HB2.out.size hb) (by have := HB2.out.size; omega) (new_below w3 (.cells #[.int .i64 x.w, .int .i64 x.h, .int .u8 x.k.r, .int .u8 x.k.g, .int .u8 x.k.b, .int .u8 x.k.a, .slice x.vA x.vs.length x.vc, .slice x.tA x.ts.length x.tc, .slice x.pA x.ps.length x.pc, .slice x.dA x.ds.length x.dc] 33)))
  have HX4 := Lib.hid (show (w3.alloc (.cells #[.int .i64 x.w, .int .i64 x.h, .int .u8 x.k.r, .int .u8 x.k.g, .int .u8 x.k.b, .int .u8 x.k.a, .slice x.vA x.vs.length x.vc, .slice x.tA x.ts.length x.tc, .slice x.pA x.ps.length x.pc, .slice x.dA x.ds.length x.dc] 33)).heap[w3.heap.size]? = some (scB x) from heap_alloc_new _ _)
  have HG4 := Lib.hid (((new_below w3 (.cells #[.int .i64 x.w, .int .i64 x.h, .int .u8 x.k.r, .int .u8 x.k.g, .int .u8 x.k.b, .int .u8 x.k.a, .slice x.vA x.vs.length x.vc, .slice x.tA x.ts.length x.tc, .slice x.pA x.ps.length x.pc, .slice x.dA x.ds.length x.dc] 33)).block wc.heap.size (by omega)).trans ((hb.block wc.heap.size (by omega)).trans HG2.out))
  have HO4 := Lib.hid (hon.keep (w' := w3.alloc (.cells #[.int .i64 x.w, .int .i64 x.h, .int .u8 x.k.r, .int .u8 x.k.g, .int .u8 x.k.b, .int .u8 x.k.a, .slice x.vA x.vs.length x.vc, .slice x.tA x.ts.length x.tc, .slice x.pA x.ps.length x.pc, .slice x.dA x.ds.length x.dc] 33)) fun b _ hlt => (new_below w3 _).block b hlt)
  clear hb hon hcap htk hxp HTa HTk0 HG2 HB2
  go_upto_region 6 with fail
  obtain ⟨t4, ht⟩ : ∃ t, w3.alloc (.cells #[.int .i64 x.w, .int .i64 x.h, .int .u8 x.k.r, .int .u8 x.k.g, .int .u8 x.k.b, .int .u8 x.k.a, .slice x.vA x.vs.length x.vc, .slice x.tA x.ts.length x.tc, .slice x.pA x.ps.length x.pc, .slice x.dA x.ds.length x.dc] 33) = t := ⟨_, rfl⟩
  have hs4 : t4.heap.size = w3.heap.size + 1 := by rw [← ht]; simp
  rw [ht] at HX4 HG4 HO4 HB4
  rw [ht]
  clear ht
  go_upto_if 35 with fail
  go_cut [11] from 36 to 36 (fun v Xc => v = .int .i64 k ∧ Xc = t4)
  case first =>
    rcases HKd.out with ⟨rfl, rfl⟩ | ⟨rfl, hk⟩
    · go_wp2_with fail
      go_meet
      exact ⟨rfl, rfl⟩
    · have HK := Lib.hid hk
      clear hk
      go_wp2_with fail
      go_meet
      exact ⟨by rw [HK.out], rfl⟩
  case rest =>
  rename World => wd
  obtain ⟨rfl, rfl⟩ := hcut
  have hgl : wc.heap.size < wd.heap.size := by omega
  have hcell : wd.cell? ⟨wc.heap.size, k, none⟩ = some (.int .i64 (l0.getD k 0)) := by
    rw [cell_of_row wd wc.heap.size k #[.int .i64 1, .int .i64 1, .int .i64 0, .int .i64 0, .int .i64 0, .int .i64 0, .int .i64 1, .int .i64 0, .int .i64 0, .int .i64 0, .int .i64 1, .int .i64 0, .int .i64 0, .int .i64 0, .int .i64 0, .int .i64 0, .int .i64 1, .int .i64 1, .int .i64 1, .int .i64 0, .int .i64 0, .int .i64 0, .int .i64 0, .int .i64 1, .int .i64 5, .int .i64 0, .int .i64 (-1), .int .i64 0, .int .i64 0] 3 (0, 0) HG4.out, ← Array.getElem?_toList, show (#[.int .i64 1, .int .i64 1, .int .i64 0, .int .i64 0, .int .i64 0, .int .i64 0, .int .i64 1, .int .i64 0, .int .i64 0, .int .i64 0, .int .i64 1, .int .i64 0, .int .i64 0, .int .i64 0, .int .i64 0, .int .i64 0, .int .i64 1, .int .i64 1, .int .i64 1, .int .i64 0, .int .i64 0, .int .i64 0, .int .i64 0, .int .i64 1, .int .i64 5, .int .i64 0, .int .i64 (-1), .int .i64 0, .int .i64 0] : Array Value).toList = l0.map (Value.int .i64) from rfl, List.getElem?_map, List.getElem?_eq_getElem hk29, List.getD_eq_getElem?_getD, List.getElem?_eq_getElem hk29]
    rfl
  have hfr : wd.frozen? ⟨wc.heap.size, k, none⟩ = false := by simp [World.frozen?, HG4.out]
  obtain ⟨X, hX⟩ : ∃ X, wd.setCell ⟨wc.heap.size, k, none⟩ (.int .i64 n') = X := ⟨_, rfl⟩
  have HGX := Lib.hid (show X.heap[wc.heap.size]? = some (.cells ((#[.int .i64 1, .int .i64 1, .int .i64 0, .int .i64 0, .int .i64 0, .int .i64 0, .int .i64 1, .int .i64 0, .int .i64 0, .int .i64 0, .int .i64 1, .int .i64 0, .int .i64 0, .int .i64 0, .int .i64 0, .int .i64 0, .int .i64 1, .int .i64 1, .int .i64 1, .int .i64 0, .int .i64 0, .int .i64 0, .int .i64 0, .int .i64 1, .int .i64 5, .int .i64 0, .int .i64 (-1), .int .i64 0, .int .i64 0] : Array Value).setIfInBounds k (.int .i64 n')) 3 (0, 0)) by rw [← hX]; exact heap_setCell_same _ _ _ _ _ _ HG4.out)
  have HBX := Lib.hid (show Below w.heap.size w X by rw [← hX]; exact HB4.out.setCell (by have := HW1.out.size; simpa using this) _)
  have HXX := Lib.hid (show X.heap[w3.heap.size]? = some (scB x) by rw [← hX, heap_setCell_other _ _ _ _ (by simp; omega)]; exact HX4.out)
  have HOX := Lib.hid (show x.on X (fun b => w2.heap.size < b) by rw [← hX]; exact HO4.out.keep fun b h1 _ => heap_setCell_other _ _ _ _ (by simp; omega))
  have hcs : ((((#[.int .i64 1, .int .i64 1, .int .i64 0, .int .i64 0, .int .i64 0, .int .i64 0, .int .i64 1, .int .i64 0, .int .i64 0, .int .i64 0, .int .i64 1, .int .i64 0, .int .i64 0, .int .i64 0, .int .i64 0, .int .i64 0, .int .i64 1, .int .i64 1, .int .i64 1, .int .i64 0, .int .i64 0, .int .i64 0, .int .i64 0, .int .i64 1, .int .i64 5, .int .i64 0, .int .i64 (-1), .int .i64 0, .int .i64 0] : Array Value).setIfInBounds k (.int .i64 n')).toList.drop 0).take (l0.set k n').length) = (l0.set k n').map (Value.int .i64) := by
    have e1 : (#[.int .i64 1, .int .i64 1, .int .i64 0, .int .i64 0, .int .i64 0, .int .i64 0, .int .i64 1, .int .i64 0, .int .i64 0, .int .i64 0, .int .i64 1, .int .i64 0, .int .i64 0, .int .i64 0, .int .i64 0, .int .i64 0, .int .i64 1, .int .i64 1, .int .i64 1, .int .i64 0, .int .i64 0, .int .i64 0, .int .i64 0, .int .i64 1, .int .i64 5, .int .i64 0, .int .i64 (-1), .int .i64 0, .int .i64 0] : Array Value).toList = l0.map (Value.int .i64) := rfl
    rw [List.drop_zero, Array.toList_setIfInBounds, e1, List.map_set, List.take_of_length_le (by simp)]
  have HXh := Lib.hid hX
  clear hX HB4 HX4 HO4 HG4
  go_wp2_with fail
  rw [HXh.out]
  have hsX : X.heap.size = wd.heap.size := by rw [← HXh.out]; simp
  go_wp2_with fail
  with_reducible refine (HP1.out _ X _ HGX.out hcs).mono ?_
  rintro e w5 ⟨v5, rfl, ho, hb⟩
  obtain ⟨A5, e5, rfl, hc5, -, hsl⟩ := ho.sl
  have HTa := Lib.hid (take_any A5 e5 bs1 hc5 (by omega) HB1.out w5 hsl)
  have HX5 := Lib.hid (scB_keep HXX.out hb (scB_lt HXX.out))
  have HO5 := Lib.hid (HOX.out.keep fun b _ hlt => hb.block b hlt)
  have HB5 := Lib.hid (bstep HBX.out HBX.out.size hb)
  clear ho hb hsl HXX HOX HBX hc5 hcell hfr HGX hcs HXh HP1
  unfold TakeA at HTa
  go_wp2_with fail
  with_reducible refine (HTa.out).mono ?_
  rintro e w6 ⟨x', err, rfl, hb, hon, hcap, htk⟩
  obtain ⟨hz, rfl⟩ : x'.p = zS ∧ err = 10 := by
    have h := htk.symm.trans HTk1.out
    exact ⟨congrArg Prod.fst h, congrArg Prod.snd h⟩
  have HX6 := Lib.hid (scB_alloc (.cells #[.int .i64 x'.w, .int .i64 x'.h, .int .u8 x'.k.r, .int .u8 x'.k.g, .int .u8 x'.k.b, .int .u8 x'.k.a, .slice x'.vA x'.vs.length x'.vc, .slice x'.tA x'.ts.length x'.tc, .slice x'.pA x'.ps.length x'.pc, .slice x'.dA x'.ds.length x'.dc] 33) (scB_keep HX5.out hb (scB_lt HX5.out)))
  have HO6 := Lib.hid ((HO5.out.keep fun b _ hlt => hb.block b hlt).keep (w' := w6.alloc (.cells #[.int .i64 x'.w, .int .i64 x'.h, .int .u8 x'.k.r, .int .u8 x'.k.g, .int .u8 x'.k.b, .int .u8 x'.k.a, .slice x'.vA x'.vs.length x'.vc, .slice x'.tA x'.ts.length x'.tc, .slice x'.pA x'.ps.length x'.pc, .slice x'.dA x'.ds.length x'.dc] 33)) fun b _ hlt => (new_below w6 _).block b hlt)
  have HB6 := Lib.hid (bstep HB5.out HB5.out.size hb)
  have HB7 := Lib.hid (bstep HB6.out HB6.out.size (new_below w6 (.cells #[.int .i64 x'.w, .int .i64 x'.h, .int .u8 x'.k.r, .int .u8 x'.k.g, .int .u8 x'.k.b, .int .u8 x'.k.a, .slice x'.vA x'.vs.length x'.vc, .slice x'.tA x'.ts.length x'.tc, .slice x'.pA x'.ps.length x'.pc, .slice x'.dA x'.ds.length x'.dc] 33)))
  have HXn := Lib.hid (show (w6.alloc (.cells #[.int .i64 x'.w, .int .i64 x'.h, .int .u8 x'.k.r, .int .u8 x'.k.g, .int .u8 x'.k.b, .int .u8 x'.k.a, .slice x'.vA x'.vs.length x'.vc, .slice x'.tA x'.ts.length x'.tc, .slice x'.pA x'.ps.length x'.pc, .slice x'.dA x'.ds.length x'.dc] 33)).heap[w6.heap.size]? = some (scB x') from heap_alloc_new _ _)
  have HAt := Lib.hid ((hon.keep (w' := w6.alloc (.cells #[.int .i64 x'.w, .int .i64 x'.h, .int .u8 x'.k.r, .int .u8 x'.k.g, .int .u8 x'.k.b, .int .u8 x'.k.a, .slice x'.vA x'.vs.length x'.vc, .slice x'.tA x'.ts.length x'.tc, .slice x'.pA x'.ps.length x'.pc, .slice x'.dA x'.ds.length x'.dc] 33)) fun b _ hlt => (new_below w6 _).block b hlt).at)
  have HZ := Lib.hid hz
  clear hb hon hcap htk hz HTa HTk1 HX5 HO5 HB5 HB6
  go_upto_region 11 with fail
  obtain ⟨t6, ht⟩ : ∃ t, w6.alloc (.cells #[.int .i64 x'.w, .int .i64 x'.h, .int .u8 x'.k.r, .int .u8 x'.k.g, .int .u8 x'.k.b, .int .u8 x'.k.a, .slice x'.vA x'.vs.length x'.vc, .slice x'.tA x'.ts.length x'.tc, .slice x'.pA x'.ps.length x'.pc, .slice x'.dA x'.ds.length x'.dc] 33) = t := ⟨_, rfl⟩
  rw [ht] at HX6 HO6 HB7 HXn HAt
  rw [ht]
  clear ht
  obtain ⟨x0, x1, x2, x3, x4, x5, x6, x7, x8, x9⟩ := scB_cell HXn.out
  have xl := scB_lt HXn.out
  have HSm := Lib.hid (show Calls Try.prog 9 #[.agg #[.int .i64 x'.w, .int .i64 x'.h, .int .u8 x'.k.r, .int .u8 x'.k.g, .int .u8 x'.k.b, .int .u8 x'.k.a, .slice x'.vA x'.vs.length x'.vc, .slice x'.tA x'.ts.length x'.tc, .slice x'.pA x'.ps.length x'.pc, .slice x'.dA x'.ds.length x'.dc], .agg #[.int .i64 0, .int .i64 0, .int .u8 0, .int .u8 0, .int .u8 0, .int .u8 0, .slice none 0 0, .slice none 0 0, .slice none 0 0, .slice none 0 0]] t6 (fun e w' => e = .returned (.bool true) ∧ Below t6.heap.size t6 w') from same_any x' (flat0 0 0) t6 HAt.out (flat_at 0 0 _ _) (few_of HZ.out (few_p (flat_few 0 0))) true (by simp only [true_iff]; exact HZ.out))
  go_wp2_with fail
  with_reducible refine (HSm.out).mono ?_
  rintro e w7 ⟨rfl, hb⟩
  have hg7 := scB_keep HX6.out hb (scB_lt HX6.out)
  have HO7 := HO6.out.keep fun b _ hlt => hb.block b hlt
  have HB8 := Lib.hid (bstep HB7.out HB7.out.size hb)
  obtain ⟨u, hu, hux⟩ : ∃ u : Lo Dr, x.ds = [u] ∧ u.x.id = 5 := by
    have h2 : x.ds.map Lo.x = [⟨5, 0, -1, false, []⟩] := congrArg PS.ds HXP.out
    have hl := congrArg List.length h2
    rw [List.length_map] at hl
    obtain ⟨u, hu⟩ := List.length_eq_one_iff.1 hl
    rw [hu] at h2
    have h4 : u.x = ⟨5, 0, -1, false, []⟩ := by simpa using h2
    exact ⟨u, hu, by rw [h4]⟩
  obtain ⟨-, -, -, -, -, -, -, -, -, d9⟩ := scB_cell hg7
  obtain ⟨b3, off3, hA3, -, hat⟩ := HO7.d (by rw [hu]; simp)
  have hat0 := hat 0 u (by rw [hu]; rfl)
  obtain ⟨q0, -⟩ := atD hat0
  have hb3 := hat0.lt
  rw [hux, Nat.zero_mul, Nat.add_zero] at q0
  rw [hA3, hu] at d9
  have d9' : w7.cell? ⟨w3.heap.size, 9, none⟩ = some (.slice (some ⟨b3, off3, none⟩) 1 x.dc) := d9
  have gl7 := scB_lt hg7
  replace hA3 := Lib.hid hA3
  replace hu := Lib.hid hu
  clear d9 hb hat hat0 HO7 hg7 HX6 HO6 HB7 HXn HAt HSm x0 x1 x2 x3 x4 x5 x6 x7 x8 x9 xl hux
  go_wp2_with fail
  go_ret
  exact ⟨rfl, HB8.out⟩
/-- The law, whatever the number, the byte and the sign. -/
theorem parts_walk (n a : Int) (d : Bool) (hn : -9223372036854775808 ≤ n ∧ n ≤ 9223372036854775807) (ha : 0 ≤ a ∧ a ≤ 255) (w : World) :
    Calls Try.prog 5 #[.int .i64 n, .int .u8 a, .bool d] w fun e w' => e = .returned (.bool true) ∧ Below w.heap.size w w' := by
  have h4 : 0 ≤ a.tmod 4 ∧ a.tmod 4 ≤ 3 := by
    rw [Int.tmod_eq_emod_of_nonneg ha.1]
    omega
  have hway : ∃ n', ((0 ≤ n ∧ n ≤ 255 ∧ IntKind.i64.wrap (n + 256) = n') ∨ (n < 0 ∧ n' = n) ∨ (255 < n ∧ n' = n)) ∧ I64 n' ∧ (n' < 0 ∨ 255 < n') := by
    by_cases h0 : n < 0
    · exact ⟨n, .inr (.inl ⟨h0, rfl⟩), hn, .inl h0⟩
    · by_cases h1 : 255 < n
      · exact ⟨n, .inr (.inr ⟨h1, rfl⟩), hn, .inr h1⟩
      · exact ⟨n + 256, .inl ⟨by omega, by omega, by rw [IntKind.wrap_i64]; omega⟩, by unfold I64; omega, by omega⟩
  obtain ⟨n', hw, hi, hb⟩ := hway
  cases d
  · exact parts_in n n' a false (2 + (a.tmod 4).toNat) (a.tmod 4) hw hi hb ha rfl h4 (.inr ⟨rfl, by omega⟩) w
  · exact parts_in n n' a true 27 (a.tmod 4) hw hi hb ha rfl h4 (.inl ⟨rfl, rfl⟩) w
end Go.Proofs.Ytfmmfaeognoleaa
