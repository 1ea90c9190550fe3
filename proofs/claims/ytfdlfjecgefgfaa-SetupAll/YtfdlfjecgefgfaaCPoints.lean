/-
  The contract of view.Points.
-/
import Derived.Test.YtfdlfjecgefgfaaCView1
import Derived.Test.YtfdlfjecgefgfaaCPs
namespace Go.Proofs.Ytfdlfjecgefgfaa.C
open Go.RowKit
attribute [local go_sem ↓] Go.wp_at_zero Go.wp_at_succ

def okAll (m k : Int) (xs : List V) : Bool := xs.all (okP m k)
def pts (m k : Int) (xs : List V) : List P := if okAll m k xs = true then xs.map (pt m k) else []
/-- A call answers a new row of points and a bool, and what lay lies as it lay. -/
def MadeB (base : Nat) (w : World) (xs : List P) (b : Bool) (e : Ending) (w' : World) : Prop := ∃ v, e = .returned (.tuple #[v, .bool b]) ∧ OwnP w' base v xs ∧ Below base w w'

/-- The row, when j of n have been put. -/
def rowAt (m k : Int) (xs : List V) (j : Nat) : List P := (xs.take j).map (pt m k) ++ List.replicate (xs.length - j) pz
theorem rowAt_get {m k : Int} {xs : List V} {j : Nat} (h : j < xs.length) : (rowAt m k xs j)[j]? = some pz := by
  unfold rowAt
  rw [List.getElem?_append_right (by simp; omega)]
  simp only [List.length_map, List.length_take]
  rw [show j - min j xs.length = 0 by omega, show xs.length - j = (xs.length - (j + 1)) + 1 by omega, List.replicate_succ]
  rfl
theorem rowAt_set {m k : Int} {xs : List V} {j : Nat} {u : V} (h : xs[j]? = some u) (hj : j < xs.length) : (rowAt m k xs j).set j (pt m k u) = rowAt m k xs (j + 1) := by
  unfold rowAt
  rw [List.set_append_right _ _ (by simp; omega)]
  simp only [List.length_map, List.length_take]
  rw [show j - min j xs.length = 0 by omega, List.take_add_one, h, show xs.length - j = (xs.length - (j + 1)) + 1 by omega, List.replicate_succ, List.set_cons_zero]
  simp
theorem rowAt_zero (m k : Int) (xs : List V) : rowAt m k xs 0 = List.replicate xs.length pz := by simp [rowAt]
theorem rowAt_all (m k : Int) (xs : List V) : rowAt m k xs xs.length = xs.map (pt m k) := by simp [rowAt]
theorem OwnP.cell {w : World} {base g n c : Nat} {xs : List P} (h : OwnP w base (.slice (some ⟨g, 0, none⟩) n c) xs) : ∀ j u, xs[j]? = some u → At7 w g (j * 7) u := by
  intro j u hj
  obtain ⟨g', c', e, -, hc⟩ := h.at0 (by rintro rfl; simp at hj)
  obtain ⟨rfl, -, -⟩ : g = g' ∧ n = xs.length ∧ c = c' := by simpa using e
  exact hc j u hj
theorem flatP_zero : ∀ n, flatP (List.replicate n pz) = List.replicate (n * 7) (.int .i64 0)
  | 0 => rfl
  | n + 1 => by
    have ih := flatP_zero n
    show cellsP pz ++ flatP (List.replicate n pz) = _
    rw [ih, show (n + 1) * 7 = n * 7 + 1 + 1 + 1 + 1 + 1 + 1 + 1 by omega]
    simp only [List.replicate_succ]
    rfl
theorem made_zero (n : Nat) : (madeCells (Value.agg #[.int .i64 0, .int .i64 0, .int .i64 0, .int .i64 0, .int .i64 0, .int .i64 0, .int .i64 0]).cells (n * 7)).toList = flatP (List.replicate n pz) := by
  rw [flatP_zero]
  unfold madeCells
  refine List.ext_getElem (by simp) fun i h1 h2 => ?_
  simp only [List.getElem_replicate, Array.getElem_toList, Array.getElem_map, Array.getElem_range]
  have hr : i % 7 = 0 ∨ i % 7 = 1 ∨ i % 7 = 2 ∨ i % 7 = 3 ∨ i % 7 = 4 ∨ i % 7 = 5 ∨ i % 7 = 6 := by omega
  show (#[Value.int .i64 0, .int .i64 0, .int .i64 0, .int .i64 0, .int .i64 0, .int .i64 0, .int .i64 0] : Array Value)[i % 7]! = _
  rcases hr with e | e | e | e | e | e | e <;> rw [e] <;> rfl

set_option maxRecDepth 100000 in
set_option maxHeartbeats 2000000 in
theorem points_any (m k : Int) (A : Option Addr) (c : Nat) (xs : List V) (B : Nat) (w : World) (hs : Vs w B A xs) (hB : B ≤ w.heap.size) (hl : xs.length ≤ 1000) (hm : ∀ v ∈ xs, v.sm) :
    Calls Try.prog 24 #[.int .i64 m, .int .i64 k, .slice A xs.length c] w (MadeB w.heap.size w (pts m k xs) (okAll m k xs)) := by
  obtain ⟨i0, hi, hz0, hz1, hz2⟩ := info_parts Try.info37
  have HI := Lib.hid hi
  have HZ := Lib.hid (And.intro hz0 (And.intro hz1 hz2))
  clear hi hz0 hz1 hz2
  have HS := Lib.hid hs
  have HM := Lib.hid hm
  clear hs hm
  generalize hn : xs.length = n at *
  have HN := Lib.hid hn
  clear hn
  obtain ⟨W0, hW0⟩ : ∃ W0, W0 = ((w.alloc (Obj.cells #[.int .i64 m] 3)).alloc (Obj.cells #[.int .i64 k] 3)).alloc (Obj.cells #[.bool (scr m k)] 4) := ⟨_, rfl⟩
  have B0 : Below w.heap.size w W0 := by rw [hW0]; exact (((Below.refl _ _).alloc (Nat.le_refl _) _).alloc (by simp) _).alloc (by simp; omega) _
  have z0 : W0.heap.size = w.heap.size + 3 := by rw [hW0]; simp
  have C0 := Lib.hid (show W0.cell? ⟨w.heap.size + 2, 0, none⟩ = some (.bool (scr m k)) by rw [hW0]; simp [go_sem])
  have C1 := Lib.hid (show W0.cell? ⟨w.heap.size, 0, none⟩ = some (.int .i64 m) by rw [hW0]; simp [go_sem])
  have C2 := Lib.hid (show W0.cell? ⟨w.heap.size + 1, 0, none⟩ = some (.int .i64 k) by rw [hW0]; simp [go_sem])
  obtain ⟨w1, hmk, hown, hgrow⟩ := run_make_full (P := Try.prog) W0 W0.heap.size 53 37 i0 _ 7 Try.underlying53 HI.out HZ.out.1 HZ.out.2.1 .i64 .i64 n (by rw [HZ.out.2.2]; omega) (by unfold maxLen; omega) (Nat.le_refl _)
  have b1 : Below W0.heap.size W0 w1 := (Below.refl _ _).grown hgrow (Nat.le_refl _) (fun j e => by cases e)
  rw [made_zero] at hown
  rw [z0] at hmk hown b1
  have O1 := Lib.hid (show OwnP w1 (w.heap.size + 3) (.slice (some ⟨w.heap.size + 3, 0, none⟩) n n) (rowAt m k xs 0) by
    have e1 : (List.replicate n pz).length = n := by simp
    unfold OwnP
    rw [rowAt_zero, HN.out, e1]
    exact hown)
  have BB := Lib.hid (B0.trans (b1.mono (by omega)))
  have B1 := Lib.hid b1
  have Z0 := Lib.hid z0
  clear hown hgrow b1 z0 B0
  go_enter Try.func24, Try.ntmps24
  go_wp2_with fail
  with_reducible refine (onto_any m k _).mono ?_
  rintro e w2 ⟨rfl, rfl⟩
  rw [← hW0]
  clear hW0
  go_wp2
  go_loopw [22] (fun i wr => ∃ j : Nat, j ≤ n ∧ i = .int .i64 j ∧ (∀ v ∈ xs.take j, okP m k v = true) ∧ OwnP wr (w.heap.size + 3) (.slice (some ⟨w.heap.size + 3, 0, none⟩) n n) (rowAt m k xs j) ∧ Below w.heap.size w wr ∧ Below (w.heap.size + 3) W0 wr) (fun i _ => n - (intOf i).toNat)
  case atStart => exact ⟨0, Nat.zero_le _, rfl, by simp, O1.out, BB.out, B1.out⟩
  case round =>
    obtain ⟨j, hj, rfl, hin, ho, hbel, hbel0⟩ := hrel
    have HO := Lib.hid ho
    have HK := Lib.hid hin
    have HBE := Lib.hid hbel
    have HB0 := Lib.hid hbel0
    have hzr : w.heap.size + 3 ≤ wr.heap.size := by have := hbel0.size; rw [Z0.out] at this; exact this
    clear hin ho hbel hbel0 BB B1 O1
    by_cases hlt : j < n
    · obtain ⟨b, off, rfl, hbB, hcell⟩ := HS.out.open (k := j) (by rw [HN.out]; exact hlt)
      obtain ⟨u, hu, h8⟩ := hcell j (by rw [HN.out]; exact hlt)
      have HV := Lib.hid (HM.out u (List.mem_of_getElem? hu))
      have HU := Lib.hid hu
      obtain ⟨e0, e1, e2, e3, e4, e5, e6, e7⟩ := (h8.below (HBE.out.mono hB) hbB)
      have hbz : b < wr.heap.size := by omega
      clear hcell hu h8
      have PU : ∀ o, Calls Try.prog 45 #[.agg #[.int .i64 u.x, .int .i64 u.y, .int .i64 u.z, .int .i64 u.w, .int .i64 u.a, .int .i64 u.b, .int .i64 u.c, .int .i64 u.d], .pointer (some ⟨w.heap.size + 2, 0, none⟩), .pointer (some ⟨w.heap.size, 0, none⟩), .pointer (some ⟨w.heap.size + 1, 0, none⟩)] (wr.alloc o) fun e w' => e = .returned (.tuple #[.agg #[.int .i64 (ptO m k u).x, .int .i64 (ptO m k u).y, .int .i64 (ptO m k u).z, .int .i64 (ptO m k u).a, .int .i64 (ptO m k u).b, .int .i64 (ptO m k u).c, .int .i64 (ptO m k u).d], .bool (okP m k u)]) ∧ Below (wr.alloc o).heap.size (wr.alloc o) w' := fun o =>
        have hA : Below (w.heap.size + 3) W0 (wr.alloc o) := HB0.out.alloc hzr o
        put_any u m k _ _ _ _ HV.out ((hA.cell (by simp)).trans C0.out) ((hA.cell (by simp)).trans C1.out) ((hA.cell (by simp)).trans C2.out)
      cases hok : okP m k u
      · have he : ptO m k u = pz := by unfold ptO; rw [if_neg (by simp [hok])]
        rw [he, hok] at PU
        have HP := Lib.hid PU
        have HOK := Lib.hid hok
        clear PU hok he
        go_wp2_with fail
        with_reducible refine (HP.out _).mono ?_
        rintro e w2 ⟨rfl, hb2⟩
        have H2 := Lib.hid (bstep (HBE.out.alloc HBE.out.size _) (by simp; omega) hb2)
        clear hb2 e0 e1 e2 e3 e4 e5 e6 e7
        go_wp2
        go_ret2
        have hno : okAll m k xs = false := by
          unfold okAll
          rw [List.all_eq_false]
          exact ⟨u, List.mem_of_getElem? HU.out, by rw [HOK.out]; decide⟩
        refine ⟨.slice none 0 0, by rw [hno]; rfl, ?_, H2.out.alloc H2.out.size _⟩
        unfold pts
        rw [if_neg (by rw [hno]; decide)]
        exact OwnP.nil _ _
      · have he : ptO m k u = pt m k u := by unfold ptO; rw [if_pos hok]
        rw [he, hok] at PU
        have HP := Lib.hid PU
        have HOK := Lib.hid hok
        clear PU hok he
        go_wp2_with fail
        with_reducible refine (HP.out _).mono ?_
        rintro e w2 ⟨rfl, hb2⟩
        have H2 := Lib.hid (bstep (HBE.out.alloc HBE.out.size _) (by simp; omega) hb2)
        have H0 := Lib.hid (bstep (HB0.out.alloc hzr _) (by simp; omega) hb2)
        have O2 := Lib.hid ((HO.out.alloc _).keep hb2)
        clear hb2 e0 e1 e2 e3 e4 e5 e6 e7
        have hz2 : w.heap.size + 3 < w2.heap.size := (O2.out.cell j pz (rowAt_get (by rw [HN.out]; exact hlt))).lt
        obtain ⟨q0, q1, q2, q3, q4, q5, q6⟩ := O2.out.cell j pz (rowAt_get (by rw [HN.out]; exact hlt))
        have f0 := O2.out.free (j * 7)
        have f1 := O2.out.free (j * 7 + 1)
        have f2 := O2.out.free (j * 7 + 2)
        have f3 := O2.out.free (j * 7 + 3)
        have f4 := O2.out.free (j * 7 + 4)
        have f5 := O2.out.free (j * 7 + 5)
        have f6 := O2.out.free (j * 7 + 6)
        simp only [pz] at q0 q1 q2 q3 q4 q5 q6
        generalize hR : pt m k u = R
        have HR := Lib.hid hR
        clear hR
        go_wp2
        go_roundw
        case rel =>
          have hg := rowAt_get (m := m) (k := k) (show j < xs.length by rw [HN.out]; exact hlt)
          have hp := O2.out.put R hg
          rw [← HR.out, rowAt_set HU.out (by rw [HN.out]; exact hlt)] at hp
          rw [HR.out] at hp
          refine ⟨j + 1, by omega, by go_num, ?_, hp.alloc _, ?_, ?_⟩
          · rw [List.take_add_one, HU.out]
            intro v hv
            rcases List.mem_append.1 hv with h | h
            · exact HK.out v h
            · simp at h; subst h; exact HOK.out
          · exact (((((((H2.out.setCell (by simp) _).setCell (by simp) _).setCell (by simp) _).setCell (by simp) _).setCell (by simp) _).setCell (by simp) _).setCell (by simp) _).alloc (by simp; omega) _
          · exact (((((((H0.out.setCell (by simp) _).setCell (by simp) _).setCell (by simp) _).setCell (by simp) _).setCell (by simp) _).setCell (by simp) _).setCell (by simp) _).alloc (by simp; omega) _
        case measure => simp [intOf]; omega
    · go_wp2
      go_ret2
      have e : xs.take j = xs := List.take_of_length_le (by rw [HN.out]; omega)
      have hyes : okAll m k xs = true := by
        unfold okAll
        rw [List.all_eq_true]
        have h := HK.out
        rw [e] at h
        exact h
      have ho := HO.out
      rw [show j = xs.length by rw [HN.out]; omega, rowAt_all] at ho
      refine ⟨.slice (some ⟨w.heap.size + 3, 0, none⟩) n n, by rw [hyes]; rfl, ?_, HBE.out⟩
      unfold pts
      rw [if_pos hyes]
      exact ho.less (by omega)
end Go.Proofs.Ytfdlfjecgefgfaa.C
