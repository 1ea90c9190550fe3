/-
  Whether two rows of draws are the same (glazierref14.draws).
-/
import Derived.Test.YtfmmfaeognoleaaGreatM10
import Derived.BigQuiet
import Derived.Test.YtfmmfaeognoleaaGreatM9
import Derived.Test.YtfmmfaeognoleaaGreatM6
import Derived.Deep.RegionHeld3
import Derived.Laws.BitsAllLaws
import Derived.Test.YtfmmfaeognoleaaGreatM7
import Derived.Deep.Draws
import Derived.Test.YtfmmfaeognoleaaGreatM5
namespace Go.Proofs.YtfmmfaeognoleaaGreat
open Go.RowKit
attribute [local go_sem ↓] Go.wp_at_zero Go.wp_at_succ
attribute [local go_sem high] neqR0
attribute [local go_sem] guardR0

theorem below_drw {B : Nat} {w w' : World} (h : Below B w w') : Below B w w'.drew := h.drew
/-- The first of five that differs, or none. -/
theorem five_ways (a b c d e : Bool) : (a = false ∧ b = false ∧ c = false ∧ d = false ∧ e = false) ∨ a = true ∨ (a = false ∧ b = true) ∨ (a = false ∧ b = false ∧ c = true) ∨ (a = false ∧ b = false ∧ c = false ∧ d = true) ∨ (a = false ∧ b = false ∧ c = false ∧ d = false ∧ e = true) := by
  cases a <;> cases b <;> cases c <;> cases d <;> cases e <;> simp
set_option maxRecDepth 100000 in
set_option maxHeartbeats 4000000 in
theorem draws_any (A A' : Option Addr) (c c' : Nat) (xs ys : List (Lo Dr)) (w : World) (hs : Es ED w w.heap.size A xs) (hs' : Es ED w w.heap.size A' ys) (hx : ∀ l ∈ xs, Es ER w w.heap.size l.A l.x.tris) (hy : ∀ l ∈ ys, Es ER w w.heap.size l.A l.x.tris)
    (hl : xs.length ≤ 100000) (hlx : ∀ l ∈ xs, l.x.tris.length ≤ 100000) (b : Bool) (hb : b = true ↔ xs.map Lo.x = ys.map Lo.x) :
    Calls Tryz.prog 22 #[.slice A xs.length c, .slice A' ys.length c'] w fun e w' => e = .returned (.bool b) ∧ Below w.heap.size w w' := by
  have HS := Lib.hid hs
  have HS' := Lib.hid hs'
  have HX := Lib.hid hx
  have HY := Lib.hid hy
  have HLX := Lib.hid hlx
  have HB := Lib.hid hb
  clear hs hs' hb hx hy hlx
  generalize hn : xs.length = n at *
  generalize hn' : ys.length = n' at *
  have HN := Lib.hid hn
  have HN' := Lib.hid hn'
  clear hn hn'
  by_cases hnn : n = n'
  · subst hnn
    go_enter Tryz.func22, Tryz.ntmps22
    go_wp2_with fail
    go_loopw [5] (fun i wr => ∃ k : Nat, k ≤ n ∧ i = .int .i64 k ∧ (xs.take k).map Lo.x = (ys.take k).map Lo.x ∧ Below w.heap.size w wr) (fun i _ => n - (intOf i).toNat)
    case atStart => exact ⟨0, Nat.zero_le _, rfl, by simp, Below.refl _ _⟩
    case round =>
      obtain ⟨k, hk, rfl, hin, hbel⟩ := hrel
      have HK := Lib.hid hin
      have HBE := Lib.hid hbel
      clear hin hbel
      by_cases hlt : k < n
      · obtain ⟨u, hu⟩ := get_lt (l := xs) (k := k) (by rw [HN.out]; exact hlt)
        obtain ⟨t, ht⟩ := get_lt (l := ys) (k := k) (by rw [HN'.out]; exact hlt)
        obtain ⟨b1, off, rfl, hbB, hat⟩ := HS.out.at hu
        obtain ⟨b2, off', rfl, hbB', hat'⟩ := HS'.out.at ht
        have HU := Lib.hid hu
        have HT := Lib.hid ht
        have HEU := Lib.hid (HX.out u (List.mem_of_getElem? hu))
        have HET := Lib.hid (HY.out t (List.mem_of_getElem? ht))
        have hul := HLX.out u (List.mem_of_getElem? hu)
        obtain ⟨e0, e1, e2, e3, e4⟩ := atD (show AtE ED wr b1 (off + k * 5) u from hat.below HBE.out hbB)
        obtain ⟨f0, f1, f2, f3, f4⟩ := atD (show AtE ED wr b2 (off' + k * 5) t from hat'.below HBE.out hbB')
        have HAU := Lib.hid hat
        have HAT := Lib.hid hat'
        have hbw := Nat.lt_of_lt_of_le hbB HBE.out.size
        have hbw' := Nat.lt_of_lt_of_le hbB' HBE.out.size
        clear hu ht hat hat'
        have hne : ∀ {α : Type} [BEq α] [LawfulBEq α] {a b : α}, (a != b) = true → a ≠ b := fun h e => by subst e; simp at h
        have HBAD := Lib.hid (show u.x ≠ t.x → b = false from fun h => by
          cases b
          · rfl
          · have h2 := HB.out.1 rfl
            have h3 : (xs.map Lo.x)[k]? = (ys.map Lo.x)[k]? := by rw [h2]
            rw [List.getElem?_map, List.getElem?_map, HU.out, HT.out] at h3
            exact absurd (by simpa using h3) h)
        have y0 : ∀ x : Grow wr, x.w.cell? ⟨b1, off + k * 5, none⟩ = some (.int .i64 u.x.id) := fun x => x.cell e0
        have y1 : ∀ x : Grow wr, x.w.cell? ⟨b1, off + k * 5 + 1, none⟩ = some (.int .i64 u.x.prog) := fun x => x.cell e1
        have y2 : ∀ x : Grow wr, x.w.cell? ⟨b1, off + k * 5 + 2, none⟩ = some (.int .i64 u.x.tex) := fun x => x.cell e2
        have y3 : ∀ x : Grow wr, x.w.cell? ⟨b1, off + k * 5 + 3, none⟩ = some (.bool u.x.op) := fun x => x.cell e3
        have y4 : ∀ x : Grow wr, x.w.cell? ⟨b1, off + k * 5 + 4, none⟩ = some (.slice u.A u.x.tris.length u.c) := fun x => x.cell e4
        have z0 : ∀ x : Grow wr, x.w.cell? ⟨b2, off' + k * 5, none⟩ = some (.int .i64 t.x.id) := fun x => x.cell f0
        have z1 : ∀ x : Grow wr, x.w.cell? ⟨b2, off' + k * 5 + 1, none⟩ = some (.int .i64 t.x.prog) := fun x => x.cell f1
        have z2 : ∀ x : Grow wr, x.w.cell? ⟨b2, off' + k * 5 + 2, none⟩ = some (.int .i64 t.x.tex) := fun x => x.cell f2
        have z3 : ∀ x : Grow wr, x.w.cell? ⟨b2, off' + k * 5 + 3, none⟩ = some (.bool t.x.op) := fun x => x.cell f3
        have z4 : ∀ x : Grow wr, x.w.cell? ⟨b2, off' + k * 5 + 4, none⟩ = some (.slice t.A t.x.tris.length t.c) := fun x => x.cell f4
        have hszu : ∀ x : Grow wr, b1 < x.w.heap.size := fun x => Nat.lt_of_lt_of_le hbw x.below.size
        have hszt : ∀ x : Grow wr, b2 < x.w.heap.size := fun x => Nat.lt_of_lt_of_le hbw' x.below.size
        have ne1 := Grow.ne wr
        rcases five_ways (u.x.id != t.x.id) (u.x.prog != t.x.prog) (u.x.tex != t.x.tex) (u.x.op != t.x.op) ((u.x.tris.length : Int) != t.x.tris.length) with ⟨w0, w1, w2, w3, w4⟩ | w0 | ⟨w0, w1⟩ | ⟨w0, w1, w2⟩ | ⟨w0, w1, w2, w3⟩ | ⟨w0, w1, w2, w3, w4⟩
        rotate_left
        · obtain rfl := HBAD.out fun e => hne w0 (by rw [e])
          clear hne HBAD
          go_wp2_with fail
          refine wp_region_grow (by kernel_rfl) (by kernel_rfl) ?_
          try simp only [List.append_eq, List.cons_append, List.nil_append]
          repeat (first | go_big_quiet_skip | go_big_quiet_step (fail))
          refine wpQuiet_nil ?_
          rintro _ ⟨z, rfl⟩
          have B7 := Lib.hid (bstep HBE.out HBE.out.size z.below)
          generalize z.w = Y at *
          clear z
          go_wp2_with fail
          go_ret
          exact ⟨rfl, B7.out⟩
        · obtain rfl := HBAD.out fun e => hne w1 (by rw [e])
          clear hne HBAD
          go_wp2_with fail
          refine wp_region_grow (by kernel_rfl) (by kernel_rfl) ?_
          try simp only [List.append_eq, List.cons_append, List.nil_append]
          repeat (first | go_big_quiet_skip | go_big_quiet_step (fail))
          refine wpQuiet_nil ?_
          rintro _ ⟨z, rfl⟩
          have B7 := Lib.hid (bstep HBE.out HBE.out.size z.below)
          generalize z.w = Y at *
          clear z
          go_wp2_with fail
          go_ret
          exact ⟨rfl, B7.out⟩
        · obtain rfl := HBAD.out fun e => hne w2 (by rw [e])
          clear hne HBAD
          go_wp2_with fail
          refine wp_region_grow (by kernel_rfl) (by kernel_rfl) ?_
          try simp only [List.append_eq, List.cons_append, List.nil_append]
          repeat (first | go_big_quiet_skip | go_big_quiet_step (fail))
          refine wpQuiet_nil ?_
          rintro _ ⟨z, rfl⟩
          have B7 := Lib.hid (bstep HBE.out HBE.out.size z.below)
          generalize z.w = Y at *
          clear z
          go_wp2_with fail
          go_ret
          exact ⟨rfl, B7.out⟩
        · obtain rfl := HBAD.out fun e => hne w3 (by rw [e])
          have hop : u.x.op ≠ t.x.op := hne w3
          clear hne HBAD w3
          obtain ⟨o1, ho1⟩ : ∃ o, u.x.op = o := ⟨_, rfl⟩
          obtain ⟨o2, ho2⟩ : ∃ o, t.x.op = o := ⟨_, rfl⟩
          rw [ho1] at y3 hop
          rw [ho2] at z3 hop
          clear ho1 ho2 e3 f3
          go_wp2_with fail
          cases o1 <;> cases o2
          all_goals first
            | exact absurd rfl hop
            | skip
          all_goals
            clear hop
            refine wp_region_grow (by kernel_rfl) (by kernel_rfl) ?_
            try simp only [List.append_eq, List.cons_append, List.nil_append]
            repeat (first | go_big_quiet_skip | go_big_quiet_step (fail))
            refine wpQuiet_nil ?_
            rintro _ ⟨z, rfl⟩
            have B7 := Lib.hid (bstep HBE.out HBE.out.size z.below)
            generalize z.w = Y at *
            clear z
            go_wp2_with fail
            go_ret
            exact ⟨rfl, B7.out⟩
        · obtain rfl := HBAD.out fun e => hne w4 (by rw [e])
          have hop : u.x.op = t.x.op := by simpa using w3
          clear hne HBAD w3
          obtain ⟨o2, ho2⟩ : ∃ o, t.x.op = o := ⟨_, rfl⟩
          rw [hop, ho2] at y3
          rw [ho2] at z3
          clear ho2 e3 f3 hop
          cases o2
          all_goals
            go_wp2_with fail
            refine wp_region_grow (by kernel_rfl) (by kernel_rfl) ?_
            try simp only [List.append_eq, List.cons_append, List.nil_append]
            repeat (first | go_big_quiet_skip | go_big_quiet_step (fail))
            refine wpQuiet_nil ?_
            rintro _ ⟨z, rfl⟩
            have B7 := Lib.hid (bstep HBE.out HBE.out.size z.below)
            generalize z.w = Y at *
            clear z
            go_wp2_with fail
            go_ret
            exact ⟨rfl, B7.out⟩
        · have v0 : u.x.id = t.x.id := by simpa using w0
          have v1 : u.x.prog = t.x.prog := by simpa using w1
          have v2 : u.x.tex = t.x.tex := by simpa using w2
          have v3 : u.x.op = t.x.op := by simpa using w3
          have v4 : u.x.tris.length = t.x.tris.length := by
            have h5 : (u.x.tris.length : Int) = t.x.tris.length := by simpa using w4
            omega
          have HV := Lib.hid (show u.x.tris = t.x.tris → u.x = t.x from fun h => by
            obtain ⟨⟨a1, a2, a3, a4, a5⟩, _, _⟩ := u
            obtain ⟨⟨d1, d2, d3, d4, d5⟩, _, _⟩ := t
            simp only at v0 v1 v2 v3 h ⊢
            rw [v0, v1, v2, v3, h])
          go_wp2_with fail
          obtain ⟨o2, ho2⟩ : ∃ o, t.x.op = o := ⟨_, rfl⟩
          rw [v3, ho2] at y3
          rw [ho2] at z3
          clear v0 v1 v2 v3 hne ho2 e3 f3 w3
          refine wp_region_grow (by kernel_rfl) (by kernel_rfl) ?_
          try simp only [List.append_eq, List.cons_append, List.nil_append]
          repeat (first | go_big_quiet_skip | go_big_quiet_step (fail))
          refine wpQuiet_nil ?_
          rintro _ ⟨z, rfl⟩
          have B7 := Lib.hid (bstep HBE.out HBE.out.size z.below)
          generalize z.w = Y at *
          clear z y0 y1 y2 y3 y4 z0 z1 z2 z3 z4 hszu hszt ne1 w0 w1 w2 e0 e1 e2 e4 f0 f1 f2 f4 hbw hbw'
          obtain ⟨m, hm⟩ : ∃ m, u.x.tris.length = m := ⟨_, rfl⟩
          have HMu := Lib.hid hm
          have HMt := Lib.hid (v4.symm.trans hm)
          rw [hm] at hul
          clear hm w4 v4
          go_wp2_with fail
          go_loopw [6] (fun i wr => ∃ j : Nat, j ≤ m ∧ i = .int .i64 j ∧ u.x.tris.take j = t.x.tris.take j ∧ Below w.heap.size w wr) (fun i _ => m - (intOf i).toNat)
          case atStart => exact ⟨0, Nat.zero_le _, rfl, by simp, B7.out⟩
          case round =>
            rename World => wq
            obtain ⟨j, hj, rfl, hin2, hbel2⟩ := hrel
            have HK2 := Lib.hid hin2
            have HB2 := Lib.hid hbel2
            clear hin2 hbel2
            obtain ⟨-, -, -, -, e4⟩ := atD (show AtE ED wq b1 (off + k * 5) u from HAU.out.below HB2.out hbB)
            obtain ⟨-, -, -, -, f4⟩ := atD (show AtE ED wq b2 (off' + k * 5) t from HAT.out.below HB2.out hbB')
            rw [HMu.out] at e4
            rw [HMt.out] at f4
            have hbw := Nat.lt_of_lt_of_le hbB HB2.out.size
            have hbw' := Nat.lt_of_lt_of_le hbB' HB2.out.size
            by_cases hjm : j < m
            · obtain ⟨p, hp⟩ := get_lt (l := u.x.tris) (k := j) (by rw [HMu.out]; exact hjm)
              obtain ⟨q, hq⟩ := get_lt (l := t.x.tris) (k := j) (by rw [HMt.out]; exact hjm)
              obtain ⟨b3, off3, hA3, hb3, at3⟩ := HEU.out.at hp
              obtain ⟨b4, off4, hA4, hb4, at4⟩ := HET.out.at hq
              have HP := Lib.hid hp
              have HQ := Lib.hid hq
              rw [hA3] at e4
              rw [hA4] at f4
              obtain ⟨p0, p1, p2, p3⟩ := atR (show AtE ER wq b3 (off3 + j * 4) p from at3.below HB2.out hb3)
              obtain ⟨q0, q1, q2, q3⟩ := atR (show AtE ER wq b4 (off4 + j * 4) q from at4.below HB2.out hb4)
              have g4 : ∀ x : Grow wq, x.w.cell? ⟨b1, off + k * 5 + 4, none⟩ = some (.slice (some ⟨b3, off3, none⟩) m u.c) := fun x => x.cell e4
              have i4 : ∀ x : Grow wq, x.w.cell? ⟨b2, off' + k * 5 + 4, none⟩ = some (.slice (some ⟨b4, off4, none⟩) m t.c) := fun x => x.cell f4
              have g5 : ∀ x : Grow wq, x.w.cell? ⟨b3, off3 + j * 4, none⟩ = some (.int .i64 p.i) := fun x => x.cell p0
              have g6 : ∀ x : Grow wq, x.w.cell? ⟨b3, off3 + j * 4 + 1, none⟩ = some (.int .i64 p.a) := fun x => x.cell p1
              have g7 : ∀ x : Grow wq, x.w.cell? ⟨b3, off3 + j * 4 + 2, none⟩ = some (.int .i64 p.b) := fun x => x.cell p2
              have g8 : ∀ x : Grow wq, x.w.cell? ⟨b3, off3 + j * 4 + 3, none⟩ = some (.int .i64 p.c) := fun x => x.cell p3
              have i5 : ∀ x : Grow wq, x.w.cell? ⟨b4, off4 + j * 4, none⟩ = some (.int .i64 q.i) := fun x => x.cell q0
              have i6 : ∀ x : Grow wq, x.w.cell? ⟨b4, off4 + j * 4 + 1, none⟩ = some (.int .i64 q.a) := fun x => x.cell q1
              have i7 : ∀ x : Grow wq, x.w.cell? ⟨b4, off4 + j * 4 + 2, none⟩ = some (.int .i64 q.b) := fun x => x.cell q2
              have i8 : ∀ x : Grow wq, x.w.cell? ⟨b4, off4 + j * 4 + 3, none⟩ = some (.int .i64 q.c) := fun x => x.cell q3
              have hbw3 := Nat.lt_of_lt_of_le hb3 HB2.out.size
              have hbw4 := Nat.lt_of_lt_of_le hb4 HB2.out.size
              have s1 : ∀ x : Grow wq, b1 < x.w.heap.size := fun x => Nat.lt_of_lt_of_le hbw x.below.size
              have s2 : ∀ x : Grow wq, b2 < x.w.heap.size := fun x => Nat.lt_of_lt_of_le hbw' x.below.size
              have s3 : ∀ x : Grow wq, b3 < x.w.heap.size := fun x => Nat.lt_of_lt_of_le hbw3 x.below.size
              have s4 : ∀ x : Grow wq, b4 < x.w.heap.size := fun x => Nat.lt_of_lt_of_le hbw4 x.below.size
              have ne2 := Grow.ne wq
              obtain ⟨r, hr⟩ : ∃ r, sameR0 ⟨p.i, p.a, p.b, p.c⟩ ⟨q.i, q.a, q.b, q.c⟩ = r := ⟨_, rfl⟩
              have HR := Lib.hid (show sameR0 p q = r from hr)
              clear hp hq at3 at4
              go_wp2_with fail
              refine wp_region_grow (by kernel_rfl) (by kernel_rfl) ?_
              try simp only [List.append_eq, List.cons_append, List.nil_append]
              repeat (first | go_big_quiet_skip | go_big_quiet_step (fail))
              refine wpQuiet_nil ?_
              rintro _ ⟨z, rfl⟩
              have B8 := Lib.hid (bstep HB2.out HB2.out.size z.below)
              generalize z.w = Y2 at *
              clear z g4 i4 g5 g6 g7 g8 i5 i6 i7 i8 s1 s2 s3 s4 ne2 e4 f4 p0 p1 p2 p3 q0 q1 q2 q3
              cases r
              · have hpq : p ≠ q := fun e => by
                  have h5 := HR.out
                  rw [e, (sameR_iff q q).2 rfl] at h5
                  cases h5
                obtain rfl := HBAD.out fun e => hpq (by
                  have h5 := HP.out
                  rw [e, HQ.out] at h5
                  simpa using h5.symm)
                go_wp2_with fail
                go_ret
                exact ⟨rfl, B8.out⟩
              · go_wp2_with fail
                go_roundw
                case rel =>
                  refine ⟨j + 1, by omega, by go_num, ?_, B8.out⟩
                  rw [List.take_add_one, List.take_add_one, HP.out, HQ.out, HK2.out, (sameR_iff p q).1 HR.out]
                case measure => simp [intOf]; omega
            · obtain rfl : j = m := by omega
              have HEq := Lib.hid (show u.x = t.x from HV.out (by
                have h5 := HK2.out
                rwa [List.take_of_length_le (by rw [HMu.out]; omega), List.take_of_length_le (by rw [HMt.out]; omega)] at h5))
              go_wp2_with fail
              go_roundw
              case rel =>
                refine ⟨k + 1, by omega, by go_num, ?_, HB2.out⟩
                rw [take_snoc HU.out, take_snoc HT.out, List.map_append, List.map_append, HK.out, List.map_cons, List.map_cons, HEq.out]
              case measure => simp [intOf]; omega
      · go_wp2_with fail
        go_ret
        refine ⟨?_, HBE.out⟩
        have e : xs.take k = xs := List.take_of_length_le (by rw [HN.out]; omega)
        have e' : ys.take k = ys := List.take_of_length_le (by rw [HN'.out]; omega)
        have h := HK.out
        rw [e, e'] at h
        rw [HB.out.2 h]
        rfl
  · have e : b = false := by
      cases b
      · rfl
      · have h2 := congrArg List.length (HB.out.1 rfl)
        rw [List.length_map, List.length_map, HN.out, HN'.out] at h2
        exact absurd h2 hnn
    subst e
    have hnn2 : ¬ (n : Int) = n' := by omega
    go_enter Tryz.func22, Tryz.ntmps22
    go_wp2_with fail
    go_ret
    exact ⟨rfl, Below.refl _ _⟩
end Go.Proofs.YtfmmfaeognoleaaGreat
/-
  Whether two scenes are the same (glazierref14.Same).
-/
namespace Go.Proofs.YtfmmfaeognoleaaGreat
open Go.RowKit
attribute [local go_sem ↓] Go.wp_at_zero Go.wp_at_succ
attribute [local go_sem high] neqC0
attribute [local go_sem] guardC0

theorem nat_bne {a b : Nat} (h : a = b) : ((a : Int) != b) = false := by subst h; simp
theorem nat_bne2 {a b : Nat} (h : a ≠ b) : ((a : Int) != b) = true := by simp; omega
theorem lo_take {α : Type} {xs ys : List (Lo α)} {k : Nat} {u t : Lo α} (hu : xs[k]? = some u) (ht : ys[k]? = some t) (h : (xs.take k).map Lo.x = (ys.take k).map Lo.x) (e : u.x = t.x) : (xs.take (k + 1)).map Lo.x = (ys.take (k + 1)).map Lo.x := by
  rw [take_snoc hu, take_snoc ht, List.map_append, List.map_append, h, List.map_cons, List.map_cons, e]
theorem lo_ne {α : Type} {xs ys : List (Lo α)} {k : Nat} {u t : Lo α} (hu : xs[k]? = some u) (ht : ys[k]? = some t) (e : u.x ≠ t.x) : xs.map Lo.x ≠ ys.map Lo.x := fun h => by
  have h3 : (xs.map Lo.x)[k]? = (ys.map Lo.x)[k]? := by rw [h]
  rw [List.getElem?_map, List.getElem?_map, hu, ht] at h3
  exact e (by simpa using h3)
theorem exB {p : Prop} : ∃ b : Bool, b = true ↔ p := by
  by_cases h : p
  · exact ⟨true, by simp [h]⟩
  · exact ⟨false, by simp [h]⟩
set_option maxRecDepth 100000 in
set_option maxHeartbeats 8000000 in
theorem same_any (a b : Sc) (w : World) (ha : a.at w w.heap.size) (hb : b.at w w.heap.size) (fa : a.few) (r : Bool) (hr : r = true ↔ a.p = b.p) :
    Calls Tryz.prog 12 #[.agg #[.int .i64 a.w, .int .i64 a.h, .int .u8 a.k.r, .int .u8 a.k.g, .int .u8 a.k.b, .int .u8 a.k.a, .slice a.vA a.vs.length a.vc, .slice a.tA a.ts.length a.tc, .slice a.pA a.ps.length a.pc, .slice a.dA a.ds.length a.dc], .agg #[.int .i64 b.w, .int .i64 b.h, .int .u8 b.k.r, .int .u8 b.k.g, .int .u8 b.k.b, .int .u8 b.k.a, .slice b.vA b.vs.length b.vc, .slice b.tA b.ts.length b.tc, .slice b.pA b.ps.length b.pc, .slice b.dA b.ds.length b.dc]] w fun e w' => e = .returned (.bool r) ∧ Below w.heap.size w w' := by
  have hb0 := bstep (new_below w (.cells #[.int .i64 a.w, .int .i64 a.h, .int .u8 a.k.r, .int .u8 a.k.g, .int .u8 a.k.b, .int .u8 a.k.a, .slice a.vA a.vs.length a.vc, .slice a.tA a.ts.length a.tc, .slice a.pA a.ps.length a.pc, .slice a.dA a.ds.length a.dc] 29)) (by simp) (new_below (w.alloc (.cells #[.int .i64 a.w, .int .i64 a.h, .int .u8 a.k.r, .int .u8 a.k.g, .int .u8 a.k.b, .int .u8 a.k.a, .slice a.vA a.vs.length a.vc, .slice a.tA a.ts.length a.tc, .slice a.pA a.ps.length a.pc, .slice a.dA a.ds.length a.dc] 29)) (.cells #[.int .i64 b.w, .int .i64 b.h, .int .u8 b.k.r, .int .u8 b.k.g, .int .u8 b.k.b, .int .u8 b.k.a, .slice b.vA b.vs.length b.vc, .slice b.tA b.ts.length b.tc, .slice b.pA b.ps.length b.pc, .slice b.dA b.ds.length b.dc] 29))
  have HA0 := Lib.hid (show ((w.alloc (.cells #[.int .i64 a.w, .int .i64 a.h, .int .u8 a.k.r, .int .u8 a.k.g, .int .u8 a.k.b, .int .u8 a.k.a, .slice a.vA a.vs.length a.vc, .slice a.tA a.ts.length a.tc, .slice a.pA a.ps.length a.pc, .slice a.dA a.ds.length a.dc] 29)).alloc (.cells #[.int .i64 b.w, .int .i64 b.h, .int .u8 b.k.r, .int .u8 b.k.g, .int .u8 b.k.b, .int .u8 b.k.a, .slice b.vA b.vs.length b.vc, .slice b.tA b.ts.length b.tc, .slice b.pA b.ps.length b.pc, .slice b.dA b.ds.length b.dc] 29)).heap[w.heap.size]? = some (scB a) from (heap_alloc_old _ _ (by simp)).trans (heap_alloc_new _ _))
  have HC0 := Lib.hid (show ((w.alloc (.cells #[.int .i64 a.w, .int .i64 a.h, .int .u8 a.k.r, .int .u8 a.k.g, .int .u8 a.k.b, .int .u8 a.k.a, .slice a.vA a.vs.length a.vc, .slice a.tA a.ts.length a.tc, .slice a.pA a.ps.length a.pc, .slice a.dA a.ds.length a.dc] 29)).alloc (.cells #[.int .i64 b.w, .int .i64 b.h, .int .u8 b.k.r, .int .u8 b.k.g, .int .u8 b.k.b, .int .u8 b.k.a, .slice b.vA b.vs.length b.vc, .slice b.tA b.ts.length b.tc, .slice b.pA b.ps.length b.pc, .slice b.dA b.ds.length b.dc] 29)).heap[w.heap.size + 1]? = some (scB b) from by have h := heap_alloc_new (w.alloc (.cells #[.int .i64 a.w, .int .i64 a.h, .int .u8 a.k.r, .int .u8 a.k.g, .int .u8 a.k.b, .int .u8 a.k.a, .slice a.vA a.vs.length a.vc, .slice a.tA a.ts.length a.tc, .slice a.pA a.ps.length a.pc, .slice a.dA a.ds.length a.dc] 29)) (.cells #[.int .i64 b.w, .int .i64 b.h, .int .u8 b.k.r, .int .u8 b.k.g, .int .u8 b.k.b, .int .u8 b.k.a, .slice b.vA b.vs.length b.vc, .slice b.tA b.ts.length b.tc, .slice b.pA b.ps.length b.pc, .slice b.dA b.ds.length b.dc] 29); rwa [World.size_alloc] at h)
  have HB0 := Lib.hid hb0
  have HEA := Lib.hid ha
  have HEB := Lib.hid hb
  have HFA := Lib.hid fa
  have HBad := Lib.hid (show a.p ≠ b.p → r = false from fun h => by
    cases r
    · rfl
    · exact absurd (hr.1 rfl) h)
  have HGood := Lib.hid (show a.w = b.w → a.h = b.h → a.k = b.k → a.vs = b.vs → a.ds.map Lo.x = b.ds.map Lo.x → a.ts.map Lo.x = b.ts.map Lo.x → a.ps.map Lo.x = b.ps.map Lo.x → r = true from fun h1 h2 h3 h4 h5 h6 h7 => hr.2 (by
    show (⟨_, _, _, _, _, _, _⟩ : PS) = ⟨_, _, _, _, _, _, _⟩
    rw [h1, h2, h3, h4, h5, h6, h7]))
  obtain ⟨r1, hr1⟩ := exB (p := a.vs = b.vs)
  obtain ⟨r2, hr2⟩ := exB (p := a.ds.map Lo.x = b.ds.map Lo.x)
  have HR1 := Lib.hid hr1
  have HR2 := Lib.hid hr2
  clear ha hb fa hr hb0 hr1 hr2
  go_enter Tryz.func12, Tryz.ntmps12
  go_upto_region 1 with fail
  obtain ⟨t, ht⟩ : ∃ t, (w.alloc (.cells #[.int .i64 a.w, .int .i64 a.h, .int .u8 a.k.r, .int .u8 a.k.g, .int .u8 a.k.b, .int .u8 a.k.a, .slice a.vA a.vs.length a.vc, .slice a.tA a.ts.length a.tc, .slice a.pA a.ps.length a.pc, .slice a.dA a.ds.length a.dc] 29)).alloc (.cells #[.int .i64 b.w, .int .i64 b.h, .int .u8 b.k.r, .int .u8 b.k.g, .int .u8 b.k.b, .int .u8 b.k.a, .slice b.vA b.vs.length b.vc, .slice b.tA b.ts.length b.tc, .slice b.pA b.ps.length b.pc, .slice b.dA b.ds.length b.dc] 29) = t := ⟨_, rfl⟩
  rw [ht] at HA0 HC0 HB0
  rw [ht]
  clear ht
  have la := scB_lt HA0.out
  have lb := scB_lt HC0.out
  have H1 := Lib.hid (sameV_any a.vA b.vA a.vc b.vc a.vs b.vs t ((HEA.out.v.below HB0.out).sharp) ((HEB.out.v.below HB0.out).sharp) HFA.out.vs r1 HR1.out)
  obtain ⟨-, -, -, -, -, -, a6, -⟩ := scB_cell HA0.out
  obtain ⟨-, -, -, -, -, -, b6, -⟩ := scB_cell HC0.out
  go_wp2_with fail
  with_reducible refine (H1.out).mono ?_
  rintro e w1 ⟨rfl, hb1⟩
  have HA1 := Lib.hid (scB_keep HA0.out hb1 la)
  have HC1 := Lib.hid (scB_keep HC0.out hb1 lb)
  have HB1 := Lib.hid (bstep HB0.out HB0.out.size hb1)
  clear hb1 H1 a6 b6 HA0 HC0 HB0 la lb
  have la := scB_lt HA1.out
  have lb := scB_lt HC1.out
  have H2 := Lib.hid (draws_any a.dA b.dA a.dc b.dc a.ds b.ds w1 ((HEA.out.d.below HB1.out).sharp) ((HEB.out.d.below HB1.out).sharp) (fun l hl => ((HEA.out.dx l hl).below HB1.out).sharp) (fun l hl => ((HEB.out.dx l hl).below HB1.out).sharp) HFA.out.ds HFA.out.dx r2 HR2.out)
  obtain ⟨-, -, -, -, -, -, -, -, -, a9⟩ := scB_cell HA1.out
  obtain ⟨-, -, -, -, -, -, -, -, -, b9⟩ := scB_cell HC1.out
  go_wp2_with fail
  with_reducible refine (H2.out).mono ?_
  rintro e w2 ⟨rfl, hb2⟩
  have HA2 := Lib.hid (scB_keep HA1.out hb2 la)
  have HC2 := Lib.hid (scB_keep HC1.out hb2 lb)
  have HB2 := Lib.hid (bstep HB1.out HB1.out.size hb2)
  clear hb2 H2 a9 b9 HA1 HC1 HB1 la lb
  have la := scB_lt HA2.out
  have lb := scB_lt HC2.out
  obtain ⟨a0, a1, a2, a3, a4, a5, -, a7, a8, -⟩ := scB_cell HA2.out
  obtain ⟨b0, b1, b2, b3, b4, b5, -, b7, b8, -⟩ := scB_cell HC2.out
  obtain ⟨rk, hrk⟩ : ∃ x, sameC0 ⟨a.k.r, a.k.g, a.k.b, a.k.a⟩ ⟨b.k.r, b.k.g, b.k.b, b.k.a⟩ = x := ⟨_, rfl⟩
  have HRK := Lib.hid (show rk = true ↔ a.k = b.k from by rw [← hrk]; exact sameC_iff a.k b.k)
  by_cases e0 : a.w = b.w
  rotate_left
  · have d0 : (a.w != b.w) = true := by simpa using e0
    obtain rfl := HBad.out fun e => e0 (congrArg PS.w e)
    go_wp2_with fail
    go_ret
    exact ⟨rfl, HB2.out⟩
  have d0 : (a.w != b.w) = false := by simpa using e0
  by_cases e1 : a.h = b.h
  rotate_left
  · have d1 : (a.h != b.h) = true := by simpa using e1
    obtain rfl := HBad.out fun e => e1 (congrArg PS.h e)
    go_wp2_with fail
    go_ret
    exact ⟨rfl, HB2.out⟩
  have d1 : (a.h != b.h) = false := by simpa using e1
  cases rk
  · obtain rfl := HBad.out fun e => by have := HRK.out.2 (congrArg PS.k e); cases this
    go_wp2_with fail
    go_ret
    exact ⟨rfl, HB2.out⟩
  cases r1
  · obtain rfl := HBad.out fun e => by have := HR1.out.2 (congrArg PS.vs e); cases this
    go_wp2_with fail
    go_ret
    exact ⟨rfl, HB2.out⟩
  cases r2
  · obtain rfl := HBad.out fun e => by have := HR2.out.2 (congrArg PS.ds e); cases this
    go_wp2_with fail
    go_ret
    exact ⟨rfl, HB2.out⟩
  by_cases e5 : a.ts.length = b.ts.length
  rotate_left
  · have d5 := nat_bne2 e5
    obtain rfl := HBad.out fun e => e5 (by have := congrArg (fun p => p.ts.length) e; simpa [Sc.p] using this)
    go_wp2_with fail
    go_ret
    exact ⟨rfl, HB2.out⟩
  have d5 := nat_bne e5
  by_cases e6 : a.ps.length = b.ps.length
  rotate_left
  · have d6 := nat_bne2 e6
    obtain rfl := HBad.out fun e => e6 (by have := congrArg (fun p => p.ps.length) e; simpa [Sc.p] using this)
    go_wp2_with fail
    go_ret
    exact ⟨rfl, HB2.out⟩
  have d6 := nat_bne e6
  have HN5 := Lib.hid e5
  have HN6 := Lib.hid e6
  obtain ⟨n, hn⟩ : ∃ n, a.ts.length = n := ⟨_, rfl⟩
  obtain ⟨m, hm⟩ : ∃ m, a.ps.length = m := ⟨_, rfl⟩
  have hn' := e5.symm.trans hn
  have hm' := e6.symm.trans hm
  have hn3 : n ≤ 100000 := by rw [← hn]; exact HFA.out.ts
  have hm3 : m ≤ 100000 := by rw [← hm]; exact HFA.out.ps
  rw [hn, hn'] at d5
  rw [hm, hm'] at d6
  rw [hn] at a7
  rw [hn'] at b7
  rw [hm] at a8
  rw [hm'] at b8
  have HE0 := Lib.hid (And.intro e0 e1)
  clear e5 e6 e0 e1
  go_wp2_with fail
  clear d0 d1 d5 d6 a0 a1 a2 a3 a4 a5 a7 a8 b0 b1 b2 b3 b4 b5 b7 b8 hrk
  go_loopw [7] (fun i wr => ∃ k : Nat, k ≤ n ∧ i = .int .i64 k ∧ (a.ts.take k).map Lo.x = (b.ts.take k).map Lo.x ∧ Below w2.heap.size w2 wr) (fun i _ => n - (intOf i).toNat)
  case atStart => exact ⟨0, Nat.zero_le _, rfl, by simp, Below.refl _ _⟩
  case round =>
    obtain ⟨k, hk, rfl, hin, hbel⟩ := hrel
    have HK := Lib.hid hin
    have HBE := Lib.hid hbel
    clear hin hbel
    have HBw := Lib.hid (bstep HB2.out HB2.out.size HBE.out)
    have hsa : w.heap.size < wr.heap.size := Nat.lt_of_lt_of_le la HBE.out.size
    have hsb : w.heap.size + 1 < wr.heap.size := Nat.lt_of_lt_of_le lb HBE.out.size
    obtain ⟨-, -, -, -, -, -, -, ca, -⟩ := scB_cell (scB_keep HA2.out HBE.out la)
    obtain ⟨-, -, -, -, -, -, -, cb, -⟩ := scB_cell (scB_keep HC2.out HBE.out lb)
    rw [hn] at ca
    rw [hn'] at cb
    by_cases hlt : k < n
    · obtain ⟨u, hu⟩ := get_lt (l := a.ts) (k := k) (by rw [hn]; exact hlt)
      obtain ⟨t', ht'⟩ := get_lt (l := b.ts) (k := k) (by rw [hn']; exact hlt)
      obtain ⟨b1, off, hA1, hbB, hat⟩ := HEA.out.t.at hu
      obtain ⟨b2, off', hA2, hbB', hat'⟩ := HEB.out.t.at ht'
      have HU := Lib.hid hu
      have HT := Lib.hid ht'
      have HEu := Lib.hid ((HEA.out.tx u (List.mem_of_getElem? hu)).below HBw.out)
      have HEt := Lib.hid ((HEB.out.tx t' (List.mem_of_getElem? ht')).below HBw.out)
      have hul := HFA.out.tx u (List.mem_of_getElem? hu)
      rw [hA1] at ca
      rw [hA2] at cb
      replace hA1 := Lib.hid hA1
      replace hA2 := Lib.hid hA2
      obtain ⟨p0, p1, p2⟩ := atT (show AtE ET wr b1 (off + k * 3) u from hat.below HBw.out hbB)
      obtain ⟨q0, q1, q2⟩ := atT (show AtE ET wr b2 (off' + k * 3) t' from hat'.below HBw.out hbB')
      have hbw := Nat.lt_of_lt_of_le hbB HBw.out.size
      have hbw' := Nat.lt_of_lt_of_le hbB' HBw.out.size
      have y1 : ∀ x : Grow wr, x.w.cell? ⟨w.heap.size, 7, none⟩ = some (.slice (some ⟨b1, off, none⟩) n a.tc) := fun x => x.cell ca
      have y2 : ∀ x : Grow wr, x.w.cell? ⟨w.heap.size + 1, 7, none⟩ = some (.slice (some ⟨b2, off', none⟩) n b.tc) := fun x => x.cell cb
      have y3 : ∀ x : Grow wr, x.w.cell? ⟨b1, off + k * 3 + 2, none⟩ = some (.slice u.A u.x.px.length u.c) := fun x => x.cell p2
      have y4 : ∀ x : Grow wr, x.w.cell? ⟨b2, off' + k * 3 + 2, none⟩ = some (.slice t'.A t'.x.px.length t'.c) := fun x => x.cell q2
      have s1 : ∀ x : Grow wr, w.heap.size < x.w.heap.size := fun x => Nat.lt_of_lt_of_le hsa x.below.size
      have s2 : ∀ x : Grow wr, w.heap.size + 1 < x.w.heap.size := fun x => Nat.lt_of_lt_of_le hsb x.below.size
      have s3 : ∀ x : Grow wr, b1 < x.w.heap.size := fun x => Nat.lt_of_lt_of_le hbw x.below.size
      have s4 : ∀ x : Grow wr, b2 < x.w.heap.size := fun x => Nat.lt_of_lt_of_le hbw' x.below.size
      have ne1 := Grow.ne wr
      obtain ⟨r3, hr3⟩ := exB (p := u.x.px = t'.x.px)
      have H3 := Lib.hid (fun x : Grow wr => sameC_any u.A t'.A u.c t'.c u.x.px t'.x.px x.w ((HEu.out.more HBw.out.size).sharp.below (x.below.mono (Nat.le_refl _)) |>.sharp) ((HEt.out.more HBw.out.size).sharp.below x.below |>.sharp) hul r3 hr3)
      have HR3 := Lib.hid hr3
      clear hu ht' hat hat' hr3 hul
      go_wp2_with fail
      refine wp_region_grow (by kernel_rfl) (by kernel_rfl) ?_
      try simp only [List.append_eq, List.cons_append, List.nil_append]
      repeat (first | go_big_quiet_skip | go_big_quiet_step ((go_at_call 23; with_reducible exact Grow.calls (H3.out _))))
      refine wpQuiet_nil ?_
      rintro _ ⟨z, rfl⟩
      have HBY := Lib.hid (bstep HBE.out HBE.out.size z.below)
      have KY := Lib.hid z.below
      generalize z.w = Y at *
      clear z y1 y2 y3 y4 s1 s2 s3 s4 ne1 H3
      have y1 : ∀ x : Grow Y, x.w.cell? ⟨w.heap.size, 7, none⟩ = some (.slice (some ⟨b1, off, none⟩) n a.tc) := fun x => x.cell ((KY.out.cell (p := ⟨w.heap.size, 7, none⟩) hsa).trans ca)
      have y2 : ∀ x : Grow Y, x.w.cell? ⟨w.heap.size + 1, 7, none⟩ = some (.slice (some ⟨b2, off', none⟩) n b.tc) := fun x => x.cell ((KY.out.cell (p := ⟨w.heap.size + 1, 7, none⟩) hsb).trans cb)
      have y3 : ∀ x : Grow Y, x.w.cell? ⟨b1, off + k * 3, none⟩ = some (.int .i64 u.x.w) := fun x => x.cell ((KY.out.cell (p := ⟨b1, off + k * 3, none⟩) hbw).trans p0)
      have y4 : ∀ x : Grow Y, x.w.cell? ⟨b1, off + k * 3 + 1, none⟩ = some (.int .i64 u.x.h) := fun x => x.cell ((KY.out.cell (p := ⟨b1, off + k * 3 + 1, none⟩) hbw).trans p1)
      have y5 : ∀ x : Grow Y, x.w.cell? ⟨b2, off' + k * 3, none⟩ = some (.int .i64 t'.x.w) := fun x => x.cell ((KY.out.cell (p := ⟨b2, off' + k * 3, none⟩) hbw').trans q0)
      have y6 : ∀ x : Grow Y, x.w.cell? ⟨b2, off' + k * 3 + 1, none⟩ = some (.int .i64 t'.x.h) := fun x => x.cell ((KY.out.cell (p := ⟨b2, off' + k * 3 + 1, none⟩) hbw').trans q1)
      have s1 : ∀ x : Grow Y, w.heap.size < x.w.heap.size := fun x => Nat.lt_of_lt_of_le (Nat.lt_of_lt_of_le hsa KY.out.size) x.below.size
      have s2 : ∀ x : Grow Y, w.heap.size + 1 < x.w.heap.size := fun x => Nat.lt_of_lt_of_le (Nat.lt_of_lt_of_le hsb KY.out.size) x.below.size
      have s3 : ∀ x : Grow Y, b1 < x.w.heap.size := fun x => Nat.lt_of_lt_of_le (Nat.lt_of_lt_of_le hbw KY.out.size) x.below.size
      have s4 : ∀ x : Grow Y, b2 < x.w.heap.size := fun x => Nat.lt_of_lt_of_le (Nat.lt_of_lt_of_le hbw' KY.out.size) x.below.size
      have ne1 := Grow.ne Y
      have HBT := Lib.hid (show u.x ≠ t'.x → r = false from fun h => HBad.out fun e => lo_ne HU.out HT.out h (congrArg PS.ts e))
      clear p0 p1 p2 q0 q1 q2 ca cb
      cases r3
      · obtain rfl := HBT.out fun e => by have := HR3.out.2 (congrArg Tx.px e); cases this
        go_wp2_with fail
        refine wp_region_grow (by kernel_rfl) (by kernel_rfl) ?_
        try simp only [List.append_eq, List.cons_append, List.nil_append]
        repeat (first | go_big_quiet_skip | go_big_quiet_step (fail))
        refine wpQuiet_nil ?_
        rintro _ ⟨z, rfl⟩
        have B8 := Lib.hid (bstep HB2.out HB2.out.size (bstep HBY.out HBY.out.size z.below))
        generalize z.w = Z at *
        clear z
        go_wp2_with fail
        go_ret
        exact ⟨rfl, B8.out⟩
      by_cases w0 : u.x.w = t'.x.w
      rotate_left
      · have v0 : (u.x.w != t'.x.w) = true := by simpa using w0
        obtain rfl := HBT.out fun e => w0 (congrArg Tx.w e)
        go_wp2_with fail
        refine wp_region_grow (by kernel_rfl) (by kernel_rfl) ?_
        try simp only [List.append_eq, List.cons_append, List.nil_append]
        repeat (first | go_big_quiet_skip | go_big_quiet_step (fail))
        refine wpQuiet_nil ?_
        rintro _ ⟨z, rfl⟩
        have B8 := Lib.hid (bstep HB2.out HB2.out.size (bstep HBY.out HBY.out.size z.below))
        generalize z.w = Z at *
        clear z
        go_wp2_with fail
        go_ret
        exact ⟨rfl, B8.out⟩
      have v0 : (u.x.w != t'.x.w) = false := by simpa using w0
      by_cases w1' : u.x.h = t'.x.h
      rotate_left
      · have v1 : (u.x.h != t'.x.h) = true := by simpa using w1'
        obtain rfl := HBT.out fun e => w1' (congrArg Tx.h e)
        go_wp2_with fail
        refine wp_region_grow (by kernel_rfl) (by kernel_rfl) ?_
        try simp only [List.append_eq, List.cons_append, List.nil_append]
        repeat (first | go_big_quiet_skip | go_big_quiet_step (fail))
        refine wpQuiet_nil ?_
        rintro _ ⟨z, rfl⟩
        have B8 := Lib.hid (bstep HB2.out HB2.out.size (bstep HBY.out HBY.out.size z.below))
        generalize z.w = Z at *
        clear z
        go_wp2_with fail
        go_ret
        exact ⟨rfl, B8.out⟩
      have v1 : (u.x.h != t'.x.h) = false := by simpa using w1'
      have HXe := Lib.hid (show u.x = t'.x from by
        have h5 := HR3.out.1 rfl
        obtain ⟨⟨x1, x2, x3⟩, _, _⟩ := u
        obtain ⟨⟨z1, z2, z3⟩, _, _⟩ := t'
        simp only at w0 w1' h5 ⊢
        rw [w0, w1', h5])
      clear w0 w1'
      go_wp2_with fail
      refine wp_region_grow (by kernel_rfl) (by kernel_rfl) ?_
      try simp only [List.append_eq, List.cons_append, List.nil_append]
      repeat (first | go_big_quiet_skip | go_big_quiet_step (fail))
      refine wpQuiet_nil ?_
      rintro _ ⟨z, rfl⟩
      have B8 := Lib.hid (bstep HBY.out HBY.out.size z.below)
      generalize z.w = Z at *
      clear z
      go_wp2_with fail
      go_roundw
      case rel => exact ⟨k + 1, by omega, by go_num, lo_take HU.out HT.out HK.out HXe.out, B8.out⟩
      case measure => simp [intOf]; omega
    · obtain rfl : k = n := by omega
      have HTs := Lib.hid (show a.ts.map Lo.x = b.ts.map Lo.x from by
        have h5 := HK.out
        rwa [List.take_of_length_le (by omega), List.take_of_length_le (by omega)] at h5)
      go_wp2_with fail
      go_loopw [9] (fun i wr => ∃ k : Nat, k ≤ m ∧ i = .int .i64 k ∧ (a.ps.take k).map Lo.x = (b.ps.take k).map Lo.x ∧ Below w2.heap.size w2 wr) (fun i _ => m - (intOf i).toNat)
      case atStart => exact ⟨0, Nat.zero_le _, rfl, by simp, HBE.out⟩
      case round =>
        rename World => wq
        obtain ⟨j, hj, rfl, hin, hbel⟩ := hrel
        have HKq := Lib.hid hin
        have HBq := Lib.hid hbel
        clear hin hbel
        have HBv := Lib.hid (bstep HB2.out HB2.out.size HBq.out)
        have hsa : w.heap.size < wq.heap.size := Nat.lt_of_lt_of_le la HBq.out.size
        have hsb : w.heap.size + 1 < wq.heap.size := Nat.lt_of_lt_of_le lb HBq.out.size
        obtain ⟨-, -, -, -, -, -, -, -, ca, -⟩ := scB_cell (scB_keep HA2.out HBq.out la)
        obtain ⟨-, -, -, -, -, -, -, -, cb, -⟩ := scB_cell (scB_keep HC2.out HBq.out lb)
        rw [hm] at ca
        rw [hm'] at cb
        by_cases hjm : j < m
        · obtain ⟨u, hu⟩ := get_lt (l := a.ps) (k := j) (by rw [hm]; exact hjm)
          obtain ⟨t', ht'⟩ := get_lt (l := b.ps) (k := j) (by rw [hm']; exact hjm)
          obtain ⟨b1, off, hA1, hbB, hat⟩ := HEA.out.p.at hu
          obtain ⟨b2, off', hA2, hbB', hat'⟩ := HEB.out.p.at ht'
          have HU := Lib.hid hu
          have HT := Lib.hid ht'
          have HEu := Lib.hid ((HEA.out.px u (List.mem_of_getElem? hu)).below HBv.out)
          have HEt := Lib.hid ((HEB.out.px t' (List.mem_of_getElem? ht')).below HBv.out)
          have hul := HFA.out.px u (List.mem_of_getElem? hu)
          rw [hA1] at ca
          rw [hA2] at cb
          replace hA1 := Lib.hid hA1
          replace hA2 := Lib.hid hA2
          have p2 := atP (show AtE EP wq b1 (off + j * 1) u from hat.below HBv.out hbB)
          have q2 := atP (show AtE EP wq b2 (off' + j * 1) t' from hat'.below HBv.out hbB')
          rw [Nat.mul_one] at p2 q2
          have hbw := Nat.lt_of_lt_of_le hbB HBv.out.size
          have hbw' := Nat.lt_of_lt_of_le hbB' HBv.out.size
          have y1 : ∀ x : Grow wq, x.w.cell? ⟨w.heap.size, 8, none⟩ = some (.slice (some ⟨b1, off, none⟩) m a.pc) := fun x => x.cell ca
          have y2 : ∀ x : Grow wq, x.w.cell? ⟨w.heap.size + 1, 8, none⟩ = some (.slice (some ⟨b2, off', none⟩) m b.pc) := fun x => x.cell cb
          have y3 : ∀ x : Grow wq, x.w.cell? ⟨b1, off + j, none⟩ = some (.slice u.A u.x.length u.c) := fun x => x.cell p2
          have y4 : ∀ x : Grow wq, x.w.cell? ⟨b2, off' + j, none⟩ = some (.slice t'.A t'.x.length t'.c) := fun x => x.cell q2
          have s1 : ∀ x : Grow wq, w.heap.size < x.w.heap.size := fun x => Nat.lt_of_lt_of_le hsa x.below.size
          have s2 : ∀ x : Grow wq, w.heap.size + 1 < x.w.heap.size := fun x => Nat.lt_of_lt_of_le hsb x.below.size
          have s3 : ∀ x : Grow wq, b1 < x.w.heap.size := fun x => Nat.lt_of_lt_of_le hbw x.below.size
          have s4 : ∀ x : Grow wq, b2 < x.w.heap.size := fun x => Nat.lt_of_lt_of_le hbw' x.below.size
          have ne1 := Grow.ne wq
          obtain ⟨r3, hr3⟩ := exB (p := u.x = t'.x)
          have H3 := Lib.hid (fun x : Grow wq => sameI_any u.A t'.A u.c t'.c u.x t'.x x.w ((HEu.out.more HBv.out.size).sharp.below x.below |>.sharp) ((HEt.out.more HBv.out.size).sharp.below x.below |>.sharp) hul r3 hr3)
          have HR3 := Lib.hid hr3
          clear hu ht' hat hat' hr3 hul
          go_wp2_with fail
          refine wp_region_grow (by kernel_rfl) (by kernel_rfl) ?_
          try simp only [List.append_eq, List.cons_append, List.nil_append]
          repeat (first | go_big_quiet_skip | go_big_quiet_step ((go_at_call 24; with_reducible exact Grow.calls (H3.out _))))
          refine wpQuiet_nil ?_
          rintro _ ⟨z, rfl⟩
          have HBY := Lib.hid (bstep HBq.out HBq.out.size z.below)
          generalize z.w = Y at *
          clear z y1 y2 y3 y4 s1 s2 s3 s4 ne1 H3 p2 q2 ca cb
          cases r3
          · obtain rfl := HBad.out fun e => lo_ne HU.out HT.out (fun h => by have := HR3.out.2 h; cases this) (congrArg PS.ps e)
            go_wp2_with fail
            go_ret
            exact ⟨rfl, bstep HB2.out HB2.out.size HBY.out⟩
          · go_wp2_with fail
            go_roundw
            case rel => exact ⟨j + 1, by omega, by go_num, lo_take HU.out HT.out HKq.out (HR3.out.1 rfl), HBY.out⟩
            case measure => simp [intOf]; omega
        · obtain rfl : j = m := by omega
          have HPs := Lib.hid (show a.ps.map Lo.x = b.ps.map Lo.x from by
            have h5 := HKq.out
            rwa [List.take_of_length_le (by omega), List.take_of_length_le (by omega)] at h5)
          obtain rfl := HGood.out HE0.out.1 HE0.out.2 (HRK.out.1 (by simp)) (HR1.out.1 (by simp)) (HR2.out.1 (by simp)) HTs.out HPs.out
          go_wp2_with fail
          go_ret
          exact ⟨rfl, HBv.out⟩
end Go.Proofs.YtfmmfaeognoleaaGreat
/-
  The walk of glazierlaw03.WireSigns, at this seat's translation.
-/
namespace Go.Proofs.YtfmmfaeognoleaaGreat.P
open Go.RowKit

theorem put1_any (n : Int) (w : World) (h0 : -9223372036854775808 ≤ n) (h1 : n ≤ 9223372036854775807) :
    Calls Tryz.prog 26 #[.slice (some ⟨w.heap.size, 0, none⟩) 1 1] (w.alloc (.cells #[.int .i64 n] 3)) (Made 5 .u8 (w.heap.size + 1) (w.alloc (.cells #[.int .i64 n] 3)) (enc (fold n))) := by
  have h := put_any (some ⟨w.heap.size, 0, none⟩) 1 [n] (w.heap.size + 1) (w.alloc (.cells #[.int .i64 n] 3))
    (fun _ => ⟨w.heap.size, 0, rfl, by omega, fun j hj => by
      simp at hj
      subst hj
      simp [go_sem]⟩) (by simp) (by intro x hx; simp at hx; subst hx; exact ⟨h0, h1⟩) (by simp)
  rw [put_cons, put_nil, List.append_nil] at h
  simpa using h

theorem slice_from (A : Option Addr) (n c k m : Nat) (i : Int) (hk : n = k + m) (hn : n ≤ c) (hi : i = (k : Int)) :
    ∃ A', (∀ W, (Instr.slice 30 (.slice A n c) (some (.int .i64 i)) none none).run Tryz.prog W = .ok (.slice A' m (c - k)) W) ∧ (∀ q w B xs, xs.length = n → Sl q w B A xs → Sl q w B A' (xs.drop k)) := by
  subst hi
  refine ⟨if c = k then A else A.map fun x => x.add k, fun W => ?_, fun q w B xs hx h => h.cut (by omega)⟩
  have hkn : k ≤ n := by omega
  obtain rfl : m = n - k := by omega
  clear hk
  go_simp

theorem sl_keep {q : IntKind} {w w' : World} {A : Option Addr} {xs : List Int} (h : Sl q w w.heap.size A xs) (hb : Below w.heap.size w w') : Sl q w' w'.heap.size A xs := (h.below hb).more hb.size
theorem below_new {w w' : World} {o : Obj} (hb : Below (w.heap.size + 1) (w.alloc o) w') : Below w.heap.size w w' := ((Below.refl _ w).alloc (Nat.le_refl _) o).trans (hb.mono (Nat.le_succ _))

theorem fold_pos {m : Int} (h : 0 ≤ m) : fold m = 2 * m.toNat := by unfold fold; rw [if_neg (by omega)]
theorem fold_neg {m : Int} (h : 0 ≤ m) : fold (-m - 1) = 2 * m.toNat + 1 := by unfold fold; rw [if_pos (by omega)]; omega

end Go.Proofs.YtfmmfaeognoleaaGreat.P
/-
  The walk of glazierlaw03.WireOne, at this seat's translation.
-/
namespace Go.Proofs.YtfmmfaeognoleaaGreat.P
open Go.RowKit

theorem slice_to (A : Option Addr) (n c k : Nat) (i : Int) (hk : k ≤ c) (hi : i = (k : Int)) :
    ∀ W, (Instr.slice 30 (.slice A n c) none (some (.int .i64 i)) none).run Tryz.prog W = .ok (.slice A k c) W := by
  subst hi
  intro W
  go_simp

theorem take_of_app {L E D : List Int} {s : Nat} (h : L = E ++ D) (hs : s = E.length) : E = L.take s := by subst h hs; simp

theorem fold_half {n h : Int} (e : h = n.tdiv 2) : fold h ≤ fold n := by
  subst e
  unfold fold
  by_cases h : n < 0
  · obtain ⟨k, rfl⟩ : ∃ k, n = -k := ⟨-n, by omega⟩
    rw [Int.neg_tdiv, Int.tdiv_eq_ediv_of_nonneg (by omega), if_pos h]
    split <;> omega
  · rw [Int.tdiv_eq_ediv_of_nonneg (by omega), if_neg (by omega), if_neg (by omega)]
    omega

theorem half_in {n : Int} (n0 : -9223372036854775808 ≤ n) (n1 : n ≤ 9223372036854775807) : -9223372036854775808 ≤ n.tdiv 2 ∧ n.tdiv 2 ≤ 9223372036854775807 := by
  by_cases h : n < 0
  · obtain ⟨k, rfl⟩ : ∃ k, n = -k := ⟨-n, by omega⟩
    rw [Int.neg_tdiv, Int.tdiv_eq_ediv_of_nonneg (by omega)]
    omega
  · rw [Int.tdiv_eq_ediv_of_nonneg (by omega)]
    omega

end Go.Proofs.YtfmmfaeognoleaaGreat.P
/-
  The walk of glazierlaw03.WireBack, at this seat's translation.
-/
namespace Go.Proofs.YtfmmfaeognoleaaGreat.P
open Go.RowKit

def BackAt (w : World) (L : List Int) (rest i : Value) (wr : World) : Prop :=
  ∃ (k : Nat) (A : Option Addr) (c : Nat), k ≤ L.length ∧ i = .int .i64 k ∧ rest = .slice A (put (L.drop k)).length c ∧ (put (L.drop k)).length ≤ c ∧ Sl .u8 wr wr.heap.size A (put (L.drop k)) ∧ Below w.heap.size w wr

theorem slice_to22 (A : Option Addr) (n c k : Nat) (i : Int) (hk : k ≤ c) (hi : i = (k : Int)) :
    ∀ W, (Instr.slice 54 (.slice A n c) none (some (.int .i64 i)) none).run Tryz.prog W = .ok (.slice A k c) W := by
  subst hi
  intro W
  go_simp

end Go.Proofs.YtfmmfaeognoleaaGreat.P
/-
  A region that draws its order: its quiet rest, walked in the text's order, in a class of worlds that is narrower than what was held so far.
-/
namespace Go.Proofs.YtfmmfaeognoleaaGreat.P
open Go.RowKit

theorem held_narrow {P : Program} {ops : Array Oper} {md : Region.Mode} {C S : World → Prop} {Q : Exit → Act → World → Prop} (hCS : ∀ w, C w → S w) :
    ∀ (fuel : Nat) (listed : Array Bool) (a : Act) (w : World), wpAnyH P md ops Q C fuel listed a w → wpAnyH P md ops Q S fuel listed a w
  | 0, _, _, _, h => h
  | fuel + 1, _, _, _, h => ⟨h.1, fun i hi => wpOp_mono (fun a' w' h' => ⟨hCS _ h'.1, held_narrow hCS fuel _ a' w' h'.2⟩) (h.2 i hi)⟩
theorem held_rest {P : Program} {ops : Array Oper} {md : Region.Mode} {C : World → Prop} {Q : Act → Prop} {Q' : Exit → Act → World → Prop} (hQ : ∀ a w, C w → Q a → Q' .normal a w) :
    ∀ (fuel : Nat) (listed : Array Bool) (a : Act) (w : World), C w → wpAnyQ P md ops C Q fuel listed a → wpAnyH P md ops Q' C fuel listed a w
  | 0, _, _, _, hw, h => ⟨h.1, hQ _ _ hw h.2⟩
  | fuel + 1, _, _, _, hw, h => ⟨fun h0 => hQ _ _ hw (h.1 h0), fun i hi => wpOp_of_qOp hw (fun a' w' hw' h' => ⟨hw', held_rest hQ fuel _ a' w' hw' h'⟩) (h.2 i hi)⟩
theorem held_from {P : Program} {l : List Oper} {S : World → Prop} {Q' : Exit → Act → World → Prop} {a : Act} {w : World} {listed : Array Bool} {fuel : Nat} (k : Nat) (hs : Region.noSelect l.toArray = true)
    (hB : Region.lexFrom .any l.toArray fuel k listed = true) (hl : (l.drop k).length = fuel) (hS : ∀ w', (∃ n, w' = w.drewN n) → S w')
    (h : wpQuiet P l.toArray (fun w' => ∃ n, w' = w.drewN n) (fun a => ∀ w', (∃ n, w' = w.drewN n) → Q' .normal a w') (l.drop k) a) : wpAnyH P .any l.toArray Q' S fuel listed a w := by
  subst hl
  exact held_narrow hS _ _ _ _ (held_rest (Q := fun a => ∀ w', (∃ n, w' = w.drewN n) → Q' .normal a w') (fun a w hw h => h w hw) _ _ _ _ ⟨0, rfl⟩ (wpAnyQ_lex hs (l.drop k) k listed a (fun j => by simp) hB h))
end Go.Proofs.YtfmmfaeognoleaaGreat.P
/-
  The walk of glazierlaw03.WireJoins, at this seat's translation.
-/
namespace Go.Proofs.YtfmmfaeognoleaaGreat.P
open Go.RowKit

/-- append onto a row of the call's own, whatever the source: nil, empty or not. -/
theorem wpList_append_sl {P : Program} (w : World) {ops : Array Oper} {rest : List Oper} {o : Oper} {a : Act} {Q : Exit → Act → World → Prop} (hgd : o.guard = none) (s x : Operand) (t : TypeId)
    (ho : o.op = .call { callee := .builtin .append, args := #[s, x], argTypes := #[t, t] })
    (base : Nat) (e : TypeId) (i : TypeInfo) (z : Value) (bytes : Nat) (ht : P.underlying t = some (.slice e)) (hi : P.info? e = some i) (hz : i.zero = some z) (hsize : i.size = 1) (hby : i.bytes = bytes) (hzs : z.cells.size = 1)
    (k : IntKind) (v : Value) (xs : List Int) (hs : a.eval s = v) (hown : OwnS e k w base v xs)
    (A : Option Addr) (c B : Nat) (ys : List Int) (hx : a.eval x = .slice A ys.length c) (hsl : Sl k w B A ys) (hnil : A = none → c = 0)
    (h63 : xs.length + ys.length ≤ 20000000000) (hbytes : bytes ≤ 8) (hbase : base ≤ w.heap.size)
    (h : ∀ v' w', OwnS e k w' base v' (xs ++ ys) → Below base w w' → wpList P ops Q rest (a.put o.dst v') w') : wpList P ops Q (o :: rest) a w := by
  have hb2 : (xs.length + ys.length) * bytes ≤ 140737488355328 := Nat.le_trans (Nat.mul_le_mul h63 hbytes) (by decide)
  cases A with
  | some ad =>
    refine wpList_append_own w hgd s x t ho base e i z 1 bytes ht hi hz hsize hby hzs (by decide) v _ _ hs hown.row ad ys.length c (ys.map (Value.int k)) hx (by simp) ?_ (ints_oneCell _ _) (by unfold maxLen; omega) hb2 hbase ?_
    · intro j u hu
      by_cases hne : ys = []
      · subst hne; simp at hu
      · obtain ⟨b, off, hA, _, hc⟩ := hsl hne
        cases hA
        exact news_of hc j u hu
    · intro v' w' h2 h3 _
      exact h v' w' (by unfold OwnS; simpa using h2) ((Below.refl base w).grown h3 hbase fun j ej => own_ge hown.row j ej)
  | none =>
    have hy : ys = [] := by
      by_cases hne : ys = []
      · exact hne
      · obtain ⟨b, off, hA, _⟩ := hsl hne
        cases hA
    subst hy
    obtain rfl := hnil rfl
    refine wpList_plain hgd fun K hK' => ?_
    have hrun := run_append_owned_none (P := P) w base t o.type e i 1 ht hi v xs.length _ hown.row
    unfold Oper.wp
    simp [execOp, ho, resolve, invoke, builtin, hs, hx, hrun, Result.andThen]
    exact hK' _ _ (h v w (by simpa using hown) (Below.refl _ _))

theorem OwnS.sl2 {t : TypeId} {k : IntKind} {w : World} {base : Nat} {v : Value} {xs : List Int} (h : OwnS t k w base v xs) :
    ∃ A c, v = .slice A xs.length c ∧ xs.length ≤ c ∧ c ≤ 9223372036854775807 ∧ Sl k w w.heap.size A xs ∧ (A = none → c = 0) := by
  obtain ⟨A, c, hv, h1, h2, h3⟩ := h.sl
  refine ⟨A, c, hv, h1, h2, h3, fun hA => ?_⟩
  subst hA
  rcases h.2 with ⟨rfl, _⟩ | ⟨g, cap, cur, rfl, _⟩
  · injection hv with _ _ e; exact e.symm
  · injection hv with e; cases e

end Go.Proofs.YtfmmfaeognoleaaGreat.P
/-
  What glazierlaw15.CodecTells wants: how long small scenes are said, a byte turned, a row with one byte written over.
-/
namespace Go.Proofs.YtfmmfaeognoleaaGreat
open Go.RowKit

theorem smP_len (p : PS) : (nS (smP p)).length ≤ 10000 := by
  have v := many_le (g := nV) (K := 8) (l := p.vs.take 66) fun x _ => Nat.le_refl 8
  have t := many_le (g := nT) (K := 1043) (l := (p.ts.take 5).map smT) fun x hx => by
    obtain ⟨t, _, rfl⟩ := List.mem_map.1 hx
    have h2 := many_le (g := nC) (K := 4) (l := (smT t).px) fun c _ => Nat.le_refl 4
    have h4 : (nT (smT t)).length = (nAll nC (smT t).px).length + 2 := rfl
    have h5 : (smT t).px.length ≤ 260 := take_le _ _
    have h6 := mul_le_of (d := 4) (c := 1040) h5 rfl
    omega
  have c := many_le (g := nP) (K := 171) (l := (p.ps.take 5).map smI) fun x hx => by
    obtain ⟨t, _, rfl⟩ := List.mem_map.1 hx
    have h3 := many_le (g := nI) (K := 5) (l := smI t) fun c _ => Nat.le_refl 5
    have h4 : (nP (smI t)).length = (nAll nI (smI t)).length := rfl
    have h5 : (smI t).length ≤ 34 := take_le _ _
    have h6 := mul_le_of (d := 5) (c := 170) h5 rfl
    omega
  have d := many_le (g := nD) (K := 141) (l := (p.ds.take 9).map smD) fun x hx => by
    obtain ⟨t, _, rfl⟩ := List.mem_map.1 hx
    have h3 := many_le (g := nR) (K := 4) (l := (smD t).tris) fun c _ => Nat.le_refl 4
    have h4 : (nD (smD t)).length = (nAll nR (smD t).tris).length + 4 := rfl
    have h5 : (smD t).tris.length ≤ 34 := take_le _ _
    have h6 := mul_le_of (d := 4) (c := 136) h5 rfl
    omega
  have e1 := mul_le_of (a := (p.vs.take 66).length) (d := 8) (c := 528) (take_le _ _) rfl
  have l2 : ((p.ts.take 5).map smT).length ≤ 5 := by rw [List.length_map]; exact take_le _ _
  have l3 : ((p.ps.take 5).map smI).length ≤ 5 := by rw [List.length_map]; exact take_le _ _
  have l4 : ((p.ds.take 9).map smD).length ≤ 9 := by rw [List.length_map]; exact take_le _ _
  have e2 := mul_le_of (d := 1043) (c := 5215) l2 rfl
  have e3 := mul_le_of (d := 171) (c := 855) l3 rfl
  have e4 := mul_le_of (d := 141) (c := 1269) l4 rfl
  unfold nS smP
  simp only [List.length_cons, List.length_append, nC, List.length_nil]
  omega
theorem turn_byte {b : Int} (t : Int) (hb : 0 ≤ b ∧ b ≤ 255) : ∃ m : Int, bits .xor .u8 b (1 + t % 255) = m ∧ 0 ≤ m ∧ m ≤ 255 ∧ m ≠ b := by
  have h2 := Int.emod_nonneg t (show (255 : Int) ≠ 0 by omega)
  have h3 := Int.emod_lt_of_pos t (show (0 : Int) < 255 by omega)
  refine ⟨_, rfl, ?_⟩
  rw [u8_xor b (1 + t % 255) hb.1 (by omega) (by omega) (by omega)]
  have hx : b.toNat ^^^ (1 + t % 255).toNat < 2 ^ 8 := Nat.xor_lt_two_pow (by omega) (by omega)
  refine ⟨by omega, by omega, fun h => ?_⟩
  have h4 : b.toNat ^^^ (1 + t % 255).toNat = b.toNat := by omega
  have h5 := congrArg (b.toNat ^^^ ·) h4
  simp only [← Nat.xor_assoc, Nat.xor_self, Nat.zero_xor] at h5
  omega
theorem takeP_few {xs : List Int} {q : PS} {e : Int} (hb : P.Byt xs) (h : takeP xs = (q, e)) : q.few := by
  have h1 := takeP_err xs
  rw [h] at h1
  rcases h1 with h1 | ⟨h1, -, -⟩
  · obtain rfl : e = 0 := h1
    obtain ⟨hl, hr, -⟩ := takeP_zero h
    exact few_len (by have := read_len hb hl hr; omega)
  · obtain rfl : q = zS := h1
    exact few_p (flat_few 0 0)
theorem takeP_other {xs bs : List Int} {p q : PS} (hb : P.Byt xs) (hp : P.put (nS p) = bs) (hne : xs ≠ bs) (h : takeP xs = (q, 0)) : q ≠ p := fun e => by
  obtain ⟨-, hr, -⟩ := takeP_zero h
  obtain ⟨-, h2, -⟩ := read_some hb hr
  rw [e, hp] at h2
  exact hne h2.symm
theorem set_ne {xs : List Int} {k : Nat} {m : Int} (hk : k < xs.length) (h : m ≠ xs.getD k 0) : xs.set k m ≠ xs := fun e => by
  have h1 := congrArg (fun l : List Int => l.getD k 0) e
  simp only [List.getD_eq_getElem?_getD, List.getElem?_set_self hk, Option.getD_some] at h1
  exact h (by rw [List.getD_eq_getElem?_getD]; exact h1)
theorem P.byt_at {xs : List Int} (h : P.Byt xs) {k : Nat} (hk : k < xs.length) : 0 ≤ xs.getD k 0 ∧ xs.getD k 0 ≤ 255 := by
  rw [List.getD_eq_getElem?_getD, List.getElem?_eq_getElem hk]
  exact h _ (List.getElem_mem hk)
theorem P.byt_set {xs : List Int} (h : P.Byt xs) (k : Nat) {m : Int} (hm : 0 ≤ m ∧ m ≤ 255) : P.Byt (xs.set k m) := fun x hx => by
  rcases List.mem_or_eq_of_mem_set hx with hx | rfl
  · exact h x hx
  · exact hm
/-- A row of the call's own with one byte written over. -/
theorem P.own_set {w : World} {base : Nat} {v : Value} {xs : List Int} (h : P.OwnS 5 .u8 w base v xs) {k : Nat} (hk : k < xs.length) :
    ∃ g c, v = .slice (some ⟨g, 0, none⟩) xs.length c ∧ base ≤ g ∧ g < w.heap.size ∧ xs.length ≤ c ∧ w.cell? ⟨g, k, none⟩ = some (.int .u8 (xs.getD k 0)) ∧ w.frozen? ⟨g, k, none⟩ = false ∧
      ∀ m, P.OwnS 5 .u8 (w.setCell ⟨g, k, none⟩ (.int .u8 m)) base v (xs.set k m) := by
  have hsl := h.sl
  obtain ⟨hl, ⟨rfl, h0⟩ | ⟨g, cap, cur, rfl, hg, hh, hc, hm, hs, ht⟩⟩ := h
  · omega
  · have hsl : P.Sl .u8 w w.heap.size (some ⟨g, 0, none⟩) xs := by
      obtain ⟨A, c, e, -, -, hsl⟩ := hsl
      cases e
      exact hsl
    obtain ⟨b, off, e, hb, hcell⟩ := hsl.at hk
    cases e
    rw [Nat.zero_add] at hcell
    refine ⟨g, cap, rfl, hg, hb, hc, hcell, by simp [World.frozen?, hh], fun m => ⟨by simp, .inr ⟨g, cap, cur.setIfInBounds k (.int .u8 m), by rw [List.length_set], hg, heap_setCell_same _ _ _ _ _ _ hh, by simpa using hc, hm, by simpa using hs, ?_⟩⟩⟩
    rw [List.length_set, List.map_set, ← ht]
    simp [List.take_set]
/-- Block g holds x, whose rows lie in w. -/
structure HasS (g : Nat) (x : Sc) (w : World) : Prop where
  g : w.heap[g]? = some (scB x)
  a : x.at w w.heap.size
theorem HasS.below {g : Nat} {x : Sc} {w w' : World} (h : HasS g x w) (hb : Below w.heap.size w w') : HasS g x w' := ⟨scB_keep h.g hb (scB_lt h.g), (h.a.below hb).more hb.size⟩
theorem has_new {x : Sc} {w : World} (h : x.at w w.heap.size) : HasS w.heap.size x (w.alloc (.cells #[.int .i64 x.w, .int .i64 x.h, .int .u8 x.k.r, .int .u8 x.k.g, .int .u8 x.k.b, .int .u8 x.k.a, .slice x.vA x.vs.length x.vc, .slice x.tA x.ts.length x.tc, .slice x.pA x.ps.length x.pc, .slice x.dA x.ds.length x.dc] 29)) :=
  ⟨heap_alloc_new _ _, (h.below (new_below w _)).more (new_below w _).size⟩
theorem P.Sl.go {k : IntKind} {w w' : World} {A : Option Addr} {xs : List Int} (h : P.Sl k w w.heap.size A xs) (hb : Below w.heap.size w w') : P.Sl k w' w'.heap.size A xs := (h.below hb).more hb.size
end Go.Proofs.YtfmmfaeognoleaaGreat
/-
  The reference's numbers of a colour, a vertex, a draw; a row under way beside a block.
-/
namespace Go.Proofs.YtfmmfaeognoleaaGreat
open Go.RowKit
attribute [local go_sem ↓] Go.wp_at_zero Go.wp_at_succ

/-- The row v of numbers is the call's own, behind a block that holds O. -/
structure RB (w : World) (O : Obj) (acc : List Int) (v : Value) (W : World) : Prop where
  b : Below w.heap.size w W
  g : W.heap[w.heap.size]? = some O
  o : OwnE EN W (w.heap.size + 1) v acc
section
variable {w t w1 W W' : World} {O : Obj} {acc acc' ys : List Int} {v v' : Value} {A : Option Addr} {B c m : Nat}
theorem RB.lt (h : RB w O acc v W) : w.heap.size < W.heap.size := (Array.getElem?_eq_some_iff.1 h.g).1
theorem RB.keep (h : RB w O acc v W) (hb : Below W.heap.size W W') : RB w O acc v W' := ⟨bstep h.b h.b.size hb, (hb.block _ h.lt).trans h.g, h.o.keep hb⟩
theorem RB.alloc (h : RB w O acc v W) (o : Obj) : RB w O acc v (W.alloc o) := h.keep (new_below W o)
theorem RB.app (h : RB w O acc v t) (e : acc ++ ys = acc') (h1 : w1.ownsRow (w.heap.size + 1) EN.t EN.size v' (acc.length + ys.length) (EN.flat acc ++ EN.flat ys)) (h2 : t.grownBy w1 v.ownBlock) : RB w O acc' v' w1 := by
  subst e
  obtain ⟨ho, hb⟩ := ownE_app h.o h1 h2 h.lt
  exact ⟨h.b.trans (hb.mono (Nat.le_succ _)), (hb.block _ (Nat.lt_succ_self _)).trans h.g, ho⟩
theorem wpl_rb {ops : Array Oper} {rest : List Oper} {o : Oper} {k : Act} {Q : Exit → Act → World → Prop} (hgd : o.guard = none) (RN : Row EN 54) (h : RB w O acc v t) (s x : Operand) (c m n : Nat) (hm : ys.length = m)
    (ho : o.op = .call { callee := .builtin .append, args := #[s, x], argTypes := #[54, 54] }) (hs : k.eval s = v) (hx : k.eval x = .slice A m c)
    (he : Es EN t B A ys) (e : acc ++ ys = acc') (hn : acc'.length = n) (hl : n ≤ 100000000)
    (hK : ∀ A' c' w', RB w O acc' (.slice A' n c') w' → wpList Tryz.prog ops Q rest (k.put o.dst (.slice A' n c')) w') : wpList Tryz.prog ops Q (o :: rest) k t := by
  have hz := congrArg List.length e
  rw [List.length_append] at hz
  refine wpList_append_ln hgd RN s x c m hm ho hs hx h.o he (by omega) (by omega) h.lt fun v' w' h1 h2 _ => ?_
  have hR := h.app e h1 h2
  obtain ⟨A', c', rfl, -, -, -⟩ := hR.o.es
  rw [hn] at hR ⊢
  exact hK A' c' w' hR
theorem opw_rb {o : Oper} {k : Act} {K : Act → World → Prop} {Q : Exit → Act → World → Prop} (RN : Row EN 54) (h : RB w O acc v t) (s x : Operand) (c m n : Nat) (hm : ys.length = m)
    (ho : o.op = .call { callee := .builtin .append, args := #[s, x], argTypes := #[54, 54] }) (hs : k.eval s = v) (hx : k.eval x = .slice A m c)
    (he : Es EN t B A ys) (e : acc ++ ys = acc') (hn : acc'.length = n) (hl : n ≤ 100000000)
    (hK : ∀ A' c' w', RB w O acc' (.slice A' n c') w' → t.grownBy w' v.ownBlock → K (k.put o.dst (.slice A' n c')) w') : o.wp Tryz.prog k t K Q := by
  have hz := congrArg List.length e
  rw [List.length_append] at hz
  subst hm
  refine opw_append_es RN s x c ho hs hx h.o he (by omega) (by omega) h.lt fun v' w' h1 h2 _ => ?_
  have hR := h.app e h1 h2
  obtain ⟨A', c', rfl, -, -, -⟩ := hR.o.es
  rw [hn] at hR ⊢
  exact hK A' c' w' hR h2
/-- What a list of numbers in the text makes. -/
theorem es_ints (t : World) (ys : List Int) (cs : Array Value) (h : cs.toList = EN.flat ys) (hl : ys.length ≤ 100000000) : Es EN (t.alloc (.cells cs 3)) (t.alloc (.cells cs 3)).heap.size (some ⟨t.heap.size, 0, none⟩) ys := (ownE_es (own_new (E := EN) t ys cs h hl)).2.2
end
theorem w64u {a : Int} (h : 0 ≤ a ∧ a ≤ 255) : IntKind.i64.wrap a = a := by rw [IntKind.wrap_i64]; omega
set_option maxRecDepth 100000 in
set_option maxHeartbeats 1000000 in
theorem parts15_any (c : Col) (hc : c.ok) (w : World) : Calls Tryz.prog 27 #[.agg #[.int .u8 c.r, .int .u8 c.g, .int .u8 c.b, .int .u8 c.a]] w (MadeE EN w.heap.size w (nC c)) := by
  have h1 := w64u hc.1
  have h2 := w64u hc.2.1
  have h3 := w64u hc.2.2.1
  have h4 := w64u hc.2.2.2
  have HO := Lib.hid (show OwnE EN ((w.alloc (.cells #[.int .u8 c.r, .int .u8 c.g, .int .u8 c.b, .int .u8 c.a] 23)).alloc (.cells #[.int .i64 c.r, .int .i64 c.g, .int .i64 c.b, .int .i64 c.a] 3)) w.heap.size (.slice (some ⟨w.heap.size + 1, 0, none⟩) 4 4) (nC c) from by
    have h := own_new (E := EN) (w.alloc (.cells #[.int .u8 c.r, .int .u8 c.g, .int .u8 c.b, .int .u8 c.a] 23)) (nC c) #[.int .i64 c.r, .int .i64 c.g, .int .i64 c.b, .int .i64 c.a] rfl (by simp [nC])
    rw [World.size_alloc] at h
    exact h.less (Nat.le_succ _))
  have HB := Lib.hid (bstep (new_below w (.cells #[.int .u8 c.r, .int .u8 c.g, .int .u8 c.b, .int .u8 c.a] 23)) (by simp) (new_below (w.alloc (.cells #[.int .u8 c.r, .int .u8 c.g, .int .u8 c.b, .int .u8 c.a] 23)) (.cells #[.int .i64 c.r, .int .i64 c.g, .int .i64 c.b, .int .i64 c.a] 3)))
  clear hc
  go_enter Tryz.func27, Tryz.ntmps27
  go_wp2
  go_ret
  exact ⟨.slice (some ⟨w.heap.size + 1, 0, none⟩) 4 4, rfl, HO.out, HB.out⟩
set_option maxRecDepth 100000 in
set_option maxHeartbeats 1000000 in
theorem vert15_any (v : U.V) (w : World) : Calls Tryz.prog 28 #[.agg #[.int .i64 v.x, .int .i64 v.y, .int .i64 v.z, .int .i64 v.w, .int .i64 v.a, .int .i64 v.b, .int .i64 v.c, .int .i64 v.d]] w (MadeE EN w.heap.size w (nV v)) := by
  have HO := Lib.hid (show OwnE EN ((w.alloc (.cells #[.int .i64 v.x, .int .i64 v.y, .int .i64 v.z, .int .i64 v.w, .int .i64 v.a, .int .i64 v.b, .int .i64 v.c, .int .i64 v.d] 74)).alloc (.cells #[.int .i64 v.x, .int .i64 v.y, .int .i64 v.z, .int .i64 v.w, .int .i64 v.a, .int .i64 v.b, .int .i64 v.c, .int .i64 v.d] 3)) w.heap.size (.slice (some ⟨w.heap.size + 1, 0, none⟩) 8 8) (nV v) from by
    have h := own_new (E := EN) (w.alloc (.cells #[.int .i64 v.x, .int .i64 v.y, .int .i64 v.z, .int .i64 v.w, .int .i64 v.a, .int .i64 v.b, .int .i64 v.c, .int .i64 v.d] 74)) (nV v) #[.int .i64 v.x, .int .i64 v.y, .int .i64 v.z, .int .i64 v.w, .int .i64 v.a, .int .i64 v.b, .int .i64 v.c, .int .i64 v.d] rfl (by simp [nV])
    rw [World.size_alloc] at h
    exact h.less (Nat.le_succ _))
  have HB := Lib.hid (bstep (new_below w (.cells #[.int .i64 v.x, .int .i64 v.y, .int .i64 v.z, .int .i64 v.w, .int .i64 v.a, .int .i64 v.b, .int .i64 v.c, .int .i64 v.d] 74)) (by simp) (new_below (w.alloc (.cells #[.int .i64 v.x, .int .i64 v.y, .int .i64 v.z, .int .i64 v.w, .int .i64 v.a, .int .i64 v.b, .int .i64 v.c, .int .i64 v.d] 74)) (.cells #[.int .i64 v.x, .int .i64 v.y, .int .i64 v.z, .int .i64 v.w, .int .i64 v.a, .int .i64 v.b, .int .i64 v.c, .int .i64 v.d] 3)))
  go_enter Tryz.func28, Tryz.ntmps28
  go_wp2
  go_ret
  exact ⟨.slice (some ⟨w.heap.size + 1, 0, none⟩) 8 8, rfl, HO.out, HB.out⟩
set_option maxRecDepth 100000 in
set_option maxHeartbeats 4000000 in
theorem draw15_false (id prog tex : Int) (tris : List Tr) (A : Option Addr) (c : Nat) (hu : tris.length ≤ 100000) (w : World) (ha : Es ER w w.heap.size A tris) :
    Calls Tryz.prog 29 #[.agg #[.int .i64 id, .int .i64 prog, .int .i64 tex, .bool false, .slice A tris.length c]] w (MadeE EN w.heap.size w (nD ⟨id, prog, tex, false, tris⟩)) := by
  obtain ⟨RN⟩ := rowN
  obtain ⟨Y, y0, yn, ys, y1⟩ := said_steps [id, prog, tex, 0] nR tris (N := 100000000) (by
    have := many_le (g := nR) (K := 4) (l := tris) fun _ _ => Nat.le_refl 4
    simp only [List.length_cons, List.length_nil]
    omega)
  have hnD : nD ⟨id, prog, tex, false, tris⟩ = Y tris.length := yn.symm
  rw [hnD]
  obtain ⟨OB, hOB⟩ : ∃ o, (drB ⟨⟨id, prog, tex, false, tris⟩, A, c⟩ : Obj) = o := ⟨_, rfl⟩
  have hnew : (w.alloc (.cells #[.int .i64 id, .int .i64 prog, .int .i64 tex, .bool false, .slice A tris.length c] 51)).heap[w.heap.size]? = some OB := by rw [← hOB]; exact heap_alloc_new _ _
  have HI := Lib.hid (own_new (E := EN) (w.alloc (.cells #[.int .i64 id, .int .i64 prog, .int .i64 tex, .bool false, .slice A tris.length c] 51)) (Y 0) #[.int .i64 id, .int .i64 prog, .int .i64 tex, .int .i64 0, .int .i64 tris.length] (by rw [y0]; rfl) (by rw [y0]; simp))
  have HI0 := Lib.hid (show RB w OB (Y 0) (.slice (some ⟨w.heap.size + 1, 0, none⟩) 5 5) ((w.alloc (.cells #[.int .i64 id, .int .i64 prog, .int .i64 tex, .bool false, .slice A tris.length c] 51)).alloc (.cells #[.int .i64 id, .int .i64 prog, .int .i64 tex, .int .i64 0, .int .i64 tris.length] 3)) from
    ⟨bstep (new_below w _) (by simp) (new_below (w.alloc (.cells #[.int .i64 id, .int .i64 prog, .int .i64 tex, .bool false, .slice A tris.length c] 51)) _), (heap_alloc_old _ _ (by simp)).trans hnew, by
      have h := HI.out
      rw [World.size_alloc, y0] at h
      rw [y0]
      exact h⟩)
  have HL := Lib.hid (fun (k : Nat) (h : k < tris.length) => get_lt h)
  have HE := Lib.hid ha
  have HY := Lib.hid ys
  have hc0 : ∀ W : World, W.heap[w.heap.size]? = some OB → W.cell? ⟨w.heap.size, 4, none⟩ = some (.slice A tris.length c) := fun W h => by
    rw [← hOB] at h
    exact (drB_cell h).2.2.2.2
  have HC0 := Lib.hid hc0
  have hy0 : (Y 0).length = 5 := by rw [y0]; rfl
  replace hy0 := Lib.hid hy0
  obtain ⟨n, hn⟩ : ∃ n, tris.length = n := ⟨_, rfl⟩
  rw [hn] at HL HI0 hu HC0 ⊢
  clear hnD y0 yn ys y1 ha hOB hnew hc0 HI
  have hn' := Lib.hid hn
  clear hn
  go_enter Tryz.func29, Tryz.ntmps29
  go_wp2_with fail
  go_loopw [4, 5] (fun v i wr => ∃ (j : Nat) (A' : Option Addr) (c' : Nat), j ≤ n ∧ i = .int .i64 j ∧ v = .slice A' (Y j).length c' ∧ RB w OB (Y j) (.slice A' (Y j).length c') wr) (fun _ i _ => n - (intOf i).toNat)
  case atStart => exact ⟨0, _, _, Nat.zero_le _, rfl, by rw [hy0.out], by rw [hy0.out]; exact HI0.out⟩
  case round =>
    obtain ⟨j, A1, c1, hj, rfl, rfl, hR⟩ := hrel
    have HR := Lib.hid hR
    have k4 := HC0.out wr hR.g
    have gl := hR.lt
    have HBl := Lib.hid hR.b
    clear hR HI0
    by_cases hlt : j < n
    · obtain ⟨u, hu⟩ := HL.out j hlt
      obtain ⟨b, off, rfl, hbB, hat⟩ := HE.out.at hu
      obtain ⟨r0, r1, r2, r3⟩ := atR (show AtE ER wr b (off + j * 4) u from hat.below HBl.out hbB)
      have hy := HY.out j u hu
      have hbw : b < wr.heap.size := by omega
      have hjn : (j : Int) < n := by omega
      have HYl := Lib.hid hy
      clear hat hy
      go_upto_region 9 with fail
      have hS : (wr.alloc (.cells #[.int .i64 u.i, .int .i64 u.a, .int .i64 u.b, .int .i64 u.c] 86)).heap[wr.heap.size]? = some (.cells #[.int .i64 u.i, .int .i64 u.a, .int .i64 u.b, .int .i64 u.c] 86 (0, 0)) := heap_alloc_new _ _
      have hB : Below wr.heap.size wr (wr.alloc (.cells #[.int .i64 u.i, .int .i64 u.a, .int .i64 u.b, .int .i64 u.c] 86)) := new_below _ _
      obtain ⟨V, hT⟩ : ∃ T, (wr.alloc (.cells #[.int .i64 u.i, .int .i64 u.a, .int .i64 u.b, .int .i64 u.c] 86)) = T := ⟨_, rfl⟩
      rw [hT] at hS hB
      rw [hT]
      clear hT
      have t0 := Joins.cell_of_block hS 0
      have t1 := Joins.cell_of_block hS 1
      have t2 := Joins.cell_of_block hS 2
      have t3 := Joins.cell_of_block hS 3
      have hv : wr.heap.size < V.heap.size := (Array.getElem?_eq_some_iff.1 hS).1
      have HR2 := Lib.hid ((HR.out.keep hB).alloc (.cells #[.int .i64 u.i, .int .i64 u.a, .int .i64 u.b, .int .i64 u.c] 3))
      have HE2 := Lib.hid (es_ints V (nR u) #[.int .i64 u.i, .int .i64 u.a, .int .i64 u.b, .int .i64 u.c] rfl (by simp [nR]))
      clear hS hB k4 r0 r1 r2 r3
      go_wp2_with (at_builtin; refine wpl_rb (ys := nR u) (acc' := Y (j + 1)) rfl RN HR2.out _ _ 4 4 _ rfl rfl rfl rfl HE2.out HYl.out.1.symm rfl (by have := congrArg List.length HYl.out.1; have h2 := HYl.out.2; rw [List.length_append] at this; omega) ?_; intro A' c' w3 hR3)
      go_roundw
      case rel => exact ⟨j + 1, A', c', by omega, by go_num, rfl, hR3⟩
      case measure => simp [intOf]; omega
    · obtain rfl : j = n := by omega
      go_wp2_with fail
      go_ret
      exact ⟨_, rfl, HR.out.o.less (Nat.le_succ _), HR.out.b⟩
set_option maxRecDepth 100000 in
set_option maxHeartbeats 4000000 in
theorem draw15_true (id prog tex : Int) (tris : List Tr) (A : Option Addr) (c : Nat) (hu : tris.length ≤ 100000) (w : World) (ha : Es ER w w.heap.size A tris) :
    Calls Tryz.prog 29 #[.agg #[.int .i64 id, .int .i64 prog, .int .i64 tex, .bool true, .slice A tris.length c]] w (MadeE EN w.heap.size w (nD ⟨id, prog, tex, true, tris⟩)) := by
  obtain ⟨RN⟩ := rowN
  obtain ⟨Y, y0, yn, ys, y1⟩ := said_steps [id, prog, tex, 1] nR tris (N := 100000000) (by
    have := many_le (g := nR) (K := 4) (l := tris) fun _ _ => Nat.le_refl 4
    simp only [List.length_cons, List.length_nil]
    omega)
  have hnD : nD ⟨id, prog, tex, true, tris⟩ = Y tris.length := yn.symm
  rw [hnD]
  obtain ⟨OB, hOB⟩ : ∃ o, (drB ⟨⟨id, prog, tex, true, tris⟩, A, c⟩ : Obj) = o := ⟨_, rfl⟩
  have hnew : (w.alloc (.cells #[.int .i64 id, .int .i64 prog, .int .i64 tex, .bool true, .slice A tris.length c] 51)).heap[w.heap.size]? = some OB := by rw [← hOB]; exact heap_alloc_new _ _
  have HI := Lib.hid (own_new (E := EN) (w.alloc (.cells #[.int .i64 id, .int .i64 prog, .int .i64 tex, .bool true, .slice A tris.length c] 51)) (Y 0) #[.int .i64 id, .int .i64 prog, .int .i64 tex, .int .i64 1, .int .i64 tris.length] (by rw [y0]; rfl) (by rw [y0]; simp))
  have HI0 := Lib.hid (show RB w OB (Y 0) (.slice (some ⟨w.heap.size + 1, 0, none⟩) 5 5) ((w.alloc (.cells #[.int .i64 id, .int .i64 prog, .int .i64 tex, .bool true, .slice A tris.length c] 51)).alloc (.cells #[.int .i64 id, .int .i64 prog, .int .i64 tex, .int .i64 1, .int .i64 tris.length] 3)) from
    ⟨bstep (new_below w _) (by simp) (new_below (w.alloc (.cells #[.int .i64 id, .int .i64 prog, .int .i64 tex, .bool true, .slice A tris.length c] 51)) _), (heap_alloc_old _ _ (by simp)).trans hnew, by
      have h := HI.out
      rw [World.size_alloc, y0] at h
      rw [y0]
      exact h⟩)
  have HL := Lib.hid (fun (k : Nat) (h : k < tris.length) => get_lt h)
  have HE := Lib.hid ha
  have HY := Lib.hid ys
  have hc0 : ∀ W : World, W.heap[w.heap.size]? = some OB → W.cell? ⟨w.heap.size, 4, none⟩ = some (.slice A tris.length c) := fun W h => by
    rw [← hOB] at h
    exact (drB_cell h).2.2.2.2
  have HC0 := Lib.hid hc0
  have hy0 : (Y 0).length = 5 := by rw [y0]; rfl
  replace hy0 := Lib.hid hy0
  obtain ⟨n, hn⟩ : ∃ n, tris.length = n := ⟨_, rfl⟩
  rw [hn] at HL HI0 hu HC0 ⊢
  clear hnD y0 yn ys y1 ha hOB hnew hc0 HI
  have hn' := Lib.hid hn
  clear hn
  go_enter Tryz.func29, Tryz.ntmps29
  go_wp2_with fail
  go_loopw [4, 5] (fun v i wr => ∃ (j : Nat) (A' : Option Addr) (c' : Nat), j ≤ n ∧ i = .int .i64 j ∧ v = .slice A' (Y j).length c' ∧ RB w OB (Y j) (.slice A' (Y j).length c') wr) (fun _ i _ => n - (intOf i).toNat)
  case atStart => exact ⟨0, _, _, Nat.zero_le _, rfl, by rw [hy0.out], by rw [hy0.out]; exact HI0.out⟩
  case round =>
    obtain ⟨j, A1, c1, hj, rfl, rfl, hR⟩ := hrel
    have HR := Lib.hid hR
    have k4 := HC0.out wr hR.g
    have gl := hR.lt
    have HBl := Lib.hid hR.b
    clear hR HI0
    by_cases hlt : j < n
    · obtain ⟨u, hu⟩ := HL.out j hlt
      obtain ⟨b, off, rfl, hbB, hat⟩ := HE.out.at hu
      obtain ⟨r0, r1, r2, r3⟩ := atR (show AtE ER wr b (off + j * 4) u from hat.below HBl.out hbB)
      have hy := HY.out j u hu
      have hbw : b < wr.heap.size := by omega
      have hjn : (j : Int) < n := by omega
      have HYl := Lib.hid hy
      clear hat hy
      go_upto_region 9 with fail
      have hS : (wr.alloc (.cells #[.int .i64 u.i, .int .i64 u.a, .int .i64 u.b, .int .i64 u.c] 86)).heap[wr.heap.size]? = some (.cells #[.int .i64 u.i, .int .i64 u.a, .int .i64 u.b, .int .i64 u.c] 86 (0, 0)) := heap_alloc_new _ _
      have hB : Below wr.heap.size wr (wr.alloc (.cells #[.int .i64 u.i, .int .i64 u.a, .int .i64 u.b, .int .i64 u.c] 86)) := new_below _ _
      obtain ⟨V, hT⟩ : ∃ T, (wr.alloc (.cells #[.int .i64 u.i, .int .i64 u.a, .int .i64 u.b, .int .i64 u.c] 86)) = T := ⟨_, rfl⟩
      rw [hT] at hS hB
      rw [hT]
      clear hT
      have t0 := Joins.cell_of_block hS 0
      have t1 := Joins.cell_of_block hS 1
      have t2 := Joins.cell_of_block hS 2
      have t3 := Joins.cell_of_block hS 3
      have hv : wr.heap.size < V.heap.size := (Array.getElem?_eq_some_iff.1 hS).1
      have HR2 := Lib.hid ((HR.out.keep hB).alloc (.cells #[.int .i64 u.i, .int .i64 u.a, .int .i64 u.b, .int .i64 u.c] 3))
      have HE2 := Lib.hid (es_ints V (nR u) #[.int .i64 u.i, .int .i64 u.a, .int .i64 u.b, .int .i64 u.c] rfl (by simp [nR]))
      clear hS hB k4 r0 r1 r2 r3
      go_wp2_with (at_builtin; refine wpl_rb (ys := nR u) (acc' := Y (j + 1)) rfl RN HR2.out _ _ 4 4 _ rfl rfl rfl rfl HE2.out HYl.out.1.symm rfl (by have := congrArg List.length HYl.out.1; have h2 := HYl.out.2; rw [List.length_append] at this; omega) ?_; intro A' c' w3 hR3)
      go_roundw
      case rel => exact ⟨j + 1, A', c', by omega, by go_num, rfl, hR3⟩
      case measure => simp [intOf]; omega
    · obtain rfl : j = n := by omega
      go_wp2_with fail
      go_ret
      exact ⟨_, rfl, HR.out.o.less (Nat.le_succ _), HR.out.b⟩
theorem draw15_any (u : Lo Dr) (hu : u.x.tris.length ≤ 100000) (w : World) (ha : Es ER w w.heap.size u.A u.x.tris) : Calls Tryz.prog 29 #[.agg #[.int .i64 u.x.id, .int .i64 u.x.prog, .int .i64 u.x.tex, .bool u.x.op, .slice u.A u.x.tris.length u.c]] w (MadeE EN w.heap.size w (nD u.x)) := by
  obtain ⟨⟨id, prog, tex, op, tris⟩, A, c⟩ := u
  cases op
  · exact draw15_false id prog tex tris A c hu w ha
  · exact draw15_true id prog tex tris A c hu w ha
end Go.Proofs.YtfmmfaeognoleaaGreat
/-
  What a scene says, list by list (pure).
-/
namespace Go.Proofs.YtfmmfaeognoleaaGreat
open Go.RowKit

/-- What is said of a list, element by element. -/
structure Stp {α : Type} (xs : List Int) (G : α → List Int) (l : List α) (N : Nat) (Y : Nat → List Int) : Prop where
  zero : Y 0 = xs ++ [(l.length : Int)]
  last : Y l.length = xs ++ nAll G l
  step : ∀ j u, l[j]? = some u → Y (j + 1) = Y j ++ G u ∧ (Y (j + 1)).length ≤ N
  len : (Y 0).length ≤ N
theorem stp {α : Type} (xs : List Int) (G : α → List Int) (l : List α) {N : Nat} (hn : xs.length + (nAll G l).length ≤ N) : ∃ Y, Stp xs G l N Y := by
  obtain ⟨Y, h1, h2, h3, h4⟩ := said_steps xs G l hn
  refine ⟨Y, h1, h2, fun j u hu => ?_, by rw [h1, List.length_append]; exact h4⟩
  obtain ⟨h5, h6⟩ := h3 j u hu
  exact ⟨h5, by rw [h5, List.length_append]; exact h6⟩
theorem stp_tex {YT : Nat → List Int} {xs : List Int} {l : List (Lo Tx)} {N : Nat} (h : Stp xs (fun u : Lo Tx => nT u.x) l N YT) {j : Nat} {u : Lo Tx} (hu : l[j]? = some u) :
    ∃ Z, Stp (YT j ++ [u.x.w, u.x.h]) nC u.x.px N Z ∧ Z u.x.px.length = YT (j + 1) := by
  obtain ⟨h1, h2⟩ := h.step j u hu
  rw [h1, List.length_append] at h2
  have h3 : (nT u.x).length = 2 + (nAll nC u.x.px).length := by
    show (nAll nC u.x.px).length + 1 + 1 = _
    omega
  obtain ⟨Z, hZ⟩ := stp (YT j ++ [u.x.w, u.x.h]) nC u.x.px (N := N) (by rw [List.length_append, List.length_cons, List.length_cons, List.length_nil]; omega)
  exact ⟨Z, hZ, by rw [hZ.last, h1, List.append_assoc]; rfl⟩
theorem stp_prog {YP : Nat → List Int} {xs : List Int} {l : List (Lo (List C.In))} {N : Nat} (h : Stp xs (fun u : Lo (List C.In) => nP u.x) l N YP) {j : Nat} {u : Lo (List C.In)} (hu : l[j]? = some u) :
    ∃ Z, Stp (YP j) nI u.x N Z ∧ Z u.x.length = YP (j + 1) := by
  obtain ⟨h1, h2⟩ := h.step j u hu
  rw [h1, List.length_append] at h2
  obtain ⟨Z, hZ⟩ := stp (YP j) nI u.x (N := N) h2
  exact ⟨Z, hZ, by rw [hZ.last, h1]; rfl⟩
theorem scene_steps (s : Sc) {N : Nat} (hn : (nS s.p).length ≤ N) : ∃ YV YT YP YD, Stp ([s.w, s.h] ++ nC s.k) nV s.vs N YV ∧ Stp (YV s.vs.length) (fun u : Lo Tx => nT u.x) s.ts N YT ∧
    Stp (YT s.ts.length) (fun u : Lo (List C.In) => nP u.x) s.ps N YP ∧ Stp (YP s.ps.length) (fun u : Lo Dr => nD u.x) s.ds N YD ∧ YD s.ds.length = nS s.p := by
  have e1 := nAll_map (f := fun u : Lo Tx => u.x) nT s.ts
  have e2 := nAll_map (f := fun u : Lo (List C.In) => u.x) nP s.ps
  have e3 := nAll_map (f := fun u : Lo Dr => u.x) nD s.ds
  have hp : nS s.p = ([s.w, s.h] ++ nC s.k) ++ nAll nV s.vs ++ nAll (fun u : Lo Tx => nT u.x) s.ts ++ nAll (fun u : Lo (List C.In) => nP u.x) s.ps ++ nAll (fun u : Lo Dr => nD u.x) s.ds := by
    rw [e1, e2, e3]
    simp only [List.append_assoc]
    rfl
  rw [hp] at hn
  simp only [List.length_append] at hn
  obtain ⟨YV, hV⟩ := stp ([s.w, s.h] ++ nC s.k) nV s.vs (N := N) (by rw [List.length_append]; omega)
  obtain ⟨YT, hT⟩ := stp (YV s.vs.length) (fun u : Lo Tx => nT u.x) s.ts (N := N) (by rw [hV.last]; simp only [List.length_append]; omega)
  obtain ⟨YP, hP⟩ := stp (YT s.ts.length) (fun u : Lo (List C.In) => nP u.x) s.ps (N := N) (by rw [hT.last, hV.last]; simp only [List.length_append]; omega)
  obtain ⟨YD, hD⟩ := stp (YP s.ps.length) (fun u : Lo Dr => nD u.x) s.ds (N := N) (by rw [hP.last, hT.last, hV.last]; simp only [List.length_append]; omega)
  exact ⟨YV, YT, YP, YD, hV, hT, hP, hD, by rw [hD.last, hP.last, hT.last, hV.last, hp]⟩
theorem rb_new {w t : World} {O : Obj} {ys : List Int} {cs : Array Value} (hb : Below w.heap.size w t) (hg : t.heap[w.heap.size]? = some O) (h : cs.toList = EN.flat ys) (hl : ys.length ≤ 100000000) :
    RB w O ys (.slice (some ⟨t.heap.size, 0, none⟩) ys.length ys.length) (t.alloc (.cells cs 3)) := by
  have hlt := (Array.getElem?_eq_some_iff.1 hg).1
  exact ⟨hb.alloc hb.size _, ((new_below t _).block _ hlt).trans hg, (own_new (E := EN) t ys cs h hl).less hlt⟩
end Go.Proofs.YtfmmfaeognoleaaGreat
/-
  Worlds that are as one was but for some blocks, and for what is new.
-/
namespace Go.Proofs.YtfmmfaeognoleaaGreat
open Go.RowKit

def Om (M : Nat → Prop) (Y w : World) : Prop := Y.heap.size ≤ w.heap.size ∧ ∀ b, b < Y.heap.size → ¬ M b → w.heap[b]? = Y.heap[b]?
section
variable {M : Nat → Prop} {Y w w' : World}
theorem om_refl (M : Nat → Prop) (Y : World) : Om M Y Y := ⟨Nat.le_refl _, fun _ _ _ => rfl⟩
theorem om_drew (M : Nat → Prop) (Y : World) : Om M Y Y.drew := ⟨Nat.le_refl _, fun _ _ _ => rfl⟩
theorem Om.bel (h : Om M Y w) (hb : Below Y.heap.size w w') : Om M Y w' := ⟨Nat.le_trans h.1 hb.size, fun b h1 h2 => (hb.block b h1).trans (h.2 b h1 h2)⟩
theorem Om.alloc (h : Om M Y w) (o : Obj) : Om M Y (w.alloc o) := h.bel ((Below.refl _ _).alloc h.1 o)
theorem Om.grown {row : Option Nat} (h : Om M Y w) (hg : w.grownBy w' row) (hr : ∀ r, row = some r → M r ∨ Y.heap.size ≤ r) : Om M Y w' :=
  ⟨Nat.le_trans h.1 hg.size, fun b h1 h2 => (hg.block b (Nat.lt_of_lt_of_le h1 h.1) (fun e => by
    rcases hr b e.symm with h3 | h3
    · exact h2 h3
    · omega)).trans (h.2 b h1 h2)⟩
theorem Om.set {g o : Nat} {u : Value} (h : Om M Y w) (hg : M g ∨ Y.heap.size ≤ g) : Om M Y (w.setCell ⟨g, o, none⟩ u) := ⟨by simpa using h.1, fun b h1 h2 => by
  rw [heap_setCell_other _ _ _ _ (by
    intro e
    have e : b = g := by simpa using e
    subst e
    rcases hg with h3 | h3
    · exact h2 h3
    · omega)]
  exact h.2 b h1 h2⟩
theorem Om.cell {b o : Nat} {v : Value} (h : Om M Y w) (hc : Y.cell? ⟨b, o, none⟩ = some v) (hM : ¬ M b) : w.cell? ⟨b, o, none⟩ = some v := by
  rw [World.cell?_of_block (a := ⟨b, o, none⟩) (h.2 b (World.block_lt_of_cell? _ _ hc) hM), hc]
end
end Go.Proofs.YtfmmfaeognoleaaGreat
/-
  The reference's one and Put, at this seat's translation.
-/
namespace Go.Proofs.YtfmmfaeognoleaaGreat.P
open Go.RowKit

set_option maxRecDepth 100000 in
set_option maxHeartbeats 2000000 in
theorem rone_any (n : Int) (w : World) (h0 : -9223372036854775808 ≤ n) (h1 : n ≤ 9223372036854775807) :
    Calls Tryz.prog 72 #[.int .i64 n] w (Made 5 .u8 w.heap.size w (enc (fold n))) := by
  obtain ⟨i0, hi, hz0, hz1, hz2⟩ := info_parts Tryz.info5
  have HI := Lib.hid hi
  have HZ := Lib.hid (And.intro hz0 (And.intro hz1 hz2))
  clear hi hz0 hz1 hz2
  have hf := fold_lt ⟨h0, h1⟩
  have hel := enc_len10 hf
  have hfo : ((fold n : Nat) : Int) = if n < 0 then -(n + 1) * 2 + 1 else n * 2 := by unfold fold; split <;> omega
  have HFO := Lib.hid hfo
  have HE := Lib.hid (own_empty 5 w)
  clear hfo
  by_cases hn : n < 0
  all_goals
    go_enter Tryz.func72, Tryz.ntmps72
    go_wp2_with fail
    go_loopw [4, 3] (fun b u wr => PutAt w.heap.size w [] n b u wr) (fun _ u _ => (intOf u).toNat)
    case atStart =>
      refine ⟨fold n, [], ?_, hf, HE.out, rfl, (Below.refl _ w).alloc (Nat.le_refl _) _⟩
      rw [HFO.out]
      first | (rw [if_pos hn]) | (rw [if_neg (by omega)])
    case round =>
      obtain ⟨k, cs, rfl, hk, ho, hcs, hb⟩ := hrel
      have hlen : cs.length + (enc k).length = (enc (fold n)).length := by simpa using congrArg List.length hcs
      have hsz := hb.size
      have HB := Lib.hid hb
      have HW := Lib.hid ho
      have HC := Lib.hid hcs
      have hep := enc_pos k
      have hcl : cs.length ≤ 10 := by omega
      clear hb ho hcs hlen hep
      by_cases hge : 128 ≤ k
      · go_wp2_with (at_builtin; refine wpList_append_own _ rfl _ _ 30 rfl w.heap.size 5 i0 (.int .u8 0) 1 1 Tryz.underlying30 HI.out HZ.out.1 HZ.out.2.1 HZ.out.2.2 rfl (by decide) _ _ _ rfl (HW.out.row.alloc _) _ 1 1 [_] rfl rfl (cell_one_new _ _ _) (by simp [Value.oneCell']) (by unfold maxLen; omega) (by omega) (by simp; omega) ?_; intro v' w1 hown' hgrow _)
        obtain ⟨ho', hb'⟩ := append_of HW.out (by omega) hown' hgrow
        refine ⟨⟨k / 128, cs ++ [((k % 128 + 128 : Nat) : Int)], by simp, by omega, by simpa using ho', ?_, HB.out.trans hb'⟩, by simp [intOf]; omega⟩
        rw [← HC.out, enc_ge (u := k) (by omega)]; simp
      · go_wp2_with (at_builtin; refine wpList_append_own _ rfl _ _ 30 rfl w.heap.size 5 i0 (.int .u8 0) 1 1 Tryz.underlying30 HI.out HZ.out.1 HZ.out.2.1 HZ.out.2.2 rfl (by decide) _ _ _ rfl (HW.out.row.alloc _) _ 1 1 [_] rfl rfl (cell_one_new _ _ _) (by simp [Value.oneCell']) (by unfold maxLen; omega) (by omega) (by simp; omega) ?_; intro v' w1 hown' hgrow _)
        go_ret
        obtain ⟨ho', hb'⟩ := append_of HW.out (by omega) hown' hgrow
        refine ⟨v', rfl, ?_, HB.out.trans hb'⟩
        have e := HC.out
        rw [List.nil_append, enc_lt (u := k) (by omega)] at e
        rw [← e]; exact ho'

set_option maxRecDepth 100000 in
set_option maxHeartbeats 2000000 in
theorem rput_any (A : Option Addr) (c : Nat) (l : List Int) (B : Nat) (w : World) (hs : Sl .i64 w B A l) (hB : B ≤ w.heap.size) (hi : Ins l) (hl : l.length ≤ 100000000) :
    Calls Tryz.prog 30 #[.slice A l.length c] w (Made 5 .u8 w.heap.size w (put l)) := by
  obtain ⟨i0, hi0, hz0, hz1, hz2⟩ := info_parts Tryz.info5
  have HZ := Lib.hid (And.intro hi0 (And.intro hz0 (And.intro hz1 hz2)))
  clear hi0 hz0 hz1 hz2
  have HS := Lib.hid hs
  have HI := Lib.hid hi
  have HE := Lib.hid (own_empty 5 w)
  clear hs hi
  go_enter Tryz.func30, Tryz.ntmps30
  go_wp2_with fail
  go_loopw [3, 4] (fun b i wr => AllAt w.heap.size w l b i wr) (fun _ i _ => l.length - (intOf i).toNat)
  case atStart => exact ⟨0, by omega, rfl, HE.out, (Below.refl _ w).alloc (Nat.le_refl _) _⟩
  case round =>
    obtain ⟨k, hk, rfl, ho, hb⟩ := hrel
    have hpl := put_len (HI.out.take k)
    have hlt' : (l.take k).length ≤ 100000000 := by simp; omega
    have hpl2 : (put (l.take k)).length ≤ 1000000000 := by omega
    have hsz := hb.size
    have HO := Lib.hid ho
    have HB := Lib.hid hb
    clear ho hb hpl hlt'
    by_cases hlt : k < l.length
    · obtain ⟨b, off, rfl, hbB, hcell⟩ := HS.out.at hlt
      have hn := HI.out.get k
      generalize hp : l.getD k 0 = n at hcell hn
      obtain ⟨hn0, hn1⟩ := hn
      have hel := enc_len10 (fold_lt ⟨hn0, hn1⟩)
      have HP := Lib.hid hp
      clear hp
      have hcell' : wr.cell? ⟨b, off + k, none⟩ = some (.int .i64 n) := (HB.out.cell (p := ⟨b, off + k, none⟩) (by show b < _; omega)).trans hcell
      clear hcell
      go_wp2_with fail
      refine (rone_any n wr hn0 hn1).mono ?_
      rintro e w1 ⟨v1, rfl, ho1, hb1⟩
      obtain ⟨A1, c1, rfl, -, -, hs1, hn1'⟩ := ho1.sl2
      have HO1 := Lib.hid (HO.out.keep hb1)
      have HS1 := Lib.hid (And.intro hs1 hn1')
      have HB1 := Lib.hid (HB.out.trans (hb1.mono hsz))
      clear ho1 hs1 hn1' hb1 HO
      go_wp2_with (at_builtin; refine wpList_append_sl _ rfl _ _ 30 rfl w.heap.size 5 i0 (.int .u8 0) 1 Tryz.underlying30 HZ.out.1 HZ.out.2.1 HZ.out.2.2.1 HZ.out.2.2.2 rfl .u8 _ (put (l.take k)) rfl HO1.out A1 c1 w1.heap.size (enc (fold n)) rfl HS1.out.1 HS1.out.2 (by omega) (by decide) HB1.out.size ?_; intro v2 w2 ho2 hb2)
      go_roundw
      case rel => exact ⟨k + 1, by omega, by go_num, by rw [take_at hlt HP.out, put_snoc]; exact ho2, HB1.out.trans hb2⟩
      case measure => simp [intOf]; omega
    · go_wp2
      go_ret
      have e : l.take k = l := List.take_of_length_le (by omega)
      exact ⟨_, rfl, by have := HO.out; rwa [e] at this, HB.out⟩
end Go.Proofs.YtfmmfaeognoleaaGreat.P
