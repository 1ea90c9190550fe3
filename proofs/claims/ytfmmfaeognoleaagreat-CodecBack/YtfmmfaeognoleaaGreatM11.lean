/-
  Whether two rows of draws are the same (glazierref14.draws).
-/
import Derived.Test.YtfmmfaeognoleaaGreatM10
import Derived.BigQuiet
import Derived.Test.YtfmmfaeognoleaaGreatM5
namespace Go.Proofs.YtfmmfaeognoleaaGreat
open Go.RowKit
attribute [local go_sem ↓] Go.wp_at_zero Go.wp_at_succ
attribute [local go_sem high] neqR0
attribute [local go_sem] guardR0

theorem below_drw {B : Nat} {w w' : World} (h : Below B w w') : Below B w w'.drew := h.drew
/-- The first of five that differs, or none. -/
theorem five_ways (a b c d e : Bool) : (a = false ∧ b = false ∧ c = false ∧ d = false ∧ e = false) ∨ a = true ∨ (a = false ∧ b = true) ∨ (a = false ∧ b = false ∧ c = true) ∨ (a = false ∧ b = false ∧ c = false ∧ d = true) ∨ (a = false ∧ b = false ∧ c = false ∧ d = false ∧ e = true) := by
  cases a <;> cases b <;> cases c <;> cases d <;> cases e <;> simp
set_option maxRecDepth 100000 in
set_option maxHeartbeats 4000000 in
theorem draws_any (A A' : Option Addr) (c c' : Nat) (xs ys : List (Lo Dr)) (w : World) (hs : Es ED w w.heap.size A xs) (hs' : Es ED w w.heap.size A' ys) (hx : ∀ l ∈ xs, Es ER w w.heap.size l.A l.x.tris) (hy : ∀ l ∈ ys, Es ER w w.heap.size l.A l.x.tris)
    (hl : xs.length ≤ 100000) (hlx : ∀ l ∈ xs, l.x.tris.length ≤ 100000) (b : Bool) (hb : b = true ↔ xs.map Lo.x = ys.map Lo.x) :
    Calls Tryz.prog 22 #[.slice A xs.length c, .slice A' ys.length c'] w fun e w' => e = .returned (.bool b) ∧ Below w.heap.size w w' := by
  have HS := Lib.hid hs
  have HS' := Lib.hid hs'
  have HX := Lib.hid hx
  have HY := Lib.hid hy
  have HLX := Lib.hid hlx
  have HB := Lib.hid hb
  clear hs hs' hb hx hy hlx
  generalize hn : xs.length = n at *
  generalize hn' : ys.length = n' at *
  have HN := Lib.hid hn
  have HN' := Lib.hid hn'
  clear hn hn'
  by_cases hnn : n = n'
  · subst hnn
    go_enter Tryz.func22, Tryz.ntmps22
    go_wp2_with fail
    go_loopw [5] (fun i wr => ∃ k : Nat, k ≤ n ∧ i = .int .i64 k ∧ (xs.take k).map Lo.x = (ys.take k).map Lo.x ∧ Below w.heap.size w wr) (fun i _ => n - (intOf i).toNat)
    case atStart => exact ⟨0, Nat.zero_le _, rfl, by simp, Below.refl _ _⟩
    case round =>
      obtain ⟨k, hk, rfl, hin, hbel⟩ := hrel
      have HK := Lib.hid hin
      have HBE := Lib.hid hbel
      clear hin hbel
      by_cases hlt : k < n
      · obtain ⟨u, hu⟩ := get_lt (l := xs) (k := k) (by rw [HN.out]; exact hlt)
        obtain ⟨t, ht⟩ := get_lt (l := ys) (k := k) (by rw [HN'.out]; exact hlt)
        obtain ⟨b1, off, rfl, hbB, hat⟩ := HS.out.at hu
        obtain ⟨b2, off', rfl, hbB', hat'⟩ := HS'.out.at ht
        have HU := Lib.hid hu
        have HT := Lib.hid ht
        have HEU := Lib.hid (HX.out u (List.mem_of_getElem? hu))
        have HET := Lib.hid (HY.out t (List.mem_of_getElem? ht))
        have hul := HLX.out u (List.mem_of_getElem? hu)
        obtain ⟨e0, e1, e2, e3, e4⟩ := atD (show AtE ED wr b1 (off + k * 5) u from hat.below HBE.out hbB)
        obtain ⟨f0, f1, f2, f3, f4⟩ := atD (show AtE ED wr b2 (off' + k * 5) t from hat'.below HBE.out hbB')
        have HAU := Lib.hid hat
        have HAT := Lib.hid hat'
        have hbw := Nat.lt_of_lt_of_le hbB HBE.out.size
        have hbw' := Nat.lt_of_lt_of_le hbB' HBE.out.size
        clear hu ht hat hat'
        have hne : ∀ {α : Type} [BEq α] [LawfulBEq α] {a b : α}, (a != b) = true → a ≠ b := fun h e => by subst e; simp at h
        have HBAD := Lib.hid (show u.x ≠ t.x → b = false from fun h => by
          cases b
          · rfl
          · have h2 := HB.out.1 rfl
            have h3 : (xs.map Lo.x)[k]? = (ys.map Lo.x)[k]? := by rw [h2]
            rw [List.getElem?_map, List.getElem?_map, HU.out, HT.out] at h3
            exact absurd (by simpa using h3) h)
        have y0 : ∀ x : Grow wr, x.w.cell? ⟨b1, off + k * 5, none⟩ = some (.int .i64 u.x.id) := fun x => x.cell e0
        have y1 : ∀ x : Grow wr, x.w.cell? ⟨b1, off + k * 5 + 1, none⟩ = some (.int .i64 u.x.prog) := fun x => x.cell e1
        have y2 : ∀ x : Grow wr, x.w.cell? ⟨b1, off + k * 5 + 2, none⟩ = some (.int .i64 u.x.tex) := fun x => x.cell e2
        have y3 : ∀ x : Grow wr, x.w.cell? ⟨b1, off + k * 5 + 3, none⟩ = some (.bool u.x.op) := fun x => x.cell e3
        have y4 : ∀ x : Grow wr, x.w.cell? ⟨b1, off + k * 5 + 4, none⟩ = some (.slice u.A u.x.tris.length u.c) := fun x => x.cell e4
        have z0 : ∀ x : Grow wr, x.w.cell? ⟨b2, off' + k * 5, none⟩ = some (.int .i64 t.x.id) := fun x => x.cell f0
        have z1 : ∀ x : Grow wr, x.w.cell? ⟨b2, off' + k * 5 + 1, none⟩ = some (.int .i64 t.x.prog) := fun x => x.cell f1
        have z2 : ∀ x : Grow wr, x.w.cell? ⟨b2, off' + k * 5 + 2, none⟩ = some (.int .i64 t.x.tex) := fun x => x.cell f2
        have z3 : ∀ x : Grow wr, x.w.cell? ⟨b2, off' + k * 5 + 3, none⟩ = some (.bool t.x.op) := fun x => x.cell f3
        have z4 : ∀ x : Grow wr, x.w.cell? ⟨b2, off' + k * 5 + 4, none⟩ = some (.slice t.A t.x.tris.length t.c) := fun x => x.cell f4
        have hszu : ∀ x : Grow wr, b1 < x.w.heap.size := fun x => Nat.lt_of_lt_of_le hbw x.below.size
        have hszt : ∀ x : Grow wr, b2 < x.w.heap.size := fun x => Nat.lt_of_lt_of_le hbw' x.below.size
        have ne1 := Grow.ne wr
        rcases five_ways (u.x.id != t.x.id) (u.x.prog != t.x.prog) (u.x.tex != t.x.tex) (u.x.op != t.x.op) ((u.x.tris.length : Int) != t.x.tris.length) with ⟨w0, w1, w2, w3, w4⟩ | w0 | ⟨w0, w1⟩ | ⟨w0, w1, w2⟩ | ⟨w0, w1, w2, w3⟩ | ⟨w0, w1, w2, w3, w4⟩
        rotate_left
        · obtain rfl := HBAD.out fun e => hne w0 (by rw [e])
          clear hne HBAD
          go_wp2_with fail
          refine wp_region_grow (by kernel_rfl) (by kernel_rfl) ?_
          try simp only [List.append_eq, List.cons_append, List.nil_append]
          repeat (first | go_big_quiet_skip | go_big_quiet_step (fail))
          refine wpQuiet_nil ?_
          rintro _ ⟨z, rfl⟩
          have B7 := Lib.hid (bstep HBE.out HBE.out.size z.below)
          generalize z.w = Y at *
          clear z
          go_wp2_with fail
          go_ret
          exact ⟨rfl, B7.out⟩
        · obtain rfl := HBAD.out fun e => hne w1 (by rw [e])
          clear hne HBAD
          go_wp2_with fail
          refine wp_region_grow (by kernel_rfl) (by kernel_rfl) ?_
          try simp only [List.append_eq, List.cons_append, List.nil_append]
          repeat (first | go_big_quiet_skip | go_big_quiet_step (fail))
          refine wpQuiet_nil ?_
          rintro _ ⟨z, rfl⟩
          have B7 := Lib.hid (bstep HBE.out HBE.out.size z.below)
          generalize z.w = Y at *
          clear z
          go_wp2_with fail
          go_ret
          exact ⟨rfl, B7.out⟩
        · obtain rfl := HBAD.out fun e => hne w2 (by rw [e])
          clear hne HBAD
          go_wp2_with fail
          refine wp_region_grow (by kernel_rfl) (by kernel_rfl) ?_
          try simp only [List.append_eq, List.cons_append, List.nil_append]
          repeat (first | go_big_quiet_skip | go_big_quiet_step (fail))
          refine wpQuiet_nil ?_
          rintro _ ⟨z, rfl⟩
          have B7 := Lib.hid (bstep HBE.out HBE.out.size z.below)
          generalize z.w = Y at *
          clear z
          go_wp2_with fail
          go_ret
          exact ⟨rfl, B7.out⟩
        · obtain rfl := HBAD.out fun e => hne w3 (by rw [e])
          have hop : u.x.op ≠ t.x.op := hne w3
          clear hne HBAD w3
          obtain ⟨o1, ho1⟩ : ∃ o, u.x.op = o := ⟨_, rfl⟩
          obtain ⟨o2, ho2⟩ : ∃ o, t.x.op = o := ⟨_, rfl⟩
          rw [ho1] at y3 hop
          rw [ho2] at z3 hop
          clear ho1 ho2 e3 f3
          go_wp2_with fail
          cases o1 <;> cases o2
          all_goals first
            | exact absurd rfl hop
            | skip
          all_goals
            clear hop
            refine wp_region_grow (by kernel_rfl) (by kernel_rfl) ?_
            try simp only [List.append_eq, List.cons_append, List.nil_append]
            repeat (first | go_big_quiet_skip | go_big_quiet_step (fail))
            refine wpQuiet_nil ?_
            rintro _ ⟨z, rfl⟩
            have B7 := Lib.hid (bstep HBE.out HBE.out.size z.below)
            generalize z.w = Y at *
            clear z
            go_wp2_with fail
            go_ret
            exact ⟨rfl, B7.out⟩
        · obtain rfl := HBAD.out fun e => hne w4 (by rw [e])
          have hop : u.x.op = t.x.op := by simpa using w3
          clear hne HBAD w3
          obtain ⟨o2, ho2⟩ : ∃ o, t.x.op = o := ⟨_, rfl⟩
          rw [hop, ho2] at y3
          rw [ho2] at z3
          clear ho2 e3 f3 hop
          cases o2
          all_goals
            go_wp2_with fail
            refine wp_region_grow (by kernel_rfl) (by kernel_rfl) ?_
            try simp only [List.append_eq, List.cons_append, List.nil_append]
            repeat (first | go_big_quiet_skip | go_big_quiet_step (fail))
            refine wpQuiet_nil ?_
            rintro _ ⟨z, rfl⟩
            have B7 := Lib.hid (bstep HBE.out HBE.out.size z.below)
            generalize z.w = Y at *
            clear z
            go_wp2_with fail
            go_ret
            exact ⟨rfl, B7.out⟩
        · have v0 : u.x.id = t.x.id := by simpa using w0
          have v1 : u.x.prog = t.x.prog := by simpa using w1
          have v2 : u.x.tex = t.x.tex := by simpa using w2
          have v3 : u.x.op = t.x.op := by simpa using w3
          have v4 : u.x.tris.length = t.x.tris.length := by
            have h5 : (u.x.tris.length : Int) = t.x.tris.length := by simpa using w4
            omega
          have HV := Lib.hid (show u.x.tris = t.x.tris → u.x = t.x from fun h => by
            obtain ⟨⟨a1, a2, a3, a4, a5⟩, _, _⟩ := u
            obtain ⟨⟨d1, d2, d3, d4, d5⟩, _, _⟩ := t
            simp only at v0 v1 v2 v3 h ⊢
            rw [v0, v1, v2, v3, h])
          go_wp2_with fail
          obtain ⟨o2, ho2⟩ : ∃ o, t.x.op = o := ⟨_, rfl⟩
          rw [v3, ho2] at y3
          rw [ho2] at z3
          clear v0 v1 v2 v3 hne ho2 e3 f3 w3
          refine wp_region_grow (by kernel_rfl) (by kernel_rfl) ?_
          try simp only [List.append_eq, List.cons_append, List.nil_append]
          repeat (first | go_big_quiet_skip | go_big_quiet_step (fail))
          refine wpQuiet_nil ?_
          rintro _ ⟨z, rfl⟩
          have B7 := Lib.hid (bstep HBE.out HBE.out.size z.below)
          generalize z.w = Y at *
          clear z y0 y1 y2 y3 y4 z0 z1 z2 z3 z4 hszu hszt ne1 w0 w1 w2 e0 e1 e2 e4 f0 f1 f2 f4 hbw hbw'
          obtain ⟨m, hm⟩ : ∃ m, u.x.tris.length = m := ⟨_, rfl⟩
          have HMu := Lib.hid hm
          have HMt := Lib.hid (v4.symm.trans hm)
          rw [hm] at hul
          clear hm w4 v4
          go_wp2_with fail
          go_loopw [6] (fun i wr => ∃ j : Nat, j ≤ m ∧ i = .int .i64 j ∧ u.x.tris.take j = t.x.tris.take j ∧ Below w.heap.size w wr) (fun i _ => m - (intOf i).toNat)
          case atStart => exact ⟨0, Nat.zero_le _, rfl, by simp, B7.out⟩
          case round =>
            rename World => wq
            obtain ⟨j, hj, rfl, hin2, hbel2⟩ := hrel
            have HK2 := Lib.hid hin2
            have HB2 := Lib.hid hbel2
            clear hin2 hbel2
            obtain ⟨-, -, -, -, e4⟩ := atD (show AtE ED wq b1 (off + k * 5) u from HAU.out.below HB2.out hbB)
            obtain ⟨-, -, -, -, f4⟩ := atD (show AtE ED wq b2 (off' + k * 5) t from HAT.out.below HB2.out hbB')
            rw [HMu.out] at e4
            rw [HMt.out] at f4
            have hbw := Nat.lt_of_lt_of_le hbB HB2.out.size
            have hbw' := Nat.lt_of_lt_of_le hbB' HB2.out.size
            by_cases hjm : j < m
            · obtain ⟨p, hp⟩ := get_lt (l := u.x.tris) (k := j) (by rw [HMu.out]; exact hjm)
              obtain ⟨q, hq⟩ := get_lt (l := t.x.tris) (k := j) (by rw [HMt.out]; exact hjm)
              obtain ⟨b3, off3, hA3, hb3, at3⟩ := HEU.out.at hp
              obtain ⟨b4, off4, hA4, hb4, at4⟩ := HET.out.at hq
              have HP := Lib.hid hp
              have HQ := Lib.hid hq
              rw [hA3] at e4
              rw [hA4] at f4
              obtain ⟨p0, p1, p2, p3⟩ := atR (show AtE ER wq b3 (off3 + j * 4) p from at3.below HB2.out hb3)
              obtain ⟨q0, q1, q2, q3⟩ := atR (show AtE ER wq b4 (off4 + j * 4) q from at4.below HB2.out hb4)
              have g4 : ∀ x : Grow wq, x.w.cell? ⟨b1, off + k * 5 + 4, none⟩ = some (.slice (some ⟨b3, off3, none⟩) m u.c) := fun x => x.cell e4
              have i4 : ∀ x : Grow wq, x.w.cell? ⟨b2, off' + k * 5 + 4, none⟩ = some (.slice (some ⟨b4, off4, none⟩) m t.c) := fun x => x.cell f4
              have g5 : ∀ x : Grow wq, x.w.cell? ⟨b3, off3 + j * 4, none⟩ = some (.int .i64 p.i) := fun x => x.cell p0
              have g6 : ∀ x : Grow wq, x.w.cell? ⟨b3, off3 + j * 4 + 1, none⟩ = some (.int .i64 p.a) := fun x => x.cell p1
              have g7 : ∀ x : Grow wq, x.w.cell? ⟨b3, off3 + j * 4 + 2, none⟩ = some (.int .i64 p.b) := fun x => x.cell p2
              have g8 : ∀ x : Grow wq, x.w.cell? ⟨b3, off3 + j * 4 + 3, none⟩ = some (.int .i64 p.c) := fun x => x.cell p3
              have i5 : ∀ x : Grow wq, x.w.cell? ⟨b4, off4 + j * 4, none⟩ = some (.int .i64 q.i) := fun x => x.cell q0
              have i6 : ∀ x : Grow wq, x.w.cell? ⟨b4, off4 + j * 4 + 1, none⟩ = some (.int .i64 q.a) := fun x => x.cell q1
              have i7 : ∀ x : Grow wq, x.w.cell? ⟨b4, off4 + j * 4 + 2, none⟩ = some (.int .i64 q.b) := fun x => x.cell q2
              have i8 : ∀ x : Grow wq, x.w.cell? ⟨b4, off4 + j * 4 + 3, none⟩ = some (.int .i64 q.c) := fun x => x.cell q3
              have hbw3 := Nat.lt_of_lt_of_le hb3 HB2.out.size
              have hbw4 := Nat.lt_of_lt_of_le hb4 HB2.out.size
              have s1 : ∀ x : Grow wq, b1 < x.w.heap.size := fun x => Nat.lt_of_lt_of_le hbw x.below.size
              have s2 : ∀ x : Grow wq, b2 < x.w.heap.size := fun x => Nat.lt_of_lt_of_le hbw' x.below.size
              have s3 : ∀ x : Grow wq, b3 < x.w.heap.size := fun x => Nat.lt_of_lt_of_le hbw3 x.below.size
              have s4 : ∀ x : Grow wq, b4 < x.w.heap.size := fun x => Nat.lt_of_lt_of_le hbw4 x.below.size
              have ne2 := Grow.ne wq
              obtain ⟨r, hr⟩ : ∃ r, sameR0 ⟨p.i, p.a, p.b, p.c⟩ ⟨q.i, q.a, q.b, q.c⟩ = r := ⟨_, rfl⟩
              have HR := Lib.hid (show sameR0 p q = r from hr)
              clear hp hq at3 at4
              go_wp2_with fail
              refine wp_region_grow (by kernel_rfl) (by kernel_rfl) ?_
              try simp only [List.append_eq, List.cons_append, List.nil_append]
              repeat (first | go_big_quiet_skip | go_big_quiet_step (fail))
              refine wpQuiet_nil ?_
              rintro _ ⟨z, rfl⟩
              have B8 := Lib.hid (bstep HB2.out HB2.out.size z.below)
              generalize z.w = Y2 at *
              clear z g4 i4 g5 g6 g7 g8 i5 i6 i7 i8 s1 s2 s3 s4 ne2 e4 f4 p0 p1 p2 p3 q0 q1 q2 q3
              cases r
              · have hpq : p ≠ q := fun e => by
                  have h5 := HR.out
                  rw [e, (sameR_iff q q).2 rfl] at h5
                  cases h5
                obtain rfl := HBAD.out fun e => hpq (by
                  have h5 := HP.out
                  rw [e, HQ.out] at h5
                  simpa using h5.symm)
                go_wp2_with fail
                go_ret
                exact ⟨rfl, B8.out⟩
              · go_wp2_with fail
                go_roundw
                case rel =>
                  refine ⟨j + 1, by omega, by go_num, ?_, B8.out⟩
                  rw [List.take_add_one, List.take_add_one, HP.out, HQ.out, HK2.out, (sameR_iff p q).1 HR.out]
                case measure => simp [intOf]; omega
            · obtain rfl : j = m := by omega
              have HEq := Lib.hid (show u.x = t.x from HV.out (by
                have h5 := HK2.out
                rwa [List.take_of_length_le (by rw [HMu.out]; omega), List.take_of_length_le (by rw [HMt.out]; omega)] at h5))
              go_wp2_with fail
              go_roundw
              case rel =>
                refine ⟨k + 1, by omega, by go_num, ?_, HB2.out⟩
                rw [take_snoc HU.out, take_snoc HT.out, List.map_append, List.map_append, HK.out, List.map_cons, List.map_cons, HEq.out]
              case measure => simp [intOf]; omega
      · go_wp2_with fail
        go_ret
        refine ⟨?_, HBE.out⟩
        have e : xs.take k = xs := List.take_of_length_le (by rw [HN.out]; omega)
        have e' : ys.take k = ys := List.take_of_length_le (by rw [HN'.out]; omega)
        have h := HK.out
        rw [e, e'] at h
        rw [HB.out.2 h]
        rfl
  · have e : b = false := by
      cases b
      · rfl
      · have h2 := congrArg List.length (HB.out.1 rfl)
        rw [List.length_map, List.length_map, HN.out, HN'.out] at h2
        exact absurd h2 hnn
    subst e
    have hnn2 : ¬ (n : Int) = n' := by omega
    go_enter Tryz.func22, Tryz.ntmps22
    go_wp2_with fail
    go_ret
    exact ⟨rfl, Below.refl _ _⟩
end Go.Proofs.YtfmmfaeognoleaaGreat
/-
  Whether two scenes are the same (glazierref14.Same).
-/
namespace Go.Proofs.YtfmmfaeognoleaaGreat
open Go.RowKit
attribute [local go_sem ↓] Go.wp_at_zero Go.wp_at_succ
attribute [local go_sem high] neqC0
attribute [local go_sem] guardC0

theorem nat_bne {a b : Nat} (h : a = b) : ((a : Int) != b) = false := by subst h; simp
theorem nat_bne2 {a b : Nat} (h : a ≠ b) : ((a : Int) != b) = true := by simp; omega
theorem lo_take {α : Type} {xs ys : List (Lo α)} {k : Nat} {u t : Lo α} (hu : xs[k]? = some u) (ht : ys[k]? = some t) (h : (xs.take k).map Lo.x = (ys.take k).map Lo.x) (e : u.x = t.x) : (xs.take (k + 1)).map Lo.x = (ys.take (k + 1)).map Lo.x := by
  rw [take_snoc hu, take_snoc ht, List.map_append, List.map_append, h, List.map_cons, List.map_cons, e]
theorem lo_ne {α : Type} {xs ys : List (Lo α)} {k : Nat} {u t : Lo α} (hu : xs[k]? = some u) (ht : ys[k]? = some t) (e : u.x ≠ t.x) : xs.map Lo.x ≠ ys.map Lo.x := fun h => by
  have h3 : (xs.map Lo.x)[k]? = (ys.map Lo.x)[k]? := by rw [h]
  rw [List.getElem?_map, List.getElem?_map, hu, ht] at h3
  exact e (by simpa using h3)
theorem exB {p : Prop} : ∃ b : Bool, b = true ↔ p := by
  by_cases h : p
  · exact ⟨true, by simp [h]⟩
  · exact ⟨false, by simp [h]⟩
set_option maxRecDepth 100000 in
set_option maxHeartbeats 8000000 in
theorem same_any (a b : Sc) (w : World) (ha : a.at w w.heap.size) (hb : b.at w w.heap.size) (fa : a.few) (r : Bool) (hr : r = true ↔ a.p = b.p) :
    Calls Tryz.prog 12 #[.agg #[.int .i64 a.w, .int .i64 a.h, .int .u8 a.k.r, .int .u8 a.k.g, .int .u8 a.k.b, .int .u8 a.k.a, .slice a.vA a.vs.length a.vc, .slice a.tA a.ts.length a.tc, .slice a.pA a.ps.length a.pc, .slice a.dA a.ds.length a.dc], .agg #[.int .i64 b.w, .int .i64 b.h, .int .u8 b.k.r, .int .u8 b.k.g, .int .u8 b.k.b, .int .u8 b.k.a, .slice b.vA b.vs.length b.vc, .slice b.tA b.ts.length b.tc, .slice b.pA b.ps.length b.pc, .slice b.dA b.ds.length b.dc]] w fun e w' => e = .returned (.bool r) ∧ Below w.heap.size w w' := by
  have hb0 := bstep (new_below w (.cells #[.int .i64 a.w, .int .i64 a.h, .int .u8 a.k.r, .int .u8 a.k.g, .int .u8 a.k.b, .int .u8 a.k.a, .slice a.vA a.vs.length a.vc, .slice a.tA a.ts.length a.tc, .slice a.pA a.ps.length a.pc, .slice a.dA a.ds.length a.dc] 29)) (by simp) (new_below (w.alloc (.cells #[.int .i64 a.w, .int .i64 a.h, .int .u8 a.k.r, .int .u8 a.k.g, .int .u8 a.k.b, .int .u8 a.k.a, .slice a.vA a.vs.length a.vc, .slice a.tA a.ts.length a.tc, .slice a.pA a.ps.length a.pc, .slice a.dA a.ds.length a.dc] 29)) (.cells #[.int .i64 b.w, .int .i64 b.h, .int .u8 b.k.r, .int .u8 b.k.g, .int .u8 b.k.b, .int .u8 b.k.a, .slice b.vA b.vs.length b.vc, .slice b.tA b.ts.length b.tc, .slice b.pA b.ps.length b.pc, .slice b.dA b.ds.length b.dc] 29))
  have HA0 := Lib.hid (show ((w.alloc (.cells #[.int .i64 a.w, .int .i64 a.h, .int .u8 a.k.r, .int .u8 a.k.g, .int .u8 a.k.b, .int .u8 a.k.a, .slice a.vA a.vs.length a.vc, .slice a.tA a.ts.length a.tc, .slice a.pA a.ps.length a.pc, .slice a.dA a.ds.length a.dc] 29)).alloc (.cells #[.int .i64 b.w, .int .i64 b.h, .int .u8 b.k.r, .int .u8 b.k.g, .int .u8 b.k.b, .int .u8 b.k.a, .slice b.vA b.vs.length b.vc, .slice b.tA b.ts.length b.tc, .slice b.pA b.ps.length b.pc, .slice b.dA b.ds.length b.dc] 29)).heap[w.heap.size]? = some (scB a) from (heap_alloc_old _ _ (by simp)).trans (heap_alloc_new _ _))
  have HC0 := Lib.hid (show ((w.alloc (.cells #[.int .i64 a.w, .int .i64 a.h, .int .u8 a.k.r, .int .u8 a.k.g, .int .u8 a.k.b, .int .u8 a.k.a, .slice a.vA a.vs.length a.vc, .slice a.tA a.ts.length a.tc, .slice a.pA a.ps.length a.pc, .slice a.dA a.ds.length a.dc] 29)).alloc (.cells #[.int .i64 b.w, .int .i64 b.h, .int .u8 b.k.r, .int .u8 b.k.g, .int .u8 b.k.b, .int .u8 b.k.a, .slice b.vA b.vs.length b.vc, .slice b.tA b.ts.length b.tc, .slice b.pA b.ps.length b.pc, .slice b.dA b.ds.length b.dc] 29)).heap[w.heap.size + 1]? = some (scB b) from by have h := heap_alloc_new (w.alloc (.cells #[.int .i64 a.w, .int .i64 a.h, .int .u8 a.k.r, .int .u8 a.k.g, .int .u8 a.k.b, .int .u8 a.k.a, .slice a.vA a.vs.length a.vc, .slice a.tA a.ts.length a.tc, .slice a.pA a.ps.length a.pc, .slice a.dA a.ds.length a.dc] 29)) (.cells #[.int .i64 b.w, .int .i64 b.h, .int .u8 b.k.r, .int .u8 b.k.g, .int .u8 b.k.b, .int .u8 b.k.a, .slice b.vA b.vs.length b.vc, .slice b.tA b.ts.length b.tc, .slice b.pA b.ps.length b.pc, .slice b.dA b.ds.length b.dc] 29); rwa [World.size_alloc] at h)
  have HB0 := Lib.hid hb0
  have HEA := Lib.hid ha
  have HEB := Lib.hid hb
  have HFA := Lib.hid fa
  have HBad := Lib.hid (show a.p ≠ b.p → r = false from fun h => by
    cases r
    · rfl
    · exact absurd (hr.1 rfl) h)
  have HGood := Lib.hid (show a.w = b.w → a.h = b.h → a.k = b.k → a.vs = b.vs → a.ds.map Lo.x = b.ds.map Lo.x → a.ts.map Lo.x = b.ts.map Lo.x → a.ps.map Lo.x = b.ps.map Lo.x → r = true from fun h1 h2 h3 h4 h5 h6 h7 => hr.2 (by
    show (⟨_, _, _, _, _, _, _⟩ : PS) = ⟨_, _, _, _, _, _, _⟩
    rw [h1, h2, h3, h4, h5, h6, h7]))
  obtain ⟨r1, hr1⟩ := exB (p := a.vs = b.vs)
  obtain ⟨r2, hr2⟩ := exB (p := a.ds.map Lo.x = b.ds.map Lo.x)
  have HR1 := Lib.hid hr1
  have HR2 := Lib.hid hr2
  clear ha hb fa hr hb0 hr1 hr2
  go_enter Tryz.func12, Tryz.ntmps12
  go_upto_region 1 with fail
  obtain ⟨t, ht⟩ : ∃ t, (w.alloc (.cells #[.int .i64 a.w, .int .i64 a.h, .int .u8 a.k.r, .int .u8 a.k.g, .int .u8 a.k.b, .int .u8 a.k.a, .slice a.vA a.vs.length a.vc, .slice a.tA a.ts.length a.tc, .slice a.pA a.ps.length a.pc, .slice a.dA a.ds.length a.dc] 29)).alloc (.cells #[.int .i64 b.w, .int .i64 b.h, .int .u8 b.k.r, .int .u8 b.k.g, .int .u8 b.k.b, .int .u8 b.k.a, .slice b.vA b.vs.length b.vc, .slice b.tA b.ts.length b.tc, .slice b.pA b.ps.length b.pc, .slice b.dA b.ds.length b.dc] 29) = t := ⟨_, rfl⟩
  rw [ht] at HA0 HC0 HB0
  rw [ht]
  clear ht
  have la := scB_lt HA0.out
  have lb := scB_lt HC0.out
  have H1 := Lib.hid (sameV_any a.vA b.vA a.vc b.vc a.vs b.vs t ((HEA.out.v.below HB0.out).sharp) ((HEB.out.v.below HB0.out).sharp) HFA.out.vs r1 HR1.out)
  obtain ⟨-, -, -, -, -, -, a6, -⟩ := scB_cell HA0.out
  obtain ⟨-, -, -, -, -, -, b6, -⟩ := scB_cell HC0.out
  go_wp2_with fail
  with_reducible refine (H1.out).mono ?_
  rintro e w1 ⟨rfl, hb1⟩
  have HA1 := Lib.hid (scB_keep HA0.out hb1 la)
  have HC1 := Lib.hid (scB_keep HC0.out hb1 lb)
  have HB1 := Lib.hid (bstep HB0.out HB0.out.size hb1)
  clear hb1 H1 a6 b6 HA0 HC0 HB0 la lb
  have la := scB_lt HA1.out
  have lb := scB_lt HC1.out
  have H2 := Lib.hid (draws_any a.dA b.dA a.dc b.dc a.ds b.ds w1 ((HEA.out.d.below HB1.out).sharp) ((HEB.out.d.below HB1.out).sharp) (fun l hl => ((HEA.out.dx l hl).below HB1.out).sharp) (fun l hl => ((HEB.out.dx l hl).below HB1.out).sharp) HFA.out.ds HFA.out.dx r2 HR2.out)
  obtain ⟨-, -, -, -, -, -, -, -, -, a9⟩ := scB_cell HA1.out
  obtain ⟨-, -, -, -, -, -, -, -, -, b9⟩ := scB_cell HC1.out
  go_wp2_with fail
  with_reducible refine (H2.out).mono ?_
  rintro e w2 ⟨rfl, hb2⟩
  have HA2 := Lib.hid (scB_keep HA1.out hb2 la)
  have HC2 := Lib.hid (scB_keep HC1.out hb2 lb)
  have HB2 := Lib.hid (bstep HB1.out HB1.out.size hb2)
  clear hb2 H2 a9 b9 HA1 HC1 HB1 la lb
  have la := scB_lt HA2.out
  have lb := scB_lt HC2.out
  obtain ⟨a0, a1, a2, a3, a4, a5, -, a7, a8, -⟩ := scB_cell HA2.out
  obtain ⟨b0, b1, b2, b3, b4, b5, -, b7, b8, -⟩ := scB_cell HC2.out
  obtain ⟨rk, hrk⟩ : ∃ x, sameC0 ⟨a.k.r, a.k.g, a.k.b, a.k.a⟩ ⟨b.k.r, b.k.g, b.k.b, b.k.a⟩ = x := ⟨_, rfl⟩
  have HRK := Lib.hid (show rk = true ↔ a.k = b.k from by rw [← hrk]; exact sameC_iff a.k b.k)
  by_cases e0 : a.w = b.w
  rotate_left
  · have d0 : (a.w != b.w) = true := by simpa using e0
    obtain rfl := HBad.out fun e => e0 (congrArg PS.w e)
    go_wp2_with fail
    go_ret
    exact ⟨rfl, HB2.out⟩
  have d0 : (a.w != b.w) = false := by simpa using e0
  by_cases e1 : a.h = b.h
  rotate_left
  · have d1 : (a.h != b.h) = true := by simpa using e1
    obtain rfl := HBad.out fun e => e1 (congrArg PS.h e)
    go_wp2_with fail
    go_ret
    exact ⟨rfl, HB2.out⟩
  have d1 : (a.h != b.h) = false := by simpa using e1
  cases rk
  · obtain rfl := HBad.out fun e => by have := HRK.out.2 (congrArg PS.k e); cases this
    go_wp2_with fail
    go_ret
    exact ⟨rfl, HB2.out⟩
  cases r1
  · obtain rfl := HBad.out fun e => by have := HR1.out.2 (congrArg PS.vs e); cases this
    go_wp2_with fail
    go_ret
    exact ⟨rfl, HB2.out⟩
  cases r2
  · obtain rfl := HBad.out fun e => by have := HR2.out.2 (congrArg PS.ds e); cases this
    go_wp2_with fail
    go_ret
    exact ⟨rfl, HB2.out⟩
  by_cases e5 : a.ts.length = b.ts.length
  rotate_left
  · have d5 := nat_bne2 e5
    obtain rfl := HBad.out fun e => e5 (by have := congrArg (fun p => p.ts.length) e; simpa [Sc.p] using this)
    go_wp2_with fail
    go_ret
    exact ⟨rfl, HB2.out⟩
  have d5 := nat_bne e5
  by_cases e6 : a.ps.length = b.ps.length
  rotate_left
  · have d6 := nat_bne2 e6
    obtain rfl := HBad.out fun e => e6 (by have := congrArg (fun p => p.ps.length) e; simpa [Sc.p] using this)
    go_wp2_with fail
    go_ret
    exact ⟨rfl, HB2.out⟩
  have d6 := nat_bne e6
  have HN5 := Lib.hid e5
  have HN6 := Lib.hid e6
  obtain ⟨n, hn⟩ : ∃ n, a.ts.length = n := ⟨_, rfl⟩
  obtain ⟨m, hm⟩ : ∃ m, a.ps.length = m := ⟨_, rfl⟩
  have hn' := e5.symm.trans hn
  have hm' := e6.symm.trans hm
  have hn3 : n ≤ 100000 := by rw [← hn]; exact HFA.out.ts
  have hm3 : m ≤ 100000 := by rw [← hm]; exact HFA.out.ps
  rw [hn, hn'] at d5
  rw [hm, hm'] at d6
  rw [hn] at a7
  rw [hn'] at b7
  rw [hm] at a8
  rw [hm'] at b8
  have HE0 := Lib.hid (And.intro e0 e1)
  clear e5 e6 e0 e1
  go_wp2_with fail
  clear d0 d1 d5 d6 a0 a1 a2 a3 a4 a5 a7 a8 b0 b1 b2 b3 b4 b5 b7 b8 hrk
  go_loopw [7] (fun i wr => ∃ k : Nat, k ≤ n ∧ i = .int .i64 k ∧ (a.ts.take k).map Lo.x = (b.ts.take k).map Lo.x ∧ Below w2.heap.size w2 wr) (fun i _ => n - (intOf i).toNat)
  case atStart => exact ⟨0, Nat.zero_le _, rfl, by simp, Below.refl _ _⟩
  case round =>
    obtain ⟨k, hk, rfl, hin, hbel⟩ := hrel
    have HK := Lib.hid hin
    have HBE := Lib.hid hbel
    clear hin hbel
    have HBw := Lib.hid (bstep HB2.out HB2.out.size HBE.out)
    have hsa : w.heap.size < wr.heap.size := Nat.lt_of_lt_of_le la HBE.out.size
    have hsb : w.heap.size + 1 < wr.heap.size := Nat.lt_of_lt_of_le lb HBE.out.size
    obtain ⟨-, -, -, -, -, -, -, ca, -⟩ := scB_cell (scB_keep HA2.out HBE.out la)
    obtain ⟨-, -, -, -, -, -, -, cb, -⟩ := scB_cell (scB_keep HC2.out HBE.out lb)
    rw [hn] at ca
    rw [hn'] at cb
    by_cases hlt : k < n
    · obtain ⟨u, hu⟩ := get_lt (l := a.ts) (k := k) (by rw [hn]; exact hlt)
      obtain ⟨t', ht'⟩ := get_lt (l := b.ts) (k := k) (by rw [hn']; exact hlt)
      obtain ⟨b1, off, hA1, hbB, hat⟩ := HEA.out.t.at hu
      obtain ⟨b2, off', hA2, hbB', hat'⟩ := HEB.out.t.at ht'
      have HU := Lib.hid hu
      have HT := Lib.hid ht'
      have HEu := Lib.hid ((HEA.out.tx u (List.mem_of_getElem? hu)).below HBw.out)
      have HEt := Lib.hid ((HEB.out.tx t' (List.mem_of_getElem? ht')).below HBw.out)
      have hul := HFA.out.tx u (List.mem_of_getElem? hu)
      rw [hA1] at ca
      rw [hA2] at cb
      replace hA1 := Lib.hid hA1
      replace hA2 := Lib.hid hA2
      obtain ⟨p0, p1, p2⟩ := atT (show AtE ET wr b1 (off + k * 3) u from hat.below HBw.out hbB)
      obtain ⟨q0, q1, q2⟩ := atT (show AtE ET wr b2 (off' + k * 3) t' from hat'.below HBw.out hbB')
      have hbw := Nat.lt_of_lt_of_le hbB HBw.out.size
      have hbw' := Nat.lt_of_lt_of_le hbB' HBw.out.size
      have y1 : ∀ x : Grow wr, x.w.cell? ⟨w.heap.size, 7, none⟩ = some (.slice (some ⟨b1, off, none⟩) n a.tc) := fun x => x.cell ca
      have y2 : ∀ x : Grow wr, x.w.cell? ⟨w.heap.size + 1, 7, none⟩ = some (.slice (some ⟨b2, off', none⟩) n b.tc) := fun x => x.cell cb
      have y3 : ∀ x : Grow wr, x.w.cell? ⟨b1, off + k * 3 + 2, none⟩ = some (.slice u.A u.x.px.length u.c) := fun x => x.cell p2
      have y4 : ∀ x : Grow wr, x.w.cell? ⟨b2, off' + k * 3 + 2, none⟩ = some (.slice t'.A t'.x.px.length t'.c) := fun x => x.cell q2
      have s1 : ∀ x : Grow wr, w.heap.size < x.w.heap.size := fun x => Nat.lt_of_lt_of_le hsa x.below.size
      have s2 : ∀ x : Grow wr, w.heap.size + 1 < x.w.heap.size := fun x => Nat.lt_of_lt_of_le hsb x.below.size
      have s3 : ∀ x : Grow wr, b1 < x.w.heap.size := fun x => Nat.lt_of_lt_of_le hbw x.below.size
      have s4 : ∀ x : Grow wr, b2 < x.w.heap.size := fun x => Nat.lt_of_lt_of_le hbw' x.below.size
      have ne1 := Grow.ne wr
      obtain ⟨r3, hr3⟩ := exB (p := u.x.px = t'.x.px)
      have H3 := Lib.hid (fun x : Grow wr => sameC_any u.A t'.A u.c t'.c u.x.px t'.x.px x.w ((HEu.out.more HBw.out.size).sharp.below (x.below.mono (Nat.le_refl _)) |>.sharp) ((HEt.out.more HBw.out.size).sharp.below x.below |>.sharp) hul r3 hr3)
      have HR3 := Lib.hid hr3
      clear hu ht' hat hat' hr3 hul
      go_wp2_with fail
      refine wp_region_grow (by kernel_rfl) (by kernel_rfl) ?_
      try simp only [List.append_eq, List.cons_append, List.nil_append]
      repeat (first | go_big_quiet_skip | go_big_quiet_step ((go_at_call 23; with_reducible exact Grow.calls (H3.out _))))
      refine wpQuiet_nil ?_
      rintro _ ⟨z, rfl⟩
      have HBY := Lib.hid (bstep HBE.out HBE.out.size z.below)
      have KY := Lib.hid z.below
      generalize z.w = Y at *
      clear z y1 y2 y3 y4 s1 s2 s3 s4 ne1 H3
      have y1 : ∀ x : Grow Y, x.w.cell? ⟨w.heap.size, 7, none⟩ = some (.slice (some ⟨b1, off, none⟩) n a.tc) := fun x => x.cell ((KY.out.cell (p := ⟨w.heap.size, 7, none⟩) hsa).trans ca)
      have y2 : ∀ x : Grow Y, x.w.cell? ⟨w.heap.size + 1, 7, none⟩ = some (.slice (some ⟨b2, off', none⟩) n b.tc) := fun x => x.cell ((KY.out.cell (p := ⟨w.heap.size + 1, 7, none⟩) hsb).trans cb)
      have y3 : ∀ x : Grow Y, x.w.cell? ⟨b1, off + k * 3, none⟩ = some (.int .i64 u.x.w) := fun x => x.cell ((KY.out.cell (p := ⟨b1, off + k * 3, none⟩) hbw).trans p0)
      have y4 : ∀ x : Grow Y, x.w.cell? ⟨b1, off + k * 3 + 1, none⟩ = some (.int .i64 u.x.h) := fun x => x.cell ((KY.out.cell (p := ⟨b1, off + k * 3 + 1, none⟩) hbw).trans p1)
      have y5 : ∀ x : Grow Y, x.w.cell? ⟨b2, off' + k * 3, none⟩ = some (.int .i64 t'.x.w) := fun x => x.cell ((KY.out.cell (p := ⟨b2, off' + k * 3, none⟩) hbw').trans q0)
      have y6 : ∀ x : Grow Y, x.w.cell? ⟨b2, off' + k * 3 + 1, none⟩ = some (.int .i64 t'.x.h) := fun x => x.cell ((KY.out.cell (p := ⟨b2, off' + k * 3 + 1, none⟩) hbw').trans q1)
      have s1 : ∀ x : Grow Y, w.heap.size < x.w.heap.size := fun x => Nat.lt_of_lt_of_le (Nat.lt_of_lt_of_le hsa KY.out.size) x.below.size
      have s2 : ∀ x : Grow Y, w.heap.size + 1 < x.w.heap.size := fun x => Nat.lt_of_lt_of_le (Nat.lt_of_lt_of_le hsb KY.out.size) x.below.size
      have s3 : ∀ x : Grow Y, b1 < x.w.heap.size := fun x => Nat.lt_of_lt_of_le (Nat.lt_of_lt_of_le hbw KY.out.size) x.below.size
      have s4 : ∀ x : Grow Y, b2 < x.w.heap.size := fun x => Nat.lt_of_lt_of_le (Nat.lt_of_lt_of_le hbw' KY.out.size) x.below.size
      have ne1 := Grow.ne Y
      have HBT := Lib.hid (show u.x ≠ t'.x → r = false from fun h => HBad.out fun e => lo_ne HU.out HT.out h (congrArg PS.ts e))
      clear p0 p1 p2 q0 q1 q2 ca cb
      cases r3
      · obtain rfl := HBT.out fun e => by have := HR3.out.2 (congrArg Tx.px e); cases this
        go_wp2_with fail
        refine wp_region_grow (by kernel_rfl) (by kernel_rfl) ?_
        try simp only [List.append_eq, List.cons_append, List.nil_append]
        repeat (first | go_big_quiet_skip | go_big_quiet_step (fail))
        refine wpQuiet_nil ?_
        rintro _ ⟨z, rfl⟩
        have B8 := Lib.hid (bstep HB2.out HB2.out.size (bstep HBY.out HBY.out.size z.below))
        generalize z.w = Z at *
        clear z
        go_wp2_with fail
        go_ret
        exact ⟨rfl, B8.out⟩
      by_cases w0 : u.x.w = t'.x.w
      rotate_left
      · have v0 : (u.x.w != t'.x.w) = true := by simpa using w0
        obtain rfl := HBT.out fun e => w0 (congrArg Tx.w e)
        go_wp2_with fail
        refine wp_region_grow (by kernel_rfl) (by kernel_rfl) ?_
        try simp only [List.append_eq, List.cons_append, List.nil_append]
        repeat (first | go_big_quiet_skip | go_big_quiet_step (fail))
        refine wpQuiet_nil ?_
        rintro _ ⟨z, rfl⟩
        have B8 := Lib.hid (bstep HB2.out HB2.out.size (bstep HBY.out HBY.out.size z.below))
        generalize z.w = Z at *
        clear z
        go_wp2_with fail
        go_ret
        exact ⟨rfl, B8.out⟩
      have v0 : (u.x.w != t'.x.w) = false := by simpa using w0
      by_cases w1' : u.x.h = t'.x.h
      rotate_left
      · have v1 : (u.x.h != t'.x.h) = true := by simpa using w1'
        obtain rfl := HBT.out fun e => w1' (congrArg Tx.h e)
        go_wp2_with fail
        refine wp_region_grow (by kernel_rfl) (by kernel_rfl) ?_
        try simp only [List.append_eq, List.cons_append, List.nil_append]
        repeat (first | go_big_quiet_skip | go_big_quiet_step (fail))
        refine wpQuiet_nil ?_
        rintro _ ⟨z, rfl⟩
        have B8 := Lib.hid (bstep HB2.out HB2.out.size (bstep HBY.out HBY.out.size z.below))
        generalize z.w = Z at *
        clear z
        go_wp2_with fail
        go_ret
        exact ⟨rfl, B8.out⟩
      have v1 : (u.x.h != t'.x.h) = false := by simpa using w1'
      have HXe := Lib.hid (show u.x = t'.x from by
        have h5 := HR3.out.1 rfl
        obtain ⟨⟨x1, x2, x3⟩, _, _⟩ := u
        obtain ⟨⟨z1, z2, z3⟩, _, _⟩ := t'
        simp only at w0 w1' h5 ⊢
        rw [w0, w1', h5])
      clear w0 w1'
      go_wp2_with fail
      refine wp_region_grow (by kernel_rfl) (by kernel_rfl) ?_
      try simp only [List.append_eq, List.cons_append, List.nil_append]
      repeat (first | go_big_quiet_skip | go_big_quiet_step (fail))
      refine wpQuiet_nil ?_
      rintro _ ⟨z, rfl⟩
      have B8 := Lib.hid (bstep HBY.out HBY.out.size z.below)
      generalize z.w = Z at *
      clear z
      go_wp2_with fail
      go_roundw
      case rel => exact ⟨k + 1, by omega, by go_num, lo_take HU.out HT.out HK.out HXe.out, B8.out⟩
      case measure => simp [intOf]; omega
    · obtain rfl : k = n := by omega
      have HTs := Lib.hid (show a.ts.map Lo.x = b.ts.map Lo.x from by
        have h5 := HK.out
        rwa [List.take_of_length_le (by omega), List.take_of_length_le (by omega)] at h5)
      go_wp2_with fail
      go_loopw [9] (fun i wr => ∃ k : Nat, k ≤ m ∧ i = .int .i64 k ∧ (a.ps.take k).map Lo.x = (b.ps.take k).map Lo.x ∧ Below w2.heap.size w2 wr) (fun i _ => m - (intOf i).toNat)
      case atStart => exact ⟨0, Nat.zero_le _, rfl, by simp, HBE.out⟩
      case round =>
        rename World => wq
        obtain ⟨j, hj, rfl, hin, hbel⟩ := hrel
        have HKq := Lib.hid hin
        have HBq := Lib.hid hbel
        clear hin hbel
        have HBv := Lib.hid (bstep HB2.out HB2.out.size HBq.out)
        have hsa : w.heap.size < wq.heap.size := Nat.lt_of_lt_of_le la HBq.out.size
        have hsb : w.heap.size + 1 < wq.heap.size := Nat.lt_of_lt_of_le lb HBq.out.size
        obtain ⟨-, -, -, -, -, -, -, -, ca, -⟩ := scB_cell (scB_keep HA2.out HBq.out la)
        obtain ⟨-, -, -, -, -, -, -, -, cb, -⟩ := scB_cell (scB_keep HC2.out HBq.out lb)
        rw [hm] at ca
        rw [hm'] at cb
        by_cases hjm : j < m
        · obtain ⟨u, hu⟩ := get_lt (l := a.ps) (k := j) (by rw [hm]; exact hjm)
          obtain ⟨t', ht'⟩ := get_lt (l := b.ps) (k := j) (by rw [hm']; exact hjm)
          obtain ⟨b1, off, hA1, hbB, hat⟩ := HEA.out.p.at hu
          obtain ⟨b2, off', hA2, hbB', hat'⟩ := HEB.out.p.at ht'
          have HU := Lib.hid hu
          have HT := Lib.hid ht'
          have HEu := Lib.hid ((HEA.out.px u (List.mem_of_getElem? hu)).below HBv.out)
          have HEt := Lib.hid ((HEB.out.px t' (List.mem_of_getElem? ht')).below HBv.out)
          have hul := HFA.out.px u (List.mem_of_getElem? hu)
          rw [hA1] at ca
          rw [hA2] at cb
          replace hA1 := Lib.hid hA1
          replace hA2 := Lib.hid hA2
          have p2 := atP (show AtE EP wq b1 (off + j * 1) u from hat.below HBv.out hbB)
          have q2 := atP (show AtE EP wq b2 (off' + j * 1) t' from hat'.below HBv.out hbB')
          rw [Nat.mul_one] at p2 q2
          have hbw := Nat.lt_of_lt_of_le hbB HBv.out.size
          have hbw' := Nat.lt_of_lt_of_le hbB' HBv.out.size
          have y1 : ∀ x : Grow wq, x.w.cell? ⟨w.heap.size, 8, none⟩ = some (.slice (some ⟨b1, off, none⟩) m a.pc) := fun x => x.cell ca
          have y2 : ∀ x : Grow wq, x.w.cell? ⟨w.heap.size + 1, 8, none⟩ = some (.slice (some ⟨b2, off', none⟩) m b.pc) := fun x => x.cell cb
          have y3 : ∀ x : Grow wq, x.w.cell? ⟨b1, off + j, none⟩ = some (.slice u.A u.x.length u.c) := fun x => x.cell p2
          have y4 : ∀ x : Grow wq, x.w.cell? ⟨b2, off' + j, none⟩ = some (.slice t'.A t'.x.length t'.c) := fun x => x.cell q2
          have s1 : ∀ x : Grow wq, w.heap.size < x.w.heap.size := fun x => Nat.lt_of_lt_of_le hsa x.below.size
          have s2 : ∀ x : Grow wq, w.heap.size + 1 < x.w.heap.size := fun x => Nat.lt_of_lt_of_le hsb x.below.size
          have s3 : ∀ x : Grow wq, b1 < x.w.heap.size := fun x => Nat.lt_of_lt_of_le hbw x.below.size
          have s4 : ∀ x : Grow wq, b2 < x.w.heap.size := fun x => Nat.lt_of_lt_of_le hbw' x.below.size
          have ne1 := Grow.ne wq
          obtain ⟨r3, hr3⟩ := exB (p := u.x = t'.x)
          have H3 := Lib.hid (fun x : Grow wq => sameI_any u.A t'.A u.c t'.c u.x t'.x x.w ((HEu.out.more HBv.out.size).sharp.below x.below |>.sharp) ((HEt.out.more HBv.out.size).sharp.below x.below |>.sharp) hul r3 hr3)
          have HR3 := Lib.hid hr3
          clear hu ht' hat hat' hr3 hul
          go_wp2_with fail
          refine wp_region_grow (by kernel_rfl) (by kernel_rfl) ?_
          try simp only [List.append_eq, List.cons_append, List.nil_append]
          repeat (first | go_big_quiet_skip | go_big_quiet_step ((go_at_call 24; with_reducible exact Grow.calls (H3.out _))))
          refine wpQuiet_nil ?_
          rintro _ ⟨z, rfl⟩
          have HBY := Lib.hid (bstep HBq.out HBq.out.size z.below)
          generalize z.w = Y at *
          clear z y1 y2 y3 y4 s1 s2 s3 s4 ne1 H3 p2 q2 ca cb
          cases r3
          · obtain rfl := HBad.out fun e => lo_ne HU.out HT.out (fun h => by have := HR3.out.2 h; cases this) (congrArg PS.ps e)
            go_wp2_with fail
            go_ret
            exact ⟨rfl, bstep HB2.out HB2.out.size HBY.out⟩
          · go_wp2_with fail
            go_roundw
            case rel => exact ⟨j + 1, by omega, by go_num, lo_take HU.out HT.out HKq.out (HR3.out.1 rfl), HBY.out⟩
            case measure => simp [intOf]; omega
        · obtain rfl : j = m := by omega
          have HPs := Lib.hid (show a.ps.map Lo.x = b.ps.map Lo.x from by
            have h5 := HKq.out
            rwa [List.take_of_length_le (by omega), List.take_of_length_le (by omega)] at h5)
          obtain rfl := HGood.out HE0.out.1 HE0.out.2 (HRK.out.1 (by simp)) (HR1.out.1 (by simp)) (HR2.out.1 (by simp)) HTs.out HPs.out
          go_wp2_with fail
          go_ret
          exact ⟨rfl, HBv.out⟩
end Go.Proofs.YtfmmfaeognoleaaGreat
/-
  Worlds that are as one was but for some blocks, and for what is new.
-/
namespace Go.Proofs.YtfmmfaeognoleaaGreat
open Go.RowKit

def Om (M : Nat → Prop) (Y w : World) : Prop := Y.heap.size ≤ w.heap.size ∧ ∀ b, b < Y.heap.size → ¬ M b → w.heap[b]? = Y.heap[b]?
section
variable {M : Nat → Prop} {Y w w' : World}
theorem om_refl (M : Nat → Prop) (Y : World) : Om M Y Y := ⟨Nat.le_refl _, fun _ _ _ => rfl⟩
theorem om_drew (M : Nat → Prop) (Y : World) : Om M Y Y.drew := ⟨Nat.le_refl _, fun _ _ _ => rfl⟩
theorem Om.bel (h : Om M Y w) (hb : Below Y.heap.size w w') : Om M Y w' := ⟨Nat.le_trans h.1 hb.size, fun b h1 h2 => (hb.block b h1).trans (h.2 b h1 h2)⟩
theorem Om.alloc (h : Om M Y w) (o : Obj) : Om M Y (w.alloc o) := h.bel ((Below.refl _ _).alloc h.1 o)
theorem Om.grown {row : Option Nat} (h : Om M Y w) (hg : w.grownBy w' row) (hr : ∀ r, row = some r → M r ∨ Y.heap.size ≤ r) : Om M Y w' :=
  ⟨Nat.le_trans h.1 hg.size, fun b h1 h2 => (hg.block b (Nat.lt_of_lt_of_le h1 h.1) (fun e => by
    rcases hr b e.symm with h3 | h3
    · exact h2 h3
    · omega)).trans (h.2 b h1 h2)⟩
theorem Om.set {g o : Nat} {u : Value} (h : Om M Y w) (hg : M g ∨ Y.heap.size ≤ g) : Om M Y (w.setCell ⟨g, o, none⟩ u) := ⟨by simpa using h.1, fun b h1 h2 => by
  rw [heap_setCell_other _ _ _ _ (by
    intro e
    have e : b = g := by simpa using e
    subst e
    rcases hg with h3 | h3
    · exact h2 h3
    · omega)]
  exact h.2 b h1 h2⟩
theorem Om.cell {b o : Nat} {v : Value} (h : Om M Y w) (hc : Y.cell? ⟨b, o, none⟩ = some v) (hM : ¬ M b) : w.cell? ⟨b, o, none⟩ = some v := by
  rw [World.cell?_of_block (a := ⟨b, o, none⟩) (h.2 b (World.block_lt_of_cell? _ _ hc) hM), hc]
end
end Go.Proofs.YtfmmfaeognoleaaGreat
