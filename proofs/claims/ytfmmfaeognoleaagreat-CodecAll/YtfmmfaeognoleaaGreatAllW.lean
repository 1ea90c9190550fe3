/-
  The walk of glazierlaw15.CodecAll.
-/
import Derived.Test.YtfmmfaeognoleaaGreatM14
import Derived.Test.YtfmmfaeognoleaaGreatM15
import Derived.Test.YtfmmfaeognoleaaGreatM12
namespace Go.Proofs.YtfmmfaeognoleaaGreat
open Go.RowKit
attribute [local go_sem ↓] Go.wp_at_zero Go.wp_at_succ

theorem slice_bytes (A : Option Addr) (n c k : Nat) (hk : k ≤ c) (W : World) :
    (Instr.slice 30 (.slice A n c) none (some (.int .i64 k)) none).run Tryz.prog W = .ok (.slice A k c) W := by
  go_simp
/-- What either Put answers, as one value: a slice that reads R, and the error. -/
theorem putA_one {c : Int} {bs : List Int} {w : World} {e : Ending} {w' : World} (h : PutA c bs w e w') :
    ∃ A k, e = .returned (.tuple #[.slice A (if c = 0 then bs else []).length k, .int .i64 c]) ∧ P.Sl .u8 w' w'.heap.size A (if c = 0 then bs else []) ∧ Below w.heap.size w w' := by
  obtain ⟨hb, ⟨h0, rfl⟩ | ⟨rfl, v, rfl, ho⟩⟩ := h
  · rw [if_neg h0]
    exact ⟨none, 0, rfl, P.Sl.none_, hb⟩
  · obtain ⟨A, k, rfl, -, -, hs⟩ := ho.sl
    rw [if_pos rfl]
    exact ⟨A, k, rfl, hs, hb⟩
theorem bel_drewN {B : Nat} {a u : World} (h : Below B a u) (n : Nat) : Below B a (u.drewN n) := ⟨h.os, h.tape, h.output, h.size, h.block⟩
theorem putA_calls {f args} {c : Int} {bs R : List Int} {w : World} (h : Calls Tryz.prog f args w (PutA c bs w)) (hR : (if c = 0 then bs else []) = R) :
    Calls Tryz.prog f args w fun e w' => ∃ A k, e = .returned (.tuple #[.slice A R.length k, .int .i64 c]) ∧ P.Sl .u8 w' w'.heap.size A R ∧ Below w.heap.size w w' :=
  h.mono fun e w' h => by rw [← hR]; exact putA_one h
set_option maxRecDepth 100000 in
set_option maxHeartbeats 16000000 in
theorem all_in (s : Sc) (w : World) (ok : s.ok) (at0 : s.at w w.heap.size) (A : Option Addr) (c n : Nat) (L : List Int) (hL : L.length ≤ 1500) (hcl : L.length ≤ c) (hby : P.Byt L) (hsl : P.Sl .u8 w w.heap.size A L) (hn : n = L.length ∨ (1500 < n ∧ L.length = 1500)) :
    Calls Tryz.prog 3 #[.agg #[.int .i64 s.w, .int .i64 s.h, .int .u8 s.k.r, .int .u8 s.k.g, .int .u8 s.k.b, .int .u8 s.k.a, .slice s.vA s.vs.length s.vc, .slice s.tA s.ts.length s.tc, .slice s.pA s.ps.length s.pc, .slice s.dA s.ds.length s.dc], .slice A n c] w fun e w' => e = .returned (.bool true) ∧ Below w.heap.size w w' := by
  have HS0 := Lib.hid (has_new at0)
  have HB0 := Lib.hid (new_below w (.cells #[.int .i64 s.w, .int .i64 s.h, .int .u8 s.k.r, .int .u8 s.k.g, .int .u8 s.k.b, .int .u8 s.k.a, .slice s.vA s.vs.length s.vc, .slice s.tA s.ts.length s.tc, .slice s.pA s.ps.length s.pc, .slice s.dA s.ds.length s.dc] 29))
  have HSm := Lib.hid (show ∀ w1, Below w.heap.size w w1 → Calls Tryz.prog 7 #[.agg #[.int .i64 s.w, .int .i64 s.h, .int .u8 s.k.r, .int .u8 s.k.g, .int .u8 s.k.b, .int .u8 s.k.a, .slice s.vA s.vs.length s.vc, .slice s.tA s.ts.length s.tc, .slice s.pA s.ps.length s.pc, .slice s.dA s.ds.length s.dc]] w1 (Smal s w1) from fun w1 h => small_any s w1 ((at0.below h).more h.size) ok)
  have HOk := Lib.hid (smP_ok (ok_p ok))
  unfold Smal at HSm
  have HT1 := Lib.hid (fun W (h : Below w.heap.size w W) => take_any A c L hcl (by omega) hby W ((hsl.below h).more h.size))
  have HT2 := Lib.hid (fun W (h : Below w.heap.size w W) => rtake_any A c L hcl hL hby W ((hsl.below h).more h.size))
  have HTf := Lib.hid (fun q e (h : takeP L = (q, e)) => takeP_few hby h)
  unfold TakeA at HT1 HT2
  obtain ⟨m, hm⟩ : ∃ m, L.length = m := ⟨_, rfl⟩
  rw [hm] at HT1 HT2 hL hcl hn
  have hcut : (∀ W, (Instr.slice 30 (.slice A n c) none (some (.int .i64 1500)) none).run Tryz.prog W = .ok (.slice A 1500 c) W) ∨ n = m := by
    rcases hn with rfl | ⟨-, rfl⟩
    · exact .inr rfl
    · exact .inl (slice_bytes A n c 1500 hcl)
  obtain ⟨tq, hq⟩ : ∃ q, takeP L = q := ⟨_, rfl⟩
  obtain ⟨q, eq⟩ := tq
  replace HTf := Lib.hid (HTf.out _ _ hq)
  rw [hq] at HT1 HT2
  clear ok at0 hm hby hsl hq hcl
  go_enter Tryz.func3, Tryz.ntmps3
  go_wp2_with fail
  with_reducible refine (cshown_any _).mono ?_
  rintro e w1 ⟨rfl, hb⟩
  have HB1 := Lib.hid (bstep HB0.out HB0.out.size hb)
  have HS1 := Lib.hid (HS0.out.below hb)
  obtain ⟨c0, c1, c2, c3, c4, c5, c6, c7, c8, c9⟩ := scB_cell HS1.out.g
  have gl := scB_lt HS1.out.g
  clear hb HS0 HB0
  go_wp2_with fail
  with_reducible refine (HSm.out w1 HB1.out).mono ?_
  rintro e w2 ⟨x, rfl, hp, hcap, hat, hb⟩
  have HB2 := Lib.hid (bstep HB1.out HB1.out.size hb)
  have HX2 := Lib.hid (has_new hat)
  have hxo : x.ok := ok_of hp HOk.out hcap
  have hxf : x.few := few_of hp (smP_few _)
  have hlen : (nS x.p).length ≤ 100000000 := by
    have := smP_len s.p
    rw [hp]
    omega
  have HB3 := Lib.hid (bstep HB2.out HB2.out.size (new_below w2 (.cells #[.int .i64 x.w, .int .i64 x.h, .int .u8 x.k.r, .int .u8 x.k.g, .int .u8 x.k.b, .int .u8 x.k.a, .slice x.vA x.vs.length x.vc, .slice x.tA x.ts.length x.tc, .slice x.pA x.ps.length x.pc, .slice x.dA x.ds.length x.dc] 29)))
  obtain ⟨gx, hgx⟩ : ∃ g, w2.heap.size = g := ⟨_, rfl⟩
  clear c0 c1 c2 c3 c4 c5 c6 c7 c8 c9 gl HSm hp hcap hat hb HB1 HB2 HS1 HOk
  go_upto_region 3 with fail
  obtain ⟨t, ht⟩ : ∃ t, w2.alloc (.cells #[.int .i64 x.w, .int .i64 x.h, .int .u8 x.k.r, .int .u8 x.k.g, .int .u8 x.k.b, .int .u8 x.k.a, .slice x.vA x.vs.length x.vc, .slice x.tA x.ts.length x.tc, .slice x.pA x.ps.length x.pc, .slice x.dA x.ds.length x.dc] 29) = t := ⟨_, rfl⟩
  rw [ht] at HX2 HB3
  rw [hgx] at HX2
  try rw [ht]
  try rw [hgx]
  clear ht hgx
  have HPc := Lib.hid (fun W (h : x.at W W.heap.size) => cput_any x hxo hxf W h hlen)
  have HPr := Lib.hid (fun W (h : x.at W W.heap.size) => rput15_any x hxo hxf W h hlen)
  have HBc := Lib.hid (fun W (h : x.at W W.heap.size) => bytes_any x hxo hxf W h hlen)
  have HBr := Lib.hid (fun W (h : x.at W W.heap.size) => rbytes15_any x hxo hxf W h hlen)
  obtain ⟨bs, hbs⟩ : ∃ bs, P.put (nS x.p) = bs := ⟨_, rfl⟩
  obtain ⟨ck, hck⟩ : ∃ z, check x.p = z := ⟨_, rfl⟩
  rw [hbs] at HPc HPr HBc HBr
  rw [hck] at HPc HPr
  obtain ⟨R, hR⟩ : ∃ R, (if ck = 0 then bs else []) = R := ⟨_, rfl⟩
  replace HPc := Lib.hid (fun W h => putA_calls (HPc.out W h) hR)
  replace HPr := Lib.hid (fun W h => putA_calls (HPr.out W h) hR)
  clear hxo hxf hlen hbs hck hR
  obtain ⟨x0, x1, x2, x3, x4, x5, x6, x7, x8, x9⟩ := scB_cell HX2.out.g
  have xl := scB_lt HX2.out.g
  rcases hn with rfl | ⟨hgt, rfl⟩
  all_goals
    first
      | have hcmp : ¬ (1500 : Int) < n := by omega
      | (have hcmp : (1500 : Int) < n := by omega
         have hsl : ∀ W, (Instr.slice 30 (.slice A n c) none (some (.int .i64 1500)) none).run Tryz.prog W = .ok (.slice A 1500 c) W := by
           rcases hcut with h | h
           · exact h
           · omega)
    clear hcut hL
    go_wp2_with fail
    with_reducible refine (HPc.out _ HX2.out.a).mono ?_
    rintro e w3 ⟨A3, c3, rfl, hs3, hb⟩
    have HX3 := Lib.hid (HX2.out.below hb)
    have HB4 := Lib.hid (bstep HB3.out HB3.out.size hb)
    have HP3 := Lib.hid hs3
    clear hb hs3 x0 x1 x2 x3 x4 x5 x6 x7 x8 x9 xl HX2 HB3 HPc
    obtain ⟨x0, x1, x2, x3, x4, x5, x6, x7, x8, x9⟩ := scB_cell HX3.out.g
    have xl := scB_lt HX3.out.g
    go_wp2_with fail
    with_reducible refine (HPr.out _ HX3.out.a).mono ?_
    rintro e w4 ⟨A4, c4, rfl, hs4, hb⟩
    have HX4 := Lib.hid (HX3.out.below hb)
    have HB5 := Lib.hid (bstep HB4.out HB4.out.size hb)
    have HP4 := Lib.hid (And.intro (HP3.out.go hb) hs4)
    clear hb hs4 x0 x1 x2 x3 x4 x5 x6 x7 x8 x9 xl HX3 HB4 HP3 HPr
    go_wp2_with fail
    with_reducible refine (HT1.out _ HB5.out).mono ?_
    rintro e w5 ⟨y, e5, rfl, hb, hon, -, htk⟩
    obtain ⟨rfl, rfl⟩ := Prod.mk.inj htk
    have HX5 := Lib.hid ((HX4.out.below hb).below (new_below w5 (.cells #[.int .i64 y.w, .int .i64 y.h, .int .u8 y.k.r, .int .u8 y.k.g, .int .u8 y.k.b, .int .u8 y.k.a, .slice y.vA y.vs.length y.vc, .slice y.tA y.ts.length y.tc, .slice y.pA y.ps.length y.pc, .slice y.dA y.ds.length y.dc] 29)))
    have HP5 := Lib.hid (And.intro ((HP4.out.1.go hb).go (new_below w5 (.cells #[.int .i64 y.w, .int .i64 y.h, .int .u8 y.k.r, .int .u8 y.k.g, .int .u8 y.k.b, .int .u8 y.k.a, .slice y.vA y.vs.length y.vc, .slice y.tA y.ts.length y.tc, .slice y.pA y.ps.length y.pc, .slice y.dA y.ds.length y.dc] 29))) ((HP4.out.2.go hb).go (new_below w5 (.cells #[.int .i64 y.w, .int .i64 y.h, .int .u8 y.k.r, .int .u8 y.k.g, .int .u8 y.k.b, .int .u8 y.k.a, .slice y.vA y.vs.length y.vc, .slice y.tA y.ts.length y.tc, .slice y.pA y.ps.length y.pc, .slice y.dA y.ds.length y.dc] 29))))
    have HY5 := Lib.hid (has_new (x := y) hon.at)
    have HB6 := Lib.hid (bstep HB5.out HB5.out.size hb)
    have HB7 := Lib.hid (bstep HB6.out HB6.out.size (new_below w5 (.cells #[.int .i64 y.w, .int .i64 y.h, .int .u8 y.k.r, .int .u8 y.k.g, .int .u8 y.k.b, .int .u8 y.k.a, .slice y.vA y.vs.length y.vc, .slice y.tA y.ts.length y.tc, .slice y.pA y.ps.length y.pc, .slice y.dA y.ds.length y.dc] 29)))
    obtain ⟨gy, hgy⟩ : ∃ g, w5.heap.size = g := ⟨_, rfl⟩
    clear hb hon htk HX4 HP4 HB5 HB6 HT1
    go_upto_region 8 with fail
    obtain ⟨t5, ht⟩ : ∃ t, w5.alloc (.cells #[.int .i64 y.w, .int .i64 y.h, .int .u8 y.k.r, .int .u8 y.k.g, .int .u8 y.k.b, .int .u8 y.k.a, .slice y.vA y.vs.length y.vc, .slice y.tA y.ts.length y.tc, .slice y.pA y.ps.length y.pc, .slice y.dA y.ds.length y.dc] 29) = t := ⟨_, rfl⟩
    rw [ht] at HX5 HP5 HY5 HB7
    rw [hgy] at HY5
    try rw [ht]
    try rw [hgy]
    clear ht hgy
    go_wp2_with fail
    with_reducible refine (HT2.out _ HB7.out).mono ?_
    rintro e w6 ⟨z, e6, rfl, hb, hon, -, htk⟩
    obtain ⟨hzp, rfl⟩ := Prod.mk.inj htk
    have HX6 := Lib.hid ((HX5.out.below hb).below (new_below w6 (.cells #[.int .i64 z.w, .int .i64 z.h, .int .u8 z.k.r, .int .u8 z.k.g, .int .u8 z.k.b, .int .u8 z.k.a, .slice z.vA z.vs.length z.vc, .slice z.tA z.ts.length z.tc, .slice z.pA z.ps.length z.pc, .slice z.dA z.ds.length z.dc] 29)))
    have HY6 := Lib.hid ((HY5.out.below hb).below (new_below w6 (.cells #[.int .i64 z.w, .int .i64 z.h, .int .u8 z.k.r, .int .u8 z.k.g, .int .u8 z.k.b, .int .u8 z.k.a, .slice z.vA z.vs.length z.vc, .slice z.tA z.ts.length z.tc, .slice z.pA z.ps.length z.pc, .slice z.dA z.ds.length z.dc] 29)))
    have HP6 := Lib.hid (And.intro ((HP5.out.1.go hb).go (new_below w6 (.cells #[.int .i64 z.w, .int .i64 z.h, .int .u8 z.k.r, .int .u8 z.k.g, .int .u8 z.k.b, .int .u8 z.k.a, .slice z.vA z.vs.length z.vc, .slice z.tA z.ts.length z.tc, .slice z.pA z.ps.length z.pc, .slice z.dA z.ds.length z.dc] 29))) ((HP5.out.2.go hb).go (new_below w6 (.cells #[.int .i64 z.w, .int .i64 z.h, .int .u8 z.k.r, .int .u8 z.k.g, .int .u8 z.k.b, .int .u8 z.k.a, .slice z.vA z.vs.length z.vc, .slice z.tA z.ts.length z.tc, .slice z.pA z.ps.length z.pc, .slice z.dA z.ds.length z.dc] 29))))
    have HZ6 := Lib.hid (has_new (x := z) hon.at)
    have HB8 := Lib.hid (bstep HB7.out HB7.out.size hb)
    have HB9 := Lib.hid (bstep HB8.out HB8.out.size (new_below w6 (.cells #[.int .i64 z.w, .int .i64 z.h, .int .u8 z.k.r, .int .u8 z.k.g, .int .u8 z.k.b, .int .u8 z.k.a, .slice z.vA z.vs.length z.vc, .slice z.tA z.ts.length z.tc, .slice z.pA z.ps.length z.pc, .slice z.dA z.ds.length z.dc] 29)))
    have HZp := Lib.hid hzp
    obtain ⟨gz, hgz⟩ : ∃ g, w6.heap.size = g := ⟨_, rfl⟩
    clear hb hon htk hzp HX5 HP5 HY5 HB7 HB8 HT2
    go_upto_region 9 with fail
    obtain ⟨t6, ht⟩ : ∃ t, w6.alloc (.cells #[.int .i64 z.w, .int .i64 z.h, .int .u8 z.k.r, .int .u8 z.k.g, .int .u8 z.k.b, .int .u8 z.k.a, .slice z.vA z.vs.length z.vc, .slice z.tA z.ts.length z.tc, .slice z.pA z.ps.length z.pc, .slice z.dA z.ds.length z.dc] 29) = t := ⟨_, rfl⟩
    rw [ht] at HX6 HP6 HY6 HZ6 HB9
    rw [hgz] at HZ6
    try rw [ht]
    try rw [hgz]
    clear ht hgz
    have HSa := Lib.hid (same_any y z t6 HY6.out.a HZ6.out.a (few_of rfl HTf.out) true (by simp only [true_iff]; exact HZp.out))
    obtain ⟨y0, y1, y2, y3, y4, y5, y6, y7, y8, y9⟩ := scB_cell HY6.out.g
    have yl := scB_lt HY6.out.g
    obtain ⟨z0, z1, z2, z3, z4, z5, z6, z7, z8, z9⟩ := scB_cell HZ6.out.g
    have zl := scB_lt HZ6.out.g
    go_wp2_with fail
    with_reducible refine (HSa.out).mono ?_
    rintro e w7 ⟨rfl, hb⟩
    have HX7 := Lib.hid (HX6.out.below hb)
    have HP7 := Lib.hid (And.intro (HP6.out.1.go hb) (HP6.out.2.go hb))
    have HB10 := Lib.hid (bstep HB9.out HB9.out.size hb)
    clear hb HSa HX6 HP6 HY6 HZ6 HB9 HTf HZp y0 y1 y2 y3 y4 y5 y6 y7 y8 y9 yl z0 z1 z2 z3 z4 z5 z6 z7 z8 z9 zl
    go_upto_region 10 with fail
    obtain ⟨x0, x1, x2, x3, x4, x5, x6, x7, x8, x9⟩ := scB_cell HX7.out.g
    have xl := scB_lt HX7.out.g
    have y0 : ∀ w', Om (fun _ => False) w7 w' → w'.cell? ⟨gx, 0, none⟩ = some (.int .i64 x.w) := fun w' h => h.cell x0 id
    have y1 : ∀ w', Om (fun _ => False) w7 w' → w'.cell? ⟨gx, 1, none⟩ = some (.int .i64 x.h) := fun w' h => h.cell x1 id
    have y2 : ∀ w', Om (fun _ => False) w7 w' → w'.cell? ⟨gx, 2, none⟩ = some (.int .u8 x.k.r) := fun w' h => h.cell x2 id
    have y3 : ∀ w', Om (fun _ => False) w7 w' → w'.cell? ⟨gx, 3, none⟩ = some (.int .u8 x.k.g) := fun w' h => h.cell x3 id
    have y4 : ∀ w', Om (fun _ => False) w7 w' → w'.cell? ⟨gx, 4, none⟩ = some (.int .u8 x.k.b) := fun w' h => h.cell x4 id
    have y5 : ∀ w', Om (fun _ => False) w7 w' → w'.cell? ⟨gx, 5, none⟩ = some (.int .u8 x.k.a) := fun w' h => h.cell x5 id
    have y6 : ∀ w', Om (fun _ => False) w7 w' → w'.cell? ⟨gx, 6, none⟩ = some (.slice x.vA x.vs.length x.vc) := fun w' h => h.cell x6 id
    have y7 : ∀ w', Om (fun _ => False) w7 w' → w'.cell? ⟨gx, 7, none⟩ = some (.slice x.tA x.ts.length x.tc) := fun w' h => h.cell x7 id
    have y8 : ∀ w', Om (fun _ => False) w7 w' → w'.cell? ⟨gx, 8, none⟩ = some (.slice x.pA x.ps.length x.pc) := fun w' h => h.cell x8 id
    have y9 : ∀ w', Om (fun _ => False) w7 w' → w'.cell? ⟨gx, 9, none⟩ = some (.slice x.dA x.ds.length x.dc) := fun w' h => h.cell x9 id
    clear x0 x1 x2 x3 x4 x5 x6 x7 x8 x9 xl
    refine wp_region_held_drew (S := fun w' => Om (fun _ => False) w7 w') (by kernel_rfl) (om_drew _ _) (fun hS => ?_)
    have B_t0 := Lib.hid (show Below w7.heap.size w7 w7.drew from (Below.refl _ _).drew)
    generalize w7.drew = t0 at *
    refine wpAnyH_take (i := 0) (v := .bool true) rfl (by kernel_rfl) (by kernel_rfl) (by kernel_rfl) (fun _ _ _ h => h) (Or.inl ⟨by rfl, fun w hw => by go_simp⟩) hS ?_
    try simp only [Act.put, List.setIfInBounds_toArray, List.set_cons_zero, List.set_cons_succ, List.getElem_toArray, List.getElem_cons_zero]
    refine wpAnyH_take (i := 1) (v := .bool true) rfl (by kernel_rfl) (by kernel_rfl) (by kernel_rfl) (fun _ _ _ h => h) (Or.inl ⟨by rfl, fun w hw => by go_simp⟩) hS ?_
    try simp only [Act.put, List.setIfInBounds_toArray, List.set_cons_zero, List.set_cons_succ, List.getElem_toArray, List.getElem_cons_zero, List.getElem_cons_succ]
    refine wpAnyH_take (i := 2) (v := .agg #[.int .i64 x.w, .int .i64 x.h, .int .u8 x.k.r, .int .u8 x.k.g, .int .u8 x.k.b, .int .u8 x.k.a, .slice x.vA x.vs.length x.vc, .slice x.tA x.ts.length x.tc, .slice x.pA x.ps.length x.pc, .slice x.dA x.ds.length x.dc]) rfl (by kernel_rfl) (by kernel_rfl) (by kernel_rfl) (fun _ _ _ h => h) (Or.inl ⟨by rfl, fun w hw => by have z0 := y0 w hw; have z1 := y1 w hw; have z2 := y2 w hw; have z3 := y3 w hw; have z4 := y4 w hw; have z5 := y5 w hw; have z6 := y6 w hw; have z7 := y7 w hw; have z8 := y8 w hw; have z9 := y9 w hw; go_simp⟩) hS ?_
    try simp only [Act.put, List.setIfInBounds_toArray, List.set_cons_zero, List.set_cons_succ, List.getElem_toArray, List.getElem_cons_zero, List.getElem_cons_succ]
    refine wpAnyH_take (i := 5) (v := .agg #[.int .i64 x.w, .int .i64 x.h, .int .u8 x.k.r, .int .u8 x.k.g, .int .u8 x.k.b, .int .u8 x.k.a, .slice x.vA x.vs.length x.vc, .slice x.tA x.ts.length x.tc, .slice x.pA x.ps.length x.pc, .slice x.dA x.ds.length x.dc]) rfl (by kernel_rfl) (by kernel_rfl) (by kernel_rfl) (fun _ _ _ h => h) (Or.inl ⟨by rfl, fun w hw => by have z0 := y0 w hw; have z1 := y1 w hw; have z2 := y2 w hw; have z3 := y3 w hw; have z4 := y4 w hw; have z5 := y5 w hw; have z6 := y6 w hw; have z7 := y7 w hw; have z8 := y8 w hw; have z9 := y9 w hw; go_simp⟩) hS ?_
    try simp only [Act.put, List.setIfInBounds_toArray, List.set_cons_zero, List.set_cons_succ, List.getElem_toArray, List.getElem_cons_zero, List.getElem_cons_succ]
    refine wpAnyH_ready (rs := [3]) (by kernel_rfl) (by simp) ?_
    refine AllReadyH.cons rfl (fun K hK => ?_) AllReadyH.nil
    go_simp
    with_reducible refine (HBc.out _ ((HX7.out.a.below B_t0.out).more B_t0.out.size)).mono ?_
    rintro e u1 ⟨v, rfl, ho, hb⟩
    obtain ⟨A5, c5, rfl, -, -, hs⟩ := ho.sl
    have HV5 := Lib.hid hs
    have B_u1 := Lib.hid (bstep B_t0.out B_t0.out.size hb)
    have M_u1 := Lib.hid (show Om (fun _ => False) w7 u1 from ⟨B_u1.out.size, fun b h1 _ => B_u1.out.block b h1⟩)
    clear hs ho hb
    refine hK.out _ _ M_u1.out (fun hS => ?_)
    clear hK K
    try simp only [Act.put, List.setIfInBounds_toArray, List.set_cons_zero, List.set_cons_succ, List.getElem_toArray, List.getElem_cons_zero, List.getElem_cons_succ]
    refine wpAnyH_ready (rs := [4, 6]) (by kernel_rfl) (by simp) ?_
    refine AllReadyH.cons rfl (fun K hK => ?_) ?_
    · skip
      have q1 := HV5.out.conv c5
      go_simp
      refine hK.out _ _ M_u1.out (fun hS => ?_)
      clear hK K q1
      try simp only [Act.put, List.setIfInBounds_toArray, List.set_cons_zero, List.set_cons_succ, List.getElem_toArray, List.getElem_cons_zero, List.getElem_cons_succ]
      refine wpAnyH_ready (rs := [6]) (by kernel_rfl) (by simp) ?_
      refine AllReadyH.cons rfl (fun K hK => ?_) AllReadyH.nil
      go_simp
      with_reducible refine (HBr.out _ ((HX7.out.a.below B_u1.out).more B_u1.out.size)).mono ?_
      rintro e u2 ⟨v, rfl, ho, hb⟩
      obtain ⟨A9, c9, rfl, -, -, hs⟩ := ho.sl
      have HV9 := Lib.hid hs
      have HV8 := Lib.hid (HV5.out.go hb)
      have B_u2 := Lib.hid (bstep B_u1.out B_u1.out.size hb)
      have M_u2 := Lib.hid (show Om (fun _ => False) w7 u2 from ⟨B_u2.out.size, fun b h1 _ => B_u2.out.block b h1⟩)
      clear hs ho hb
      refine hK.out _ _ M_u2.out (fun hS => ?_)
      clear hK K
      try simp only [Act.put, List.setIfInBounds_toArray, List.set_cons_zero, List.set_cons_succ, List.getElem_toArray, List.getElem_cons_zero, List.getElem_cons_succ]
      refine P.held_from 7 (by kernel_rfl) (by kernel_rfl) rfl (fun w' hw => ?_) ?_
      · obtain ⟨j, rfl⟩ := hw
        exact M_u2.out
      simp only [List.drop_succ_cons, List.drop_zero]
      have q5 : ∀ j, (convert 30 9 (.slice A9 bs.length c9)).run Tryz.prog (u2.drewN j) = .ok (.string (strOfNums bs)) (u2.drewN j) := fun j => P.Sl.conv (HV9.out.drewN j) c9
      have q4 : ∀ j, (convert 30 9 (.slice A5 bs.length c5)).run Tryz.prog (u2.drewN j) = .ok (.string (strOfNums bs)) (u2.drewN j) := fun j => P.Sl.conv (HV8.out.drewN j) c5
      have q2 : ∀ j, (convert 30 9 (.slice A3 R.length c3)).run Tryz.prog (u2.drewN j) = .ok (.string (strOfNums R)) (u2.drewN j) := fun j => P.Sl.conv (((HP7.out.1.below B_u2.out).more B_u2.out.size).drewN j) c3
      have q3 : ∀ j, (convert 30 9 (.slice A4 R.length c4)).run Tryz.prog (u2.drewN j) = .ok (.string (strOfNums R)) (u2.drewN j) := fun j => P.Sl.conv (((HP7.out.2.below B_u2.out).more B_u2.out.size).drewN j) c4
      repeat (go_big_quiet_step (fail))
      refine wpQuiet_nil ?_
      rintro _ ⟨nq, rfl⟩
      have HB11 := Lib.hid (bel_drewN (bstep HB10.out HB10.out.size B_u2.out) nq)
      clear q2 q3 q4 q5
      go_wp2
      go_ret
      exact ⟨by simp, HB11.out⟩
    refine AllReadyH.cons rfl (fun K hK => ?_) AllReadyH.nil
    go_simp
    with_reducible refine (HBr.out _ ((HX7.out.a.below B_u1.out).more B_u1.out.size)).mono ?_
    rintro e u2 ⟨v, rfl, ho, hb⟩
    obtain ⟨A9, c9, rfl, -, -, hs⟩ := ho.sl
    have HV9 := Lib.hid hs
    have HV8 := Lib.hid (HV5.out.go hb)
    have B_u2 := Lib.hid (bstep B_u1.out B_u1.out.size hb)
    have M_u2 := Lib.hid (show Om (fun _ => False) w7 u2 from ⟨B_u2.out.size, fun b h1 _ => B_u2.out.block b h1⟩)
    clear hs ho hb
    refine hK.out _ _ M_u2.out (fun hS => ?_)
    clear hK K
    try simp only [Act.put, List.setIfInBounds_toArray, List.set_cons_zero, List.set_cons_succ, List.getElem_toArray, List.getElem_cons_zero, List.getElem_cons_succ]
    refine wpAnyH_ready (rs := [4, 7]) (by kernel_rfl) (by simp) ?_
    refine AllReadyH.cons rfl (fun K hK => ?_) ?_
    · skip
      have q1 := HV8.out.conv c5
      go_simp
      refine hK.out _ _ M_u2.out (fun hS => ?_)
      clear hK K q1
      try simp only [Act.put, List.setIfInBounds_toArray, List.set_cons_zero, List.set_cons_succ, List.getElem_toArray, List.getElem_cons_zero, List.getElem_cons_succ]
      refine P.held_from 7 (by kernel_rfl) (by kernel_rfl) rfl (fun w' hw => ?_) ?_
      · obtain ⟨j, rfl⟩ := hw
        exact M_u2.out
      simp only [List.drop_succ_cons, List.drop_zero]
      have q5 : ∀ j, (convert 30 9 (.slice A9 bs.length c9)).run Tryz.prog (u2.drewN j) = .ok (.string (strOfNums bs)) (u2.drewN j) := fun j => P.Sl.conv (HV9.out.drewN j) c9
      have q4 : ∀ j, (convert 30 9 (.slice A5 bs.length c5)).run Tryz.prog (u2.drewN j) = .ok (.string (strOfNums bs)) (u2.drewN j) := fun j => P.Sl.conv (HV8.out.drewN j) c5
      have q2 : ∀ j, (convert 30 9 (.slice A3 R.length c3)).run Tryz.prog (u2.drewN j) = .ok (.string (strOfNums R)) (u2.drewN j) := fun j => P.Sl.conv (((HP7.out.1.below B_u2.out).more B_u2.out.size).drewN j) c3
      have q3 : ∀ j, (convert 30 9 (.slice A4 R.length c4)).run Tryz.prog (u2.drewN j) = .ok (.string (strOfNums R)) (u2.drewN j) := fun j => P.Sl.conv (((HP7.out.2.below B_u2.out).more B_u2.out.size).drewN j) c4
      repeat (go_big_quiet_step (fail))
      refine wpQuiet_nil ?_
      rintro _ ⟨nq, rfl⟩
      have HB11 := Lib.hid (bel_drewN (bstep HB10.out HB10.out.size B_u2.out) nq)
      clear q2 q3 q4 q5
      go_wp2
      go_ret
      exact ⟨by simp, HB11.out⟩
    refine AllReadyH.cons rfl (fun K hK => ?_) AllReadyH.nil
    have q1 := HV9.out.conv c9
    go_simp
    refine hK.out _ _ M_u2.out (fun hS => ?_)
    clear hK K q1
    try simp only [Act.put, List.setIfInBounds_toArray, List.set_cons_zero, List.set_cons_succ, List.getElem_toArray, List.getElem_cons_zero, List.getElem_cons_succ]
    refine wpAnyH_ready (rs := [4]) (by kernel_rfl) (by simp) ?_
    refine AllReadyH.cons rfl (fun K hK => ?_) AllReadyH.nil
    have q1 := HV8.out.conv c5
    go_simp
    refine hK.out _ _ M_u2.out (fun hS => ?_)
    clear hK K q1
    try simp only [Act.put, List.setIfInBounds_toArray, List.set_cons_zero, List.set_cons_succ, List.getElem_toArray, List.getElem_cons_zero, List.getElem_cons_succ]
    refine P.held_from 8 (by kernel_rfl) (by kernel_rfl) rfl (fun w' hw => ?_) ?_
    · obtain ⟨j, rfl⟩ := hw
      exact M_u2.out
    simp only [List.drop_succ_cons, List.drop_zero]
    have q5 : ∀ j, (convert 30 9 (.slice A9 bs.length c9)).run Tryz.prog (u2.drewN j) = .ok (.string (strOfNums bs)) (u2.drewN j) := fun j => P.Sl.conv (HV9.out.drewN j) c9
    have q4 : ∀ j, (convert 30 9 (.slice A5 bs.length c5)).run Tryz.prog (u2.drewN j) = .ok (.string (strOfNums bs)) (u2.drewN j) := fun j => P.Sl.conv (HV8.out.drewN j) c5
    have q2 : ∀ j, (convert 30 9 (.slice A3 R.length c3)).run Tryz.prog (u2.drewN j) = .ok (.string (strOfNums R)) (u2.drewN j) := fun j => P.Sl.conv (((HP7.out.1.below B_u2.out).more B_u2.out.size).drewN j) c3
    have q3 : ∀ j, (convert 30 9 (.slice A4 R.length c4)).run Tryz.prog (u2.drewN j) = .ok (.string (strOfNums R)) (u2.drewN j) := fun j => P.Sl.conv (((HP7.out.2.below B_u2.out).more B_u2.out.size).drewN j) c4
    repeat (go_big_quiet_step (fail))
    refine wpQuiet_nil ?_
    rintro _ ⟨nq, rfl⟩
    have HB11 := Lib.hid (bel_drewN (bstep HB10.out HB10.out.size B_u2.out) nq)
    clear q2 q3 q4 q5
    go_wp2
    go_ret
    exact ⟨by simp, HB11.out⟩
theorem all_walk (s : Sc) (w : World) (ok : s.ok) (at0 : s.at w w.heap.size) (A : Option Addr) (c : Nat) (xs : List Int) (hlc : xs.length ≤ c) (hsl : P.Sl .u8 w w.heap.size A xs) (hby : P.Byt xs) :
    Calls Tryz.prog 3 #[.agg #[.int .i64 s.w, .int .i64 s.h, .int .u8 s.k.r, .int .u8 s.k.g, .int .u8 s.k.b, .int .u8 s.k.a, .slice s.vA s.vs.length s.vc, .slice s.tA s.ts.length s.tc, .slice s.pA s.ps.length s.pc, .slice s.dA s.ds.length s.dc], .slice A xs.length c] w fun e w' => e = .returned (.bool true) ∧ Below w.heap.size w w' := by
  rcases Nat.lt_or_ge 1500 xs.length with h | h
  · have hl : (xs.take 1500).length = 1500 := by
      rw [List.length_take]
      omega
    exact all_in s w ok at0 A c xs.length (xs.take 1500) (by omega) (by omega) (hby.take 1500) (hsl.take 1500) (.inr ⟨h, hl⟩)
  · exact all_in s w ok at0 A c xs.length xs h hlc hby hsl (.inl rfl)
end Go.Proofs.YtfmmfaeognoleaaGreat
