/-
  The walk of glazierlaw15.CodecTells.
-/
import Derived.Test.YtfmmfaeognoleaaGreatM11
import Derived.Test.YtfmmfaeognoleaaGreatRByB
import Derived.Test.YtfmmfaeognoleaaGreatSml
import Derived.Test.YtfmmfaeognoleaaGreatM5
namespace Go.Proofs.YtfmmfaeognoleaaGreat
open Go.RowKit
attribute [local go_sem ↓] Go.wp_at_zero Go.wp_at_succ

set_option maxRecDepth 100000 in
set_option maxHeartbeats 8000000 in
theorem tells_walk (s : Sc) (n a : Int) (hn : 0 ≤ n ∧ n ≤ 65535) (ha : 0 ≤ a ∧ a ≤ 255) (w : World) (ok : s.ok) (at0 : s.at w w.heap.size) :
    Calls Tryz.prog 5 #[.agg #[.int .i64 s.w, .int .i64 s.h, .int .u8 s.k.r, .int .u8 s.k.g, .int .u8 s.k.b, .int .u8 s.k.a, .slice s.vA s.vs.length s.vc, .slice s.tA s.ts.length s.tc, .slice s.pA s.ps.length s.pc, .slice s.dA s.ds.length s.dc], .int .u16 n, .int .u8 a] w fun e w' => e = .returned (.bool true) ∧ Below w.heap.size w w' := by
  have HS0 := Lib.hid (has_new at0)
  have HB0 := Lib.hid (new_below w (.cells #[.int .i64 s.w, .int .i64 s.h, .int .u8 s.k.r, .int .u8 s.k.g, .int .u8 s.k.b, .int .u8 s.k.a, .slice s.vA s.vs.length s.vc, .slice s.tA s.ts.length s.tc, .slice s.pA s.ps.length s.pc, .slice s.dA s.ds.length s.dc] 29))
  have HSm := Lib.hid (show ∀ w1, Below w.heap.size w w1 → Calls Tryz.prog 7 #[.agg #[.int .i64 s.w, .int .i64 s.h, .int .u8 s.k.r, .int .u8 s.k.g, .int .u8 s.k.b, .int .u8 s.k.a, .slice s.vA s.vs.length s.vc, .slice s.tA s.ts.length s.tc, .slice s.pA s.ps.length s.pc, .slice s.dA s.ds.length s.dc]] w1 (Smal s w1) from fun w1 h => small_any s w1 ((at0.below h).more h.size) ok)
  have HOk := Lib.hid (smP_ok (ok_p ok))
  unfold Smal at HSm
  clear ok at0
  go_enter Tryz.func5, Tryz.ntmps5
  go_wp2_with fail
  with_reducible refine (cshown_any _).mono ?_
  rintro e w1 ⟨rfl, hb⟩
  have HB1 := Lib.hid (bstep HB0.out HB0.out.size hb)
  have HS1 := Lib.hid (HS0.out.below hb)
  obtain ⟨c0, c1, c2, c3, c4, c5, c6, c7, c8, c9⟩ := scB_cell HS1.out.g
  have gl := scB_lt HS1.out.g
  clear hb HS0 HB0
  go_wp2_with fail
  with_reducible refine (HSm.out w1 HB1.out).mono ?_
  rintro e w2 ⟨x, rfl, hp, hcap, hat, hb⟩
  have HB2 := Lib.hid (bstep HB1.out HB1.out.size hb)
  have HX2 := Lib.hid (has_new hat)
  have hxo : x.ok := ok_of hp HOk.out hcap
  have hxf : x.few := few_of hp (smP_few _)
  have hlen : (nS x.p).length ≤ 10000 := by rw [hp]; exact smP_len _
  have HB3 := Lib.hid (bstep HB2.out HB2.out.size (new_below w2 (.cells #[.int .i64 x.w, .int .i64 x.h, .int .u8 x.k.r, .int .u8 x.k.g, .int .u8 x.k.b, .int .u8 x.k.a, .slice x.vA x.vs.length x.vc, .slice x.tA x.ts.length x.tc, .slice x.pA x.ps.length x.pc, .slice x.dA x.ds.length x.dc] 29)))
  clear c0 c1 c2 c3 c4 c5 c6 c7 c8 c9 gl HSm hp hcap hat hb HB1 HB2 HS1 HOk
  go_upto_region 3 with fail
  obtain ⟨t, ht⟩ : ∃ t, w2.alloc (.cells #[.int .i64 x.w, .int .i64 x.h, .int .u8 x.k.r, .int .u8 x.k.g, .int .u8 x.k.b, .int .u8 x.k.a, .slice x.vA x.vs.length x.vc, .slice x.tA x.ts.length x.tc, .slice x.pA x.ps.length x.pc, .slice x.dA x.ds.length x.dc] 29) = t := ⟨_, rfl⟩
  rw [ht] at HX2 HB3
  rw [ht]
  clear ht
  have HPb := Lib.hid (rbytes15_any x hxo hxf t HX2.out.a (by omega))
  have hins := ins_nS (ok_p hxo) (few_p hxf)
  obtain ⟨hl1, hl2⟩ := P.put_len hins
  have hl3 := len_ten x.p
  have HBy := Lib.hid (P.put_byt (nS x.p))
  have HTp := Lib.hid (fun h => takeP_put (ok_p hxo) (few_p hxf) h)
  have HXo := Lib.hid (And.intro hxo hxf)
  obtain ⟨bs, hbs⟩ : ∃ bs, P.put (nS x.p) = bs := ⟨_, rfl⟩
  rw [hbs] at HPb hl1 hl2 HBy HTp
  replace hbs := Lib.hid hbs
  have hlo : 1 ≤ bs.length := by omega
  have hhi : bs.length ≤ 100000 := by omega
  clear hins hl1 hl2 hl3 hxo hxf hlen
  obtain ⟨x0, x1, x2, x3, x4, x5, x6, x7, x8, x9⟩ := scB_cell HX2.out.g
  have xl := scB_lt HX2.out.g
  go_wp2_with fail
  with_reducible refine (HPb.out).mono ?_
  rintro e w3 ⟨v, rfl, ho, hb⟩
  obtain ⟨A1, e1, rfl, hc1, hcm1, hsl, hnil⟩ := ho.sl2
  have HS3 := Lib.hid hsl
  have HX3 := Lib.hid (HX2.out.below hb)
  have HB4 := Lib.hid (bstep HB3.out HB3.out.size hb)
  clear hb ho hsl HPb HX2 HB3 x0 x1 x2 x3 x4 x5 x6 x7 x8 x9 xl
  by_cases hbig : 65536 < bs.length
  · have hgt : (65536 : Int) < bs.length := by omega
    clear hnil hc1 hcm1 hlo hhi HTp HBy hbs
    go_wp2
    go_ret
    exact ⟨rfl, HB4.out⟩
  have hngt : ¬ (65536 : Int) < bs.length := by omega
  have hsmall : bs.length ≤ 65536 := by omega
  have HTk := Lib.hid (take_any A1 e1 bs hc1 (by omega) HBy.out w3 HS3.out)
  unfold TakeA at HTk
  clear hbig
  go_wp2_with fail
  with_reducible refine (HTk.out).mono ?_
  rintro e w4 ⟨y, err, rfl, hb, hon, -, htk⟩
  have hcs : (check x.p = 0 ∧ err = 0 ∧ y.p = x.p) ∨ (check x.p ≠ 0 ∧ err = check x.p ∧ y.p = zS) := by
    have h := htk.symm.trans (HTp.out hsmall)
    split at h
    · rename_i h0
      exact .inl ⟨h0, congrArg Prod.snd h, congrArg Prod.fst h⟩
    · rename_i h0
      exact .inr ⟨h0, congrArg Prod.snd h, congrArg Prod.fst h⟩
  have HYf := Lib.hid (takeP_few HBy.out htk)
  have HX4 := Lib.hid ((HX3.out.below hb).below (new_below w4 (.cells #[.int .i64 y.w, .int .i64 y.h, .int .u8 y.k.r, .int .u8 y.k.g, .int .u8 y.k.b, .int .u8 y.k.a, .slice y.vA y.vs.length y.vc, .slice y.tA y.ts.length y.tc, .slice y.pA y.ps.length y.pc, .slice y.dA y.ds.length y.dc] 29)))
  have HY4 := Lib.hid (has_new (x := y) hon.at)
  have HS4 := Lib.hid ((HS3.out.go hb).go (new_below w4 (.cells #[.int .i64 y.w, .int .i64 y.h, .int .u8 y.k.r, .int .u8 y.k.g, .int .u8 y.k.b, .int .u8 y.k.a, .slice y.vA y.vs.length y.vc, .slice y.tA y.ts.length y.tc, .slice y.pA y.ps.length y.pc, .slice y.dA y.ds.length y.dc] 29)))
  have HB5 := Lib.hid (bstep HB4.out HB4.out.size hb)
  have HB6 := Lib.hid (bstep HB5.out HB5.out.size (new_below w4 (.cells #[.int .i64 y.w, .int .i64 y.h, .int .u8 y.k.r, .int .u8 y.k.g, .int .u8 y.k.b, .int .u8 y.k.a, .slice y.vA y.vs.length y.vc, .slice y.tA y.ts.length y.tc, .slice y.pA y.ps.length y.pc, .slice y.dA y.ds.length y.dc] 29)))
  clear hb hon htk HTk HTp HX3 HS3 HB4 HB5
  go_upto_region 7 with fail
  obtain ⟨t4, ht⟩ : ∃ t, w4.alloc (.cells #[.int .i64 y.w, .int .i64 y.h, .int .u8 y.k.r, .int .u8 y.k.g, .int .u8 y.k.b, .int .u8 y.k.a, .slice y.vA y.vs.length y.vc, .slice y.tA y.ts.length y.tc, .slice y.pA y.ps.length y.pc, .slice y.dA y.ds.length y.dc] 29) = t := ⟨_, rfl⟩
  rw [ht] at HX4 HY4 HS4 HB6
  rw [ht]
  clear ht
  have HRc := Lib.hid (rcheck_scene x t4 HX4.out.a HXo.out.1 HXo.out.2)
  obtain ⟨cq, hcq⟩ : ∃ c, check x.p = c := ⟨_, rfl⟩
  rw [hcq] at hcs HRc
  obtain rfl : err = cq := by rcases hcs with ⟨h1, h2, -⟩ | ⟨-, h2, -⟩ <;> omega
  have hcs2 := Lib.hid (show (err = 0 ∧ y.p = x.p) ∨ (err ≠ 0 ∧ y.p = zS) from hcs.imp (fun h => ⟨h.1, h.2.2⟩) (fun h => ⟨h.1, h.2.2⟩))
  clear hcs hcq
  obtain ⟨x0, x1, x2, x3, x4, x5, x6, x7, x8, x9⟩ := scB_cell HX4.out.g
  have xl := scB_lt HX4.out.g
  go_wp2_with fail
  with_reducible refine (HRc.out).mono ?_
  rintro e w5 ⟨rfl, hb⟩
  have HX5 := Lib.hid (HX4.out.below hb)
  have HY5 := Lib.hid (HY4.out.below hb)
  have HS5 := Lib.hid (HS4.out.go hb)
  have HB7 := Lib.hid (bstep HB6.out HB6.out.size hb)
  clear hb HRc HX4 HY4 HS4 HB6 x0 x1 x2 x3 x4 x5 x6 x7 x8 x9 xl
  obtain ⟨r1, hr1⟩ := exB (p := y.p = x.p)
  obtain ⟨r2, hr2⟩ := exB (p := y.p = zS)
  have HSa := Lib.hid (same_any y x w5 HY5.out.a HX5.out.a (few_of rfl HYf.out) r1 hr1)
  have hee : (err != err) = false := by simp
  obtain ⟨x0, x1, x2, x3, x4, x5, x6, x7, x8, x9⟩ := scB_cell HX5.out.g
  have xl := scB_lt HX5.out.g
  obtain ⟨y0, y1, y2, y3, y4, y5, y6, y7, y8, y9⟩ := scB_cell HY5.out.g
  have yl := scB_lt HY5.out.g
  go_wp2_with fail
  with_reducible refine (HSa.out).mono ?_
  rintro e w6 ⟨rfl, hb⟩
  have HX6 := Lib.hid (HX5.out.below hb)
  have HY6 := Lib.hid (HY5.out.below hb)
  have HS6 := Lib.hid (HS5.out.go hb)
  have HB8 := Lib.hid (bstep HB7.out HB7.out.size hb)
  clear hb HSa hee HX5 HY5 HS5 HB7 x0 x1 x2 x3 x4 x5 x6 x7 x8 x9 xl y0 y1 y2 y3 y4 y5 y6 y7 y8 y9 yl
  have HSz := Lib.hid (show Calls Tryz.prog 12 #[.agg #[.int .i64 y.w, .int .i64 y.h, .int .u8 y.k.r, .int .u8 y.k.g, .int .u8 y.k.b, .int .u8 y.k.a, .slice y.vA y.vs.length y.vc, .slice y.tA y.ts.length y.tc, .slice y.pA y.ps.length y.pc, .slice y.dA y.ds.length y.dc], .agg #[.int .i64 0, .int .i64 0, .int .u8 0, .int .u8 0, .int .u8 0, .int .u8 0, .slice none 0 0, .slice none 0 0, .slice none 0 0, .slice none 0 0]] w6 (fun e w' => e = .returned (.bool r2) ∧ Below w6.heap.size w6 w') from same_any y (flat0 0 0) w6 HY6.out.a (flat_at 0 0 _ _) (few_of rfl HYf.out) r2 hr2)
  obtain ⟨y0, y1, y2, y3, y4, y5, y6, y7, y8, y9⟩ := scB_cell HY6.out.g
  have yl := scB_lt HY6.out.g
  go_wp2_with fail
  with_reducible refine (HSz.out).mono ?_
  rintro e w7 ⟨rfl, hb⟩
  have HX7 := Lib.hid (HX6.out.below hb)
  have HS7 := Lib.hid (HS6.out.go hb)
  have HB9 := Lib.hid (bstep HB8.out HB8.out.size hb)
  clear hb HSz HX6 HY6 HS6 HB8 HYf y0 y1 y2 y3 y4 y5 y6 y7 y8 y9 yl
  have hfl : (err = 0 ∧ r1 = true) ∨ (err ≠ 0 ∧ r2 = true) := hcs2.out.imp (fun h => ⟨h.1, hr1.2 h.2⟩) (fun h => ⟨h.1, hr2.2 h.2⟩)
  clear hr1 hr2 hcs2
  have hwn : IntKind.i64.wrap n = n := by rw [IntKind.wrap_i64]; omega
  have hm0 : ¬ (bs.length : Int) = 0 := by omega
  have hpos : (0 : Int) < bs.length := by omega
  obtain ⟨k, hk⟩ : ∃ k : Nat, n.tmod (bs.length : Int) = k := ⟨(n % (bs.length : Int)).toNat, by
    rw [Int.tmod_eq_emod_of_nonneg hn.1]
    have := Int.emod_nonneg n (show (bs.length : Int) ≠ 0 by omega)
    omega⟩
  have hkl : k < bs.length := by
    have h1 := Int.tmod_lt_of_pos n hpos
    omega
  have hki : (k : Int) < bs.length := by omega
  have hb0 := P.byt_at HBy.out hkl
  obtain ⟨b0, hb0e⟩ : ∃ b, bs.getD k 0 = b := ⟨_, rfl⟩
  rw [hb0e] at hb0
  obtain ⟨m, hu3, hm1, hm2, hmne⟩ := turn_byte a hb0
  have HCb := Lib.hid (P.byt_set HBy.out k (m := m) ⟨hm1, hm2⟩)
  have HNe := Lib.hid (set_ne (xs := bs) hkl (m := m) (by rw [hb0e]; exact hmne))
  have HOt := Lib.hid (fun q (h : takeP (bs.set k m) = (q, 0)) => takeP_other (p := x.p) HCb.out hbs.out HNe.out h)
  replace hb0e := Lib.hid hb0e
  obtain ⟨i0, hi, hz0, hz1, hz2⟩ := info_parts P.Tryz.info5
  have HI := Lib.hid hi
  have HZ := Lib.hid (And.intro hz0 (And.intro hz1 hz2))
  have HO9 := Lib.hid (show P.OwnS 5 .u8 (w7.alloc (.cells #[] 5)) w7.heap.size (.slice (some ⟨w7.heap.size, 0, none⟩) 0 0) [] from P.own_empty 5 w7)
  have HBn := Lib.hid (new_below w7 (.cells #[] 5))
  have HS9 := Lib.hid (HS7.out.go HBn.out)
  clear hi hz0 hz1 hz2 HNe hmne hm1 hm2 hb0 hpos hbs HBy
  rcases hfl with ⟨rfl, rfl⟩ | ⟨hne, rfl⟩
  all_goals
    first
      | (have hq1 : (err == 0) = false := by simpa using hne
         have hq2 : (err != 0) = true := by simpa using hne
         clear hne)
      | skip
    go_upto_region 14 with fail
    go_wp2_with (at_builtin; refine P.wpList_append_sl _ rfl _ _ 30 rfl w7.heap.size 5 i0 (.int .u8 0) 1 Tryz.underlying30 HI.out HZ.out.1 HZ.out.2.1 HZ.out.2.2 rfl .u8 _ [] rfl HO9.out A1 e1 _ bs rfl HS9.out hnil (by simp; omega) (by decide) (by simp) ?_; intro v2 w8 ho2 hb2; rw [List.nil_append] at ho2; obtain ⟨g5, c5, rfl, hg5, hgl5, hc5, hcell, hfr, hset⟩ := P.own_set ho2 hkl; rw [hb0e.out] at hcell)
    have HO10 := Lib.hid (hset m)
    have hbl8 := HBn.out.trans (hb2.mono (by simp))
    have hbl10 : Below w7.heap.size w7 (w8.setCell ⟨g5, k, none⟩ (.int .u8 m)) := hbl8.setCell (show w7.heap.size ≤ g5 from hg5) _
    have HX10 := Lib.hid (HX7.out.below hbl10)
    have HB10 := Lib.hid (bstep HB9.out HB9.out.size hbl10)
    clear hset ho2 hb2 hbl8 hbl10 HO9 HBn HS9 HX7 HB9 HS7
    go_upto_region 17 with fail
    obtain ⟨W8, hW⟩ : ∃ W, w8.setCell ⟨g5, k, none⟩ (.int .u8 m) = W := ⟨_, rfl⟩
    rw [hW] at HO10 HX10 HB10
    try rw [hW]
    have HTc := Lib.hid (show Calls Tryz.prog 10 #[.slice (some ⟨g5, 0, none⟩) bs.length c5] W8 (TakeA (bs.set k m) W8) from by
      obtain ⟨A, c, e, h1, h2, h3⟩ := HO10.out.sl
      rw [List.length_set] at e
      cases e
      have h := take_any (some ⟨g5, 0, none⟩) c5 (bs.set k m) h1 (by rw [List.length_set]; omega) HCb.out W8 h3
      rw [List.length_set] at h
      exact h)
    unfold TakeA at HTc
    clear hW hcell hfr hgl5 hg5 hc5
    go_wp2_with fail
    with_reducible refine (HTc.out).mono ?_
    rintro e w9 ⟨z, f, rfl, hb, hon, -, htk⟩
    have HZf := Lib.hid (takeP_few HCb.out htk)
    have HX11 := Lib.hid ((HX10.out.below hb).below (new_below w9 (.cells #[.int .i64 z.w, .int .i64 z.h, .int .u8 z.k.r, .int .u8 z.k.g, .int .u8 z.k.b, .int .u8 z.k.a, .slice z.vA z.vs.length z.vc, .slice z.tA z.ts.length z.tc, .slice z.pA z.ps.length z.pc, .slice z.dA z.ds.length z.dc] 29)))
    have HZ11 := Lib.hid (has_new (x := z) hon.at)
    have HB11 := Lib.hid (bstep HB10.out HB10.out.size hb)
    have HB12 := Lib.hid (bstep HB11.out HB11.out.size (new_below w9 (.cells #[.int .i64 z.w, .int .i64 z.h, .int .u8 z.k.r, .int .u8 z.k.g, .int .u8 z.k.b, .int .u8 z.k.a, .slice z.vA z.vs.length z.vc, .slice z.tA z.ts.length z.tc, .slice z.pA z.ps.length z.pc, .slice z.dA z.ds.length z.dc] 29)))
    have HOz := Lib.hid (fun (h : f = 0) => show z.p ≠ x.p from HOt.out z.p (by rw [htk, h]))
    clear hb hon htk HTc HX10 HB10 HB11 HO10 HOt HCb
    go_upto_region 18 with fail
    obtain ⟨t9, ht⟩ : ∃ t, w9.alloc (.cells #[.int .i64 z.w, .int .i64 z.h, .int .u8 z.k.r, .int .u8 z.k.g, .int .u8 z.k.b, .int .u8 z.k.a, .slice z.vA z.vs.length z.vc, .slice z.tA z.ts.length z.tc, .slice z.pA z.ps.length z.pc, .slice z.dA z.ds.length z.dc] 29) = t := ⟨_, rfl⟩
    rw [ht] at HX11 HZ11 HB12
    rw [ht]
    clear ht
    obtain ⟨r3, hr3⟩ := exB (p := z.p = x.p)
    have HSc := Lib.hid (same_any z x t9 HZ11.out.a HX11.out.a (few_of rfl HZf.out) r3 hr3)
    obtain ⟨x0, x1, x2, x3, x4, x5, x6, x7, x8, x9⟩ := scB_cell HX11.out.g
    have xl := scB_lt HX11.out.g
    obtain ⟨z0, z1, z2, z3, z4, z5, z6, z7, z8, z9⟩ := scB_cell HZ11.out.g
    have zl := scB_lt HZ11.out.g
    go_wp2_with fail
    with_reducible refine (HSc.out).mono ?_
    rintro e w10 ⟨rfl, hb⟩
    have HB13 := Lib.hid (bstep HB12.out HB12.out.size hb)
    clear hb HSc HX11 HZ11 HB12 x0 x1 x2 x3 x4 x5 x6 x7 x8 x9 xl z0 z1 z2 z3 z4 z5 z6 z7 z8 z9 zl
    by_cases hf : f = 0
    · obtain rfl : r3 = false := by
        cases r3
        · rfl
        · exact absurd (hr3.1 rfl) (HOz.out hf)
      subst hf
      clear hr3 HOz
      go_wp2
      go_ret
      exact ⟨rfl, HB13.out⟩
    · have hf1 : (f != 0) = true := by simpa using hf
      clear hr3 HOz hf
      go_wp2
      go_ret
      exact ⟨rfl, HB13.out⟩
end Go.Proofs.YtfmmfaeognoleaaGreat
