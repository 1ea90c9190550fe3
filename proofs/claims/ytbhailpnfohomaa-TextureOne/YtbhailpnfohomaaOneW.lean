/-
  The walk of glazierlaw11.TextureOne.
-/
import Derived.Test.YtbhailpnfohomaaHeads
import Derived.Lib.MinMax
namespace Go.Proofs.Ytbhailpnfohomaa
open Go.RowKit
attribute [local go_sem ↓] Go.wp_at_zero Go.wp_at_succ
attribute [local go_sem high] eqlC neqC
attribute [local go_sem] guardC sameC_self

set_option maxRecDepth 100000 in
set_option maxHeartbeats 4000000 in
theorem one_walk (t : Tx) (A : Option Addr) (c : Nat) (k0 : Col) (x y : Int) (hw : I64 t.w) (hh : I64 t.h) (hc : t.px.length ≤ c) (hnil : A = none → t.px.length = 0) (hok : t.ok) (hk0 : k0.ok) (hx : I64 x) (hy : I64 y) (w : World) (he : Es EC w w.heap.size A t.px) :
    Calls Try.prog 5 #[.agg #[.int .i64 t.w, .int .i64 t.h, .slice A t.px.length c], .agg #[.int .u8 k0.r, .int .u8 k0.g, .int .u8 k0.b, .int .u8 k0.a], .agg #[.int .i64 x, .int .i64 y]] w fun e w' => e = .returned (.bool true) ∧ Below w.heap.size w w' := by
  obtain ⟨u, hu⟩ : ∃ a, x.tmod 1099511627777 = a := ⟨_, rfl⟩
  obtain ⟨v, hv⟩ : ∃ b, y.tmod 1099511627777 = b := ⟨_, rfl⟩
  have fu : Far u := by have := tmod_bd x 1099511627777 (by decide); rw [hu] at this; unfold Far; omega
  have fv : Far v := by have := tmod_bd y 1099511627777 (by decide); rw [hv] at this; unfold Far; omega
  have SU := Lib.hid (small_any x u hx hu)
  have SV := Lib.hid (small_any y v hy hv)
  have HU := Lib.hid fu
  have HV := Lib.hid fv
  have HK0 := Lib.hid hk0
  have HF := Lib.hid (few_any t A c hc hnil)
  have hT : (fewT t).ok := fewT_ok hok
  have HE := Lib.hid he
  have HT := Lib.hid (fun w he => fit_any (fewT t) A c w hw hh he)
  have HG := Lib.hid (fitT_right (fewT t))
  have hF : (fitT (fewT t)).ok := fitT_ok hT
  have HET := Lib.hid (show ∀ w' : World, Below w.heap.size w w' → Es EC w' w'.heap.size A (fewT t).px from fun _ hb => (HE.out.up hb).take 300)
  generalize fitT (fewT t) = F at *
  generalize fewT t = T at *
  have HFK := Lib.hid hF
  clear hw hh hc hnil hok he HE hT hF hu hv fu fv hx hy hk0
  go_enter Try.func5, Try.ntmps5
  go_wp2_with fail
  have H0 := Lib.hid ((((Below.refl w.heap.size w).alloc (Nat.le_refl _) (.cells #[.int .i64 t.w, .int .i64 t.h, .slice A t.px.length c] 24)).alloc (by simp) (.cells #[.int .u8 k0.r, .int .u8 k0.g, .int .u8 k0.b, .int .u8 k0.a] 30)).alloc (by simp <;> omega) (.cells #[.int .i64 x, .int .i64 y] 33))
  have HB := Lib.hid (show (((w.alloc (.cells #[.int .i64 t.w, .int .i64 t.h, .slice A t.px.length c] 24)).alloc (.cells #[.int .u8 k0.r, .int .u8 k0.g, .int .u8 k0.b, .int .u8 k0.a] 30)).alloc (.cells #[.int .i64 x, .int .i64 y] 33)).heap[w.heap.size]? = some (.cells #[.int .i64 t.w, .int .i64 t.h, .slice A t.px.length c] 24) ∧ (((w.alloc (.cells #[.int .i64 t.w, .int .i64 t.h, .slice A t.px.length c] 24)).alloc (.cells #[.int .u8 k0.r, .int .u8 k0.g, .int .u8 k0.b, .int .u8 k0.a] 30)).alloc (.cells #[.int .i64 x, .int .i64 y] 33)).heap[w.heap.size + 1]? = some (.cells #[.int .u8 k0.r, .int .u8 k0.g, .int .u8 k0.b, .int .u8 k0.a] 30) ∧ (((w.alloc (.cells #[.int .i64 t.w, .int .i64 t.h, .slice A t.px.length c] 24)).alloc (.cells #[.int .u8 k0.r, .int .u8 k0.g, .int .u8 k0.b, .int .u8 k0.a] 30)).alloc (.cells #[.int .i64 x, .int .i64 y] 33)).heap[w.heap.size + 1 + 1]? = some (.cells #[.int .i64 x, .int .i64 y] 33) from ⟨new_at30 _ _ _ _, new_at31 _ _ _ _, new_at32 _ _ _ _⟩)
  generalize ((w.alloc (.cells #[.int .i64 t.w, .int .i64 t.h, .slice A t.px.length c] 24)).alloc (.cells #[.int .u8 k0.r, .int .u8 k0.g, .int .u8 k0.b, .int .u8 k0.a] 30)).alloc (.cells #[.int .i64 x, .int .i64 y] 33) = w0 at *
  with_reducible refine (shown_any w0).mono ?_
  rintro e w1 ⟨rfl, hb⟩
  have B1 := Lib.hid (bstep H0.out H0.out.size hb)
  have NHB := Lib.hid (show w1.heap[w.heap.size]? = some (.cells #[.int .i64 t.w, .int .i64 t.h, .slice A t.px.length c] 24) ∧ w1.heap[w.heap.size + 1]? = some (.cells #[.int .u8 k0.r, .int .u8 k0.g, .int .u8 k0.b, .int .u8 k0.a] 30) ∧ w1.heap[w.heap.size + 1 + 1]? = some (.cells #[.int .i64 x, .int .i64 y] 33) from ⟨(hb.block _ (Array.getElem?_eq_some_iff.1 HB.out.1).1).trans HB.out.1, (hb.block _ (Array.getElem?_eq_some_iff.1 HB.out.2.1).1).trans HB.out.2.1, (hb.block _ (Array.getElem?_eq_some_iff.1 HB.out.2.2).1).trans HB.out.2.2⟩)
  clear HB
  have HB := NHB
  clear NHB
  clear hb H0
  obtain ⟨e0, e1, e2⟩ := txB_cell (show w1.heap[w.heap.size]? = some (txB t A c) from HB.out.1)
  go_wp2_with fail
  with_reducible refine (HF.out _).mono ?_
  rintro e w2 ⟨rfl, hb⟩
  have B2 := Lib.hid (bstep B1.out B1.out.size hb)
  have K2 := Lib.hid (show w2.heap[w.heap.size + 1]? = some (colB k0) from blk_keep HB.out.2.1 hb)
  have I2 := Lib.hid (show w2.heap[w.heap.size + 1 + 1]? = some (iB x y) from blk_keep HB.out.2.2 hb)
  clear hb B1 e0 e1 e2 HB
  go_wp2_with fail
  with_reducible refine (HT.out _ (HET.out _ B2.out)).mono ?_
  rintro e w4 ⟨A', c', rfl, -, hes, -, hb⟩
  have B4 := bstep B2.out B2.out.size hb
  have hn4 := new_below w4 (.cells #[.int .i64 F.w, .int .i64 F.h, .slice A' F.px.length c'] 24)
  have EF := Lib.hid (hes.up hn4)
  have F5 := Lib.hid (show (w4.alloc (.cells #[.int .i64 F.w, .int .i64 F.h, .slice A' F.px.length c'] 24)).heap[w4.heap.size]? = some (txB F A' c') from new_at1 _ _)
  have B5 := Lib.hid (bstep B4 B4.size hn4)
  have K5 := Lib.hid (blk_keep (blk_keep K2.out hb) hn4)
  have i5 := blk_keep (blk_keep I2.out hb) hn4
  obtain ⟨s0, s1⟩ := iB_cell i5
  clear hb hes hn4 B2 B4 HET HT HF K2 I2 i5
  go_wp2_with fail
  generalize w4.heap.size = g at *
  generalize w4.alloc (.cells #[.int .i64 F.w, .int .i64 F.h, .slice A' F.px.length c'] 24) = X at *
  obtain ⟨d0, d1, d2⟩ := txB_cell F5.out
  go_wp2_with (go_at_call 11; first | ((with_reducible refine (SU.out _).mono ?_); rintro e w' ⟨rfl, rfl⟩) | ((with_reducible refine (SV.out _).mono ?_); rintro e w' ⟨rfl, rfl⟩))
  obtain ⟨w0', w1', h0, h1, hl⟩ := Tx.fine HG.out
  obtain ⟨m, hm⟩ : ∃ m, F.w * F.h = m := ⟨_, rfl⟩
  have hm2 := area_bd w0' w1' h0 h1 hm
  have HM := Lib.hid hm
  have wm : IntKind.i64.wrap (F.w * F.h) = m := by rw [hm, IntKind.wrap_i64]; omega
  rw [hm] at hl
  clear hm s0 s1 SU SV
  obtain ⟨i0, hi, hz0, hz1, hz2⟩ := info_parts Try.info30
  have HI := Lib.hid hi
  have HZ := Lib.hid (And.intro hz0 (And.intro hz1 hz2))
  clear hi hz0 hz1 hz2
  go_loopw [12] (fun i wr => ∃ (k : Nat) (v : Value), (k : Int) ≤ m ∧ i = .int .i64 k ∧ X.heap.size + 1 ≤ wr.heap.size ∧ Below X.heap.size X wr ∧ wr.heap[X.heap.size]? = some (fB F.w F.h v) ∧ OwnE EC wr (X.heap.size + 1) v ((List.range k).map fun _ => k0))
    (fun i _ => m.toNat - (intOf i).toNat)
  case atStart => exact ⟨0, _, by omega, rfl, by simp, new_below _ _, new_at1 _ _, OwnE.nil _ _⟩
  case round =>
    obtain ⟨k, vv, hk, rfl, hsz, hB, hG, hO⟩ := hrel
    have HB := Lib.hid hB
    have HGG := Lib.hid hG
    obtain ⟨A1, c1, rfl⟩ := hO.form
    have HO := Lib.hid hO
    obtain ⟨a0, a1, a2⟩ := fB_cell hG
    obtain ⟨b0, b1, b2⟩ := fB_free hG
    have hglt := fB_lt hG
    obtain ⟨e0, e1, e2⟩ := txB_cell (txB_grow F5.out hB)
    obtain ⟨q0, q1, q2, q3⟩ := colB_cell (show wr.heap[w.heap.size + 1]? = some (colB k0) from blk_keep K5.out hB)
    have hcl : ((List.range k).map fun _ => k0).length = k := by simp
    clear hB hG hO d0 d1 d2
    by_cases hlt : (k : Int) < m
    · have HS := Lib.hid (range_snoc (fun _ => k0) k)
      generalize (List.range k).map (fun _ => k0) = cs at *
      have HC := Lib.hid hcl
      have hc256 : cs.length ≤ 256 := by omega
      clear hcl
      go_wp2_with (at_builtin; refine wpList_append_own _ rfl _ _ 22 rfl (X.heap.size + 1) 30 i0 _ 4 4 Try.underlying22 HI.out HZ.out.1 HZ.out.2.1 HZ.out.2.2 (by kernel_rfl) (by decide) _ _ (EC.flat cs) rfl (HO.out.alloc _).row _ 1 1 (EC.cells k0) rfl rfl (newC_at (by simp)) (EC.one _) (by unfold maxLen; omega) (by omega) (by simp; omega) ?_; intro v' w6 hown' hgrow _; obtain ⟨ho6, hb6⟩ := append_ofE (E := EC) (x := k0) HO.out (by omega) hown' hgrow; obtain ⟨A2, c2', rfl⟩ := ho6.form; have O6 := Lib.hid ho6; have B6 := Lib.hid hb6; have F6 := fB_free ((hb6.block X.heap.size (by omega)).trans HGG.out); obtain ⟨q0, q1, q2⟩ := F6; have E6 := fB_cell ((hb6.block X.heap.size (by omega)).trans HGG.out); obtain ⟨r0, r1, r2⟩ := E6; clear hown' hgrow ho6 hb6)
      go_roundw
      case rel =>
        refine ⟨k + 1, .slice A2 (cs.length + 1) c2', by omega, by go_num, by have := B6.out.size; simp at this ⊢; omega, (HB.out.trans (B6.out.mono (by omega))).setCell (Nat.le_refl _) _, ?_, ?_⟩
        · exact fB_set2 _ ((B6.out.block _ (by omega)).trans HGG.out)
        · rw [HS.out]; have h := O6.out; rw [List.length_append] at h; exact h.setCell (by omega)
      case measure => simp [intOf]; omega
    · obtain rfl : m = (k : Int) := by omega
      have eP : ofT F.w F.h (fun _ => k0) = ⟨F.w, F.h, (List.range k).map fun _ => k0⟩ := by unfold ofT; rw [HM.out, Int.toNat_natCast]
      have HP := Lib.hid eP
      generalize (List.range k).map (fun _ => k0) = cs at *
      have HC := Lib.hid hcl
      have BX := Lib.hid (bstep B5.out B5.out.size HB.out)
      clear hcl eP
      have EW := Lib.hid (EF.out.up HB.out)
      have KW := Lib.hid (show wr.heap[w.heap.size + 1]? = some (colB k0) from blk_keep K5.out HB.out)
      have FW := Lib.hid (txB_grow F5.out HB.out)
      go_wp2_with fail
      go_loopw [15, 13, 14] (fun i sa sb wr2 => ∃ (j : Nat) (lo hi : Int), (j : Int) ≤ (k : Int) ∧ i = .int .i64 j ∧ sa = .int .u8 lo ∧ sb = .int .u8 hi ∧ (∀ p ∈ F.px.take j, lo ≤ p.g ∧ p.g ≤ hi) ∧ wr2 = wr)
        (fun i _ _ _ => k - (intOf i).toNat)
      case atStart => exact ⟨0, 255, 0, by omega, rfl, rfl, rfl, fun p hp => by simp at hp, rfl⟩
      case round =>
        obtain ⟨j, lo, hi, hj, rfl, rfl, rfl, hall, rfl⟩ := hrel
        have HA := Lib.hid hall
        clear hall
        by_cases hlt2 : (j : Int) < (k : Int)
        · obtain ⟨p, hp⟩ : ∃ p, F.px[j]? = some p := ⟨_, List.getElem?_eq_getElem (by omega)⟩
          have HP2 := Lib.hid hp
          obtain ⟨b, off, rfl, -, hcc⟩ := EW.out.at hp
          obtain ⟨p0, p1, p2, p3⟩ := atC (show AtE EC wr b (off + j * 4) p from hcc)
          clear hp hcc
          go_wp2_with fail
          go_roundw
          case rel =>
            refine ⟨j + 1, min lo p.g, max hi p.g, by omega, by go_num, rfl, rfl, ?_, trivial⟩
            rw [List.take_add_one, HP2.out]
            intro z hz
            rcases List.mem_append.1 hz with h | h
            · have := HA.out z h; omega
            · simp at h; subst h; omega
          case measure => simp [intOf]; omega
        · obtain rfl : k = j := by omega
          have hall := HA.out
          rw [List.take_of_length_le (by omega)] at hall
          obtain ⟨sg0, sg1⟩ := smooth_between HG.out hall u v
          clear HA hall
          go_wp2_with fail
          with_reducible refine (smooth_any F HFK.out A' c' u v HU.out HV.out wr EW.out).mono ?_
          rintro e V1 ⟨rfl, hb⟩
          have B1 := Lib.hid (bstep BX.out BX.out.size hb)
          have K1 := Lib.hid (blk_keep KW.out hb)
          have F1 := Lib.hid (txB_grow FW.out hb)
          have E1 := Lib.hid (EW.out.up hb)
          have O1 := Lib.hid (show V1.heap[X.heap.size]? = some (fB F.w F.h (.slice A1 cs.length c1)) from blk_keep HGG.out hb)
          have ho := (Es.own (HO.out.keep hb)).2
          have P1 := Lib.hid ho
          obtain ⟨f0, f1, f2⟩ := txB_cell F1.out
          have gl := txB_lt F1.out
          obtain ⟨sc, hsc⟩ : ∃ sc, F.smooth u v = sc := ⟨_, rfl⟩
          rw [hsc] at sg0 sg1 ⊢
          clear hb ho hsc e0 e1 e2 q0 q1 q2 q3 a0 a1 a2 b0 b1 b2 EW KW FW BX HGG HO
          go_wp2_with fail
          have hd := ((Below.refl V1.heap.size V1).alloc (Nat.le_refl _) (.cells #[.int .u8 sc.r, .int .u8 sc.g, .int .u8 sc.b, .int .u8 sc.a] 30)).alloc (by simp) (.cells #[.int .i64 (F.w + 1), .int .i64 F.h, .slice A' F.px.length c'] 24)
          have SS := Lib.hid (show ((V1.alloc (.cells #[.int .u8 sc.r, .int .u8 sc.g, .int .u8 sc.b, .int .u8 sc.a] 30)).alloc (.cells #[.int .i64 (F.w + 1), .int .i64 F.h, .slice A' F.px.length c'] 24)).heap[V1.heap.size]? = some (colB sc) from new_at20 _ _ _)
          have SB := Lib.hid (show ((V1.alloc (.cells #[.int .u8 sc.r, .int .u8 sc.g, .int .u8 sc.b, .int .u8 sc.a] 30)).alloc (.cells #[.int .i64 (F.w + 1), .int .i64 F.h, .slice A' F.px.length c'] 24)).heap[V1.heap.size + 1]? = some (fB (F.w + 1) F.h (.slice A' F.px.length c')) from new_at2 _ _ _)
          have B2 := Lib.hid (bstep B1.out B1.out.size hd)
          have K2 := Lib.hid (blk_keep K1.out hd)
          have E2 := Lib.hid (E1.out.up hd)
          have O2 := Lib.hid (blk_keep O1.out hd)
          have P2 := Lib.hid (P1.out.up hd)
          clear hd f0 f1 f2 gl B1 K1 F1 E1 O1 P1
          generalize V1.heap.size = gs at *
          generalize (V1.alloc (.cells #[.int .u8 sc.r, .int .u8 sc.g, .int .u8 sc.b, .int .u8 sc.a] 30)).alloc (.cells #[.int .i64 (F.w + 1), .int .i64 F.h, .slice A' F.px.length c'] 24) = Z at *
          have okP : (ofT F.w F.h (fun _ => k0)).ok := ofT_ok (fun _ => HK0.out)
          have q1 := one_smooth (w := F.w) (h := F.h) k0 w0' w1' h0 h1 u v
          have q2 : (ofT F.w F.h (fun _ => k0)).near u v = k0 := one_at k0 w0' w1' h0 h1 _ _
          rw [HP.out] at okP q1 q2
          have S1 := Lib.hid (show ∀ x' : Grow Z, Calls Try.prog 18 #[.agg #[.int .i64 F.w, .int .i64 F.h, .slice A1 cs.length c1], .int .i64 u, .int .i64 v] x'.w fun e w' => e = .returned (.agg #[.int .u8 k0.r, .int .u8 k0.g, .int .u8 k0.b, .int .u8 k0.a]) ∧ Below x'.w.heap.size x'.w w' from fun x' => by
            have h := smooth_any ⟨F.w, F.h, cs⟩ okP A1 c1 u v HU.out HV.out x'.w (P2.out.up x'.below)
            rw [q1] at h
            exact h)
          have N1 := Lib.hid (show ∀ x' : Grow Z, Calls Try.prog 16 #[.agg #[.int .i64 F.w, .int .i64 F.h, .slice A1 cs.length c1], .int .i64 u, .int .i64 v] x'.w fun e w' => e = .returned (.agg #[.int .u8 k0.r, .int .u8 k0.g, .int .u8 k0.b, .int .u8 k0.a]) ∧ Below x'.w.heap.size x'.w w' from fun x' => by
            have h := near_any ⟨F.w, F.h, cs⟩ A1 c1 u v HU.out.i64 HV.out.i64 x'.w (P2.out.up x'.below)
            rw [q2] at h
            exact h)
          have hbr := bad_right HG.out
          have S2 := Lib.hid (show ∀ x' : Grow Z, Calls Try.prog 18 #[.agg #[.int .i64 (F.w + 1), .int .i64 F.h, .slice A' F.px.length c'], .int .i64 u, .int .i64 v] x'.w fun e w' => e = .returned (.agg #[.int .u8 0, .int .u8 0, .int .u8 0, .int .u8 0]) ∧ Below x'.w.heap.size x'.w w' from fun x' => by
            have h := smooth_any ⟨F.w + 1, F.h, F.px⟩ HFK.out A' c' u v HU.out HV.out x'.w (E2.out.up x'.below)
            rw [bad_smooth hbr] at h
            exact h)
          have N2 := Lib.hid (show ∀ x' : Grow Z, Calls Try.prog 16 #[.agg #[.int .i64 (F.w + 1), .int .i64 F.h, .slice A' F.px.length c'], .int .i64 u, .int .i64 v] x'.w fun e w' => e = .returned (.agg #[.int .u8 0, .int .u8 0, .int .u8 0, .int .u8 0]) ∧ Below x'.w.heap.size x'.w w' from fun x' => by
            have h := near_any ⟨F.w + 1, F.h, F.px⟩ A' c' u v HU.out.i64 HV.out.i64 x'.w (E2.out.up x'.below)
            rw [show (Tx.mk (F.w + 1) F.h F.px).near u v = zC from bad_at hbr _ _] at h
            exact h)
          have C2 := Lib.hid (show ∀ x' : Grow Z, Calls Try.prog 14 #[.agg #[.int .i64 (F.w + 1), .int .i64 F.h, .slice A' F.px.length c'], .int .i64 u, .int .i64 v] x'.w fun e w' => e = .returned (.agg #[.int .u8 0, .int .u8 0, .int .u8 0, .int .u8 0]) ∧ Below x'.w.heap.size x'.w w' from fun x' => by
            have h := texel_any ⟨F.w + 1, F.h, F.px⟩ A' c' u v HU.out.i64 HV.out.i64 x'.w (E2.out.up x'.below)
            rw [bad_at hbr] at h
            exact h)
          have R2 := Lib.hid (show ∀ x' : Grow Z, Calls Try.prog 12 #[.agg #[.int .i64 (F.w + 1), .int .i64 F.h, .slice A' F.px.length c']] x'.w fun e w' => e = .returned (.bool false) ∧ Below x'.w.heap.size x'.w w' from fun x' => by
            have h := right_any ⟨F.w + 1, F.h, F.px⟩ A' c' x'.w
            rw [hbr] at h
            exact h)
          have d0 := fB_cell O2.out
          have d1 := fB_cell SB.out
          have d2 := colB_cell K2.out
          have d3 := colB_cell SS.out
          have y0 : ∀ x : Grow Z, x.w.cell? ⟨X.heap.size, 0, none⟩ = some (.int .i64 F.w) := fun x => x.cell d0.1
          have y1 : ∀ x : Grow Z, x.w.cell? ⟨X.heap.size, 1, none⟩ = some (.int .i64 F.h) := fun x => x.cell d0.2.1
          have y2 : ∀ x : Grow Z, x.w.cell? ⟨X.heap.size, 2, none⟩ = some (.slice A1 cs.length c1) := fun x => x.cell d0.2.2
          have z0 : ∀ x : Grow Z, x.w.cell? ⟨gs + 1, 0, none⟩ = some (.int .i64 (F.w + 1)) := fun x => x.cell d1.1
          have z1 : ∀ x : Grow Z, x.w.cell? ⟨gs + 1, 1, none⟩ = some (.int .i64 F.h) := fun x => x.cell d1.2.1
          have z2 : ∀ x : Grow Z, x.w.cell? ⟨gs + 1, 2, none⟩ = some (.slice A' F.px.length c') := fun x => x.cell d1.2.2
          have k0' : ∀ x : Grow Z, x.w.cell? ⟨w.heap.size + 1, 0, none⟩ = some (.int .u8 k0.r) := fun x => x.cell d2.1
          have k1' : ∀ x : Grow Z, x.w.cell? ⟨w.heap.size + 1, 1, none⟩ = some (.int .u8 k0.g) := fun x => x.cell d2.2.1
          have k2' : ∀ x : Grow Z, x.w.cell? ⟨w.heap.size + 1, 2, none⟩ = some (.int .u8 k0.b) := fun x => x.cell d2.2.2.1
          have k3' : ∀ x : Grow Z, x.w.cell? ⟨w.heap.size + 1, 3, none⟩ = some (.int .u8 k0.a) := fun x => x.cell d2.2.2.2
          have s1' : ∀ x : Grow Z, x.w.cell? ⟨gs, 1, none⟩ = some (.int .u8 sc.g) := fun x => x.cell d3.2.1
          have ne1 := Grow.ne Z
          have g0 : decide (lo ≤ sc.g) = true := by simpa using sg0
          have g1 : decide (sc.g ≤ hi) = true := by simpa using sg1
          clear d0 d1 d2 d3 q1 q2 hbr
          refine wp_region_grow (by kernel_rfl) (by kernel_rfl) ?_
          repeat (first | go_big_quiet_skip | go_big_quiet_step (first | (go_at_call 12; with_reducible exact Grow.calls (R2.out _)) | (go_at_call 14; with_reducible exact Grow.calls (C2.out _)) | (go_at_call 16; first | (with_reducible exact Grow.calls (N1.out _)) | (with_reducible exact Grow.calls (N2.out _))) | (go_at_call 18; first | (with_reducible exact Grow.calls (S1.out _)) | (with_reducible exact Grow.calls (S2.out _)))))
          refine wpQuiet_nil ?_
          rintro _ ⟨x', rfl⟩
          have B9 := Lib.hid (bstep B2.out B2.out.size x'.below)
          clear y0 y1 y2 z0 z1 z2 k0' k1' k2' k3' s1' ne1 N1 N2 S1 S2 C2 R2
          generalize x'.w = Y2 at *
          clear x'
          go_wp2_with fail
          go_ret
          exact ⟨rfl, B9.out⟩
end Go.Proofs.Ytbhailpnfohomaa
