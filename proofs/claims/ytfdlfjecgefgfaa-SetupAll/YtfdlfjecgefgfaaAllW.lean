/-
  SetupAll's walk.
-/
import Derived.Test.YtfdlfjecgefgfaaPixelsW
import Derived.Test.YtfdlfjecgefgfaaPartsW
import Derived.Test.YtfdlfjecgefgfaaRParts
import Derived.Test.YtfdlfjecgefgfaaEqQ
import Derived.Test.YtfdlfjecgefgfaaRBox
import Derived.Test.YtfdlfjecgefgfaaRPix
namespace Go.Proofs.Ytfdlfjecgefgfaa
open Go.RowKit
attribute [local go_sem ↓] Go.wp_at_zero Go.wp_at_succ
attribute [local go_sem high] neqD_self
attribute [local go_sem] guardD

theorem rprt_any {m k : Int} {a b c : C.V} (ha : a.ok) (hb : b.ok) (hc : c.ok) (hm : 1 ≤ m ∧ m ≤ 64) (hk : 1 ≤ k ∧ k ≤ 64) (w : World) :
    Calls Try.prog 13 #[.int .i64 m, .int .i64 k, .agg #[.int .i64 a.x, .int .i64 a.y, .int .i64 a.z, .int .i64 a.w, .int .i64 a.a, .int .i64 a.b, .int .i64 a.c, .int .i64 a.d, .int .i64 b.x, .int .i64 b.y, .int .i64 b.z, .int .i64 b.w, .int .i64 b.a, .int .i64 b.b, .int .i64 b.c, .int .i64 b.d, .int .i64 c.x, .int .i64 c.y, .int .i64 c.z, .int .i64 c.w, .int .i64 c.a, .int .i64 c.b, .int .i64 c.c, .int .i64 c.d]] w (MadeE EQ w.heap.size w (prt m k a b c)) := by
  obtain ⟨h1, h2, h3⟩ := parts_ok ha hb hc hm hk
  exact rparts_any m k a b c ha.sm hb.sm hc.sm h1 (by omega) h3 w
theorem new_three {w : World} (A B D : Obj) : (((w.alloc A).alloc B).alloc D).heap[w.heap.size]? = some A ∧ (((w.alloc A).alloc B).alloc D).heap[w.heap.size + 1]? = some B ∧ (((w.alloc A).alloc B).alloc D).heap[w.heap.size + 1 + 1]? = some D := by
  refine ⟨(Below.heap_alloc _ _ _ (by simp; omega)).trans (new_two A B).1, (Below.heap_alloc _ _ _ (by simp)).trans (new_two A B).2, new_at (by simp)⟩

set_option maxRecDepth 100000 in
set_option maxHeartbeats 4000000 in
theorem all_walk (a b c : C.V) (i j k' l m' n : Int) (hi0 : 0 ≤ i ∧ i ≤ 255) (hj0 : 0 ≤ j ∧ j ≤ 255) (bk : -128 ≤ k' ∧ k' ≤ 127) (bl : -128 ≤ l ∧ l ≤ 127) (bm : -128 ≤ m' ∧ m' ≤ 127) (bn : -128 ≤ n ∧ n ≤ 127) (w : World) :
    Calls Try.prog 3 #[.agg #[.int .u8 i, .int .u8 j], .agg #[.int .i64 a.x, .int .i64 a.y, .int .i64 a.z, .int .i64 a.w, .int .i64 a.a, .int .i64 a.b, .int .i64 a.c, .int .i64 a.d, .int .i64 b.x, .int .i64 b.y, .int .i64 b.z, .int .i64 b.w, .int .i64 b.a, .int .i64 b.b, .int .i64 b.c, .int .i64 b.d, .int .i64 c.x, .int .i64 c.y, .int .i64 c.z, .int .i64 c.w, .int .i64 c.a, .int .i64 c.b, .int .i64 c.c, .int .i64 c.d], .agg #[.int .i8 k', .int .i8 l, .int .i8 m', .int .i8 n]] w fun e w' => e = .returned (.bool true) ∧ Below w.heap.size w w' := by
  have HSh := Lib.hid shown_any
  have HF := fit3_any a b c
  have oa := C.fitV_ok a
  have ob := C.fitV_ok b
  have oc := C.fitV_ok c
  generalize C.fitV a = d at *
  generalize C.fitV b = e at *
  generalize C.fitV c = f at *
  replace HF := Lib.hid HF
  obtain ⟨m, hm⟩ : ∃ m, 1 + i % 64 = m := ⟨_, rfl⟩
  obtain ⟨k, hk⟩ : ∃ k, 1 + j % 64 = k := ⟨_, rfl⟩
  have EM := Lib.hid hm
  have EK := Lib.hid hk
  have HP := Lib.hid (fun w => prt_any oa ob oc (show 1 ≤ m ∧ m ≤ 64 by omega) (show 1 ≤ k ∧ k ≤ 64 by omega) w)
  have HRP := Lib.hid (fun w => rprt_any oa ob oc (show 1 ≤ m ∧ m ≤ 64 by omega) (show 1 ≤ k ∧ k ≤ 64 by omega) w)
  obtain ⟨hl, hg, -⟩ := prt_facts oa ob oc (show 1 ≤ m ∧ m ≤ 64 by omega) (show 1 ≤ k ∧ k ≤ 64 by omega)
  generalize prt m k d e f = L at *
  have HG := Lib.hid hg
  have tk := tmod_bd k' 71 (by decide)
  have tl := tmod_bd l 71 (by decide)
  have tm := tmod_bd m' 71 (by decide)
  have tn := tmod_bd n 71 (by decide)
  obtain ⟨x0, ex0⟩ : ∃ x, k'.tmod 71 = x := ⟨_, rfl⟩
  obtain ⟨y0, ey0⟩ : ∃ x, l.tmod 71 = x := ⟨_, rfl⟩
  obtain ⟨x1, ex1⟩ : ∃ x, m'.tmod 71 = x := ⟨_, rfl⟩
  obtain ⟨y1, ey1⟩ : ∃ x, n.tmod 71 = x := ⟨_, rfl⟩
  rw [ex0] at tk
  rw [ey0] at tl
  rw [ex1] at tm
  rw [ey1] at tn
  have hbig : (y1 - y0).toNat * (x1 - x0).toNat ≤ 140 * 140 := Nat.mul_le_mul (by omega) (by omega)
  have G1 := Lib.hid (show ∀ w, Calls Try.prog 16 #[.agg #[.int .i64 x0, .int .i64 y0, .int .i64 x1, .int .i64 y1], .int .i64 30000] w (Gone w x0 y0 x1 y1 30000) from gone_any x0 y0 x1 y1 30000 (by omega) (by omega) (by omega) (by omega) (by omega) (by omega))
  have G2 := Lib.hid (rpix_any x0 y0 x1 y1 30000 (by omega) (by omega) (by omega) (by omega) (by omega) (by omega))
  have hpl := pxs_len x0 y0 x1 y1
  have HX := Lib.hid (And.intro ex0 (And.intro ey0 (And.intro ex1 ey1)))
  clear oa ob oc hm hk hg ex0 ey0 ex1 ey1
  go_enter Try.func3, Try.ntmps3
  go_wp2_with fail
  with_reducible refine (HSh.out _).mono ?_
  rintro e' w1 ⟨rfl, hb⟩
  have T1 := Lib.hid (show w1.heap[w.heap.size + 1]? = some (v3B a b c) from (hb.block _ (by simp)).trans (new_three _ _ _).2.1)
  have X1 := Lib.hid (show w1.heap[w.heap.size + 1 + 1]? = some (.cells #[.int .i8 k', .int .i8 l, .int .i8 m', .int .i8 n] 28 (0, 0)) from (hb.block _ (by simp)).trans (new_three _ _ _).2.2)
  have S0 : w1.cell? ⟨w.heap.size, 0, none⟩ = some (.int .u8 i) := (hb.cell (p := ⟨w.heap.size, 0, none⟩) (by simp; omega)).trans (by simp [go_sem])
  have S1 : w1.cell? ⟨w.heap.size, 1, none⟩ = some (.int .u8 j) := (hb.cell (p := ⟨w.heap.size, 1, none⟩) (by simp; omega)).trans (by simp [go_sem])
  have K1 := Lib.hid (bstep ((((Below.refl w.heap.size w).alloc (Nat.le_refl _) _).alloc (by simp) _).alloc (by simp; omega) _) (by simp; omega) hb)
  clear hb
  go_wp2_with (refine wp_load3 (a := a) (b := b) (c := c) (.tmp 4) rfl rfl rfl T1.out ?_)
  with_reducible refine (HF.out _).mono ?_
  rintro e' w2 ⟨rfl, hb⟩
  have K2 := Lib.hid (bstep K1.out K1.out.size hb)
  have T2 := Lib.hid (v3B_grow T1.out hb)
  have X2 := Lib.hid ((hb.block _ (Array.getElem?_eq_some_iff.1 X1.out).1).trans X1.out)
  clear hb S0 S1 T1 K1 X1
  rw [EM.out, EK.out]
  go_wp2_with fail
  with_reducible refine (HP.out _).mono ?_
  rintro e' w3 ⟨v3, rfl, ho, hb⟩
  have K3 := Lib.hid (bstep K2.out K2.out.size hb)
  have T3 := Lib.hid (v3B_grow T2.out hb)
  have X3 := Lib.hid ((hb.block _ (Array.getElem?_eq_some_iff.1 X2.out).1).trans X2.out)
  obtain ⟨A3, c3, rfl, -, -, es⟩ := ho.es
  have E3 := Lib.hid es
  clear hb ho es K2 T2 X2
  generalize hn : L.length = N at *
  have HN := Lib.hid hn
  clear hn
  go_wp2_with (refine wp_load3 (a := a) (b := b) (c := c) (.tmp 4) rfl rfl rfl T3.out ?_)
  with_reducible refine (HF.out _).mono ?_
  rintro e' w4 ⟨rfl, hb⟩
  have K4 := Lib.hid (bstep K3.out K3.out.size hb)
  have X4 := Lib.hid ((hb.block _ (Array.getElem?_eq_some_iff.1 X3.out).1).trans X3.out)
  have E4 := Lib.hid ((E3.out.grow hb).more hb.size)
  clear hb K3 T3 X3 E3
  go_wp2_with fail
  with_reducible refine (HRP.out _).mono ?_
  rintro e' w5 ⟨v5, rfl, ho, hb⟩
  have K5 := Lib.hid (bstep K4.out K4.out.size hb)
  have X5 := Lib.hid ((hb.block _ (Array.getElem?_eq_some_iff.1 X4.out).1).trans X4.out)
  have E5 := Lib.hid ((E4.out.grow hb).more hb.size)
  obtain ⟨A5, c5, rfl, -, -, es⟩ := ho.es
  have F5 := Lib.hid es
  have SM := Lib.hid (show Calls Try.prog 12 #[.slice A3 N c3, .slice A5 N c5] w5 (fun e w' => e = .returned (.bool true) ∧ Below w5.heap.size w5 w') from HN.out ▸ same_any A3 A5 c3 c5 L w5 E5.out es (by have := HN.out; omega))
  clear hb ho es K4 X4 E4
  rw [HN.out]
  go_wp2_with fail
  with_reducible refine (SM.out).mono ?_
  rintro e' w6 ⟨rfl, hb⟩
  have K6 := Lib.hid (bstep K5.out K5.out.size hb)
  have X6 := Lib.hid ((hb.block _ (Array.getElem?_eq_some_iff.1 X5.out).1).trans X5.out)
  have E6 := Lib.hid (E5.out.grow hb |>.more hb.size)
  clear hb K5 X5 E5 F5 SM
  go_wp2
  go_loopw [12] (fun i wr => ∃ t : Nat, t ≤ N ∧ i = .int .i64 t ∧ Below w6.heap.size w6 wr) (fun i _ => N - (intOf i).toNat)
  case atStart => exact ⟨0, by omega, rfl, Below.refl _ _⟩
  case round =>
    obtain ⟨t, ht, rfl, hbel⟩ := hrel
    have HB := Lib.hid hbel
    clear hbel
    by_cases hlt : t < N
    · obtain ⟨q, hq⟩ : ∃ q, L[t]? = some q := ⟨_, List.getElem?_eq_getElem (show t < L.length by rw [HN.out]; exact hlt)⟩
      obtain ⟨⟨-, s1, s2, s3, -⟩, -⟩ := HG.out q (List.mem_of_getElem? hq)
      obtain ⟨b3, off3, rfl, hbB, hat⟩ := E6.out.at hq
      have HT := Lib.hid (show wr.rangeAt b3 (off3 + t * 22 + 1) [.int .i64 q.a.x, .int .i64 q.a.y, .int .i64 q.a.z, .int .i64 q.a.a, .int .i64 q.a.b, .int .i64 q.a.c, .int .i64 q.a.d, .int .i64 q.b.x, .int .i64 q.b.y, .int .i64 q.b.z, .int .i64 q.b.a, .int .i64 q.b.b, .int .i64 q.b.c, .int .i64 q.b.d, .int .i64 q.c.x, .int .i64 q.c.y, .int .i64 q.c.z, .int .i64 q.c.a, .int .i64 q.c.b, .int .i64 q.c.c, .int .i64 q.c.d] from atQ_t (hat.below HB.out hbB))
      have hbz : b3 < wr.heap.size := by have := HB.out.size; omega
      have B1 := Lib.hid (box_any m k q.a q.b q.c s1 s2 s3)
      have B2 := Lib.hid (rbox_any m k q.a q.b q.c s1 s2 s3)
      generalize lo q.a.x q.b.x q.c.x = u0 at *
      generalize lo q.a.y q.b.y q.c.y = u1 at *
      generalize hi m q.a.x q.b.x q.c.x = u2 at *
      generalize hi k q.a.y q.b.y q.c.y = u3 at *
      have hti : (t : Int) < (N : Int) := by omega
      clear hat hq s1 s2 s3
      go_wp2_with (refine wp_midT (a := q.a) (b := q.b) (c := q.c) (.tmp 67) rfl rfl rfl HT.out ?_)
      with_reducible refine (B1.out _).mono ?_
      rintro e' w7 ⟨rfl, hb⟩
      have K7 := Lib.hid (bstep HB.out HB.out.size hb)
      have HT7 := Lib.hid (range_below HT.out hb hbz)
      clear hb HT
      go_wp2_with (refine wp_midT (a := q.a) (b := q.b) (c := q.c) (.tmp 80) rfl rfl rfl HT7.out ?_)
      with_reducible refine (B2.out _).mono ?_
      rintro e' w8 ⟨rfl, hb⟩
      have K8 := Lib.hid (bstep K7.out K7.out.size hb)
      clear hb HT7 K7
      go_wp2
      go_roundw
      case rel => exact ⟨t + 1, by omega, by go_num, K8.out⟩
      case measure => simp [intOf]; omega
    · have X7 := (HB.out.block _ (Array.getElem?_eq_some_iff.1 X6.out).1).trans X6.out
      have K7 := Lib.hid (bstep K6.out K6.out.size HB.out)
      have c0 : wr.cell? ⟨w.heap.size + 1 + 1, 0, none⟩ = some (.int .i8 k') := by simp [World.cell?, X7]
      have c1 : wr.cell? ⟨w.heap.size + 1 + 1, 1, none⟩ = some (.int .i8 l) := by simp [World.cell?, X7]
      have c2 : wr.cell? ⟨w.heap.size + 1 + 1, 2, none⟩ = some (.int .i8 m') := by simp [World.cell?, X7]
      have c3' : wr.cell? ⟨w.heap.size + 1 + 1, 3, none⟩ = some (.int .i8 n) := by simp [World.cell?, X7]
      obtain ⟨ex0, ey0, ex1, ey1⟩ := HX.out
      clear X7 HB X6 K6 E6
      go_wp2_with fail
      with_reducible refine (G1.out _).mono ?_
      rintro e' w8 ⟨v8, rfl, ho8, hb⟩
      have z7 := K7.out.size
      have L8 := Lib.hid (show w8.heap[wr.heap.size]? = some (.cells #[.int .i64 x0, .int .i64 y0, .int .i64 x1, .int .i64 y1] 23 (0, 0)) from (hb.block _ (by simp)).trans (heap_alloc_new _ _))
      have K8 := Lib.hid (bstep (K7.out.alloc z7 _) (by simp; omega) hb)
      clear hb c0 c1 c2 c3' K7 ex0 ey0 ex1 ey1
      have d0 : w8.cell? ⟨wr.heap.size, 0, none⟩ = some (.int .i64 x0) := by simp [World.cell?, L8.out]
      have d1 : w8.cell? ⟨wr.heap.size, 1, none⟩ = some (.int .i64 y0) := by simp [World.cell?, L8.out]
      have d2 : w8.cell? ⟨wr.heap.size, 2, none⟩ = some (.int .i64 x1) := by simp [World.cell?, L8.out]
      have d3 : w8.cell? ⟨wr.heap.size, 3, none⟩ = some (.int .i64 y1) := by simp [World.cell?, L8.out]
      have HO8 := Lib.hid ho8
      clear ho8
      go_wp2_with fail
      with_reducible refine (G2.out _).mono ?_
      rintro e' w9 ⟨v9, rfl, ho9, hb⟩
      have K9 := Lib.hid (bstep K8.out K8.out.size hb)
      have ho8 := HO8.out.keep hb
      rw [List.take_of_length_le (by omega)] at ho8
      obtain ⟨A8, c8, rfl, -, -, es8⟩ := ho8.es
      obtain ⟨A9, c9, rfl, -, -, es9⟩ := ho9.es
      generalize hQ : (pxs x0 y0 x1 y1).length = M at *
      have HQL := Lib.hid hQ
      have hMb : M ≤ 19600 := by omega
      clear hQ hpl hbig
      have E8 := Lib.hid es8
      have E9 := Lib.hid es9
      clear hb d0 d1 d2 d3 ho8 ho9 es8 es9 HO8 L8 K8
      go_wp2
      go_loopw [25] (fun i wr => ∃ t : Nat, t ≤ M ∧ i = .int .i64 t ∧ Below w9.heap.size w9 wr) (fun i _ => M - (intOf i).toNat)
      case atStart => exact ⟨0, by omega, rfl, Below.refl _ _⟩
      case round =>
        obtain ⟨s, hs, rfl, hbel⟩ := hrel
        have HB := Lib.hid hbel
        clear hbel
        by_cases hst : s < M
        · obtain ⟨q, hq⟩ : ∃ q, (pxs x0 y0 x1 y1)[s]? = some q := ⟨_, List.getElem?_eq_getElem (show s < (pxs x0 y0 x1 y1).length by rw [HQL.out]; exact hst)⟩
          obtain ⟨b8, off8, rfl, hb8, at8⟩ := E8.out.at hq
          obtain ⟨b9, off9, rfl, hb9, at9⟩ := E9.out.at hq
          rename World => wq
          have at8 := at8.below HB.out hb8
          have at9 := at9.below HB.out hb9
          have a0 : wq.cell? ⟨b8, off8 + s * 2, none⟩ = some (.int .i64 q.1) := at8 0 _ rfl
          have a1 : wq.cell? ⟨b8, off8 + s * 2 + 1, none⟩ = some (.int .i64 q.2) := at8 1 _ rfl
          have a2 : wq.cell? ⟨b9, off9 + s * 2, none⟩ = some (.int .i64 q.1) := at9 0 _ rfl
          have a3 : wq.cell? ⟨b9, off9 + s * 2 + 1, none⟩ = some (.int .i64 q.2) := at9 1 _ rfl
          generalize q.1 = X at *
          generalize q.2 = Y at *
          have hsi : (s : Int) < (M : Int) := by omega
          clear at8 at9 hq
          go_wp2_with fail
          go_big_quiet (fail)
          go_wp2
          go_roundw
          case rel => exact ⟨s + 1, by omega, by go_num, below_drewN HB.out⟩
          case measure => simp [intOf]; omega
        · go_wp2
          go_ret
          exact ⟨rfl, bstep K9.out K9.out.size HB.out⟩
end Go.Proofs.Ytfdlfjecgefgfaa
