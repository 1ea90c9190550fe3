/-
  The document's Fold, Mean and Mix, at this seat's translation: they are those of package colour.
-/
import Derived.Test.YtpnjhmmodkhmfaaRef
namespace Go.Proofs.Ytpnjhmmodkhmfaa
open Go.RowKit
attribute [local go_sem ↓] Go.wp_at_zero Go.wp_at_succ

set_option maxHeartbeats 2000000 in
theorem rfold_row (c : Col) (l : List Col) (b off cap : Nat) (w : World) (hc : c.ok) (hl : ∀ x ∈ l, x.ok) (hn : l.length ≤ 1000) (hr : ColsAt w b off l) :
    Calls Try.prog 18 #[.agg #[.int .u8 c.r, .int .u8 c.g, .int .u8 c.b, .int .u8 c.a], .slice (some ⟨b, off, none⟩) l.length cap] w fun e w' => e = .returned (.agg #[.int .u8 (foldC c l).r, .int .u8 (foldC c l).g, .int .u8 (foldC c l).b, .int .u8 (foldC c l).a]) ∧ Below w.heap.size w w' := by
  have HR := Lib.hid hr
  have HL := Lib.hid hl
  clear hr hl
  go_enter Try.func18, Try.ntmps18
  go_wp2
  go_loopw [5] (fun i wr => ∃ k : Nat, k ≤ l.length ∧ i = .int .i64 k ∧ Below w.heap.size w wr ∧ wr.heap[w.heap.size]? = some (colB (foldC c (l.take k))) ∧ wr.heap[w.heap.size + 1]? = some (colB ⟨0, 0, 0, 0⟩))
    (fun i _ => l.length - (intOf i).toNat)
  case atStart => exact ⟨0, Nat.zero_le _, rfl, ((Below.refl _ _).alloc (Nat.le_refl _) _).alloc (by simp) _, (new_two _ _ _).1, (new_two _ _ _).2⟩
  case round =>
    obtain ⟨k, hk, rfl, hbel, hblk, hres⟩ := hrel
    by_cases hlt : k < l.length
    · obtain ⟨e0, e1, e2, e3⟩ := (HR.out.grow hbel) k hlt
      obtain ⟨f0, f1, f2, f3⟩ := colB_cell hblk
      have hz : w.heap.size < wr.heap.size := World.block_lt_of_cell? _ _ f0
      have hz1 : w.heap.size + 1 < wr.heap.size := World.block_lt_of_cell? _ _ (colB_cell hres).1
      have q1 : (0 : Int) ≤ (k : Int) := by omega
      have q2 : (k : Int) < (l.length : Int) := by omega
      have HT := Lib.hid (show l.take (k + 1) = l.take k ++ [l[k]] by rw [List.take_succ_eq_append_getElem hlt])
      have HBL := Lib.hid hblk
      have HBE := Lib.hid hbel
      have HRS := Lib.hid hres
      have HK := Lib.hid (foldC_ok hc (fun x hx => HL.out x (List.mem_of_mem_take (i := k) hx)))
      have HX := Lib.hid (HL.out _ (List.getElem_mem hlt))
      clear hblk hbel hres
      go_wp2
      go_still_tail 5, (by kernel_rfl)
      change wpList _ _ _ _ _ wr.drew
      go_wp2_with fail
      refine (rover_col l[k] (foldC c (l.take k)) _ HX.out HK.out).mono ?_
      rintro e w2 ⟨rfl, hb2⟩
      have hblk2 : w2.heap[w.heap.size]? = some (colB (foldC c (l.take k))) := (hb2.block _ hz).trans HBL.out
      have hres2 : w2.heap[w.heap.size + 1]? = some (colB ⟨0, 0, 0, 0⟩) := (hb2.block _ hz1).trans HRS.out
      obtain ⟨i0, i1, i2, i3⟩ := colB_cell hblk2
      obtain ⟨j0, j1, j2, j3⟩ := colB_free hblk2
      have HB := Lib.hid (bstep HBE.out.drew HBE.out.size hb2)
      have HBL2 := Lib.hid hblk2
      have HRS2 := Lib.hid hres2
      clear hb2 hblk2 hres2 e0 e1 e2 e3 f0 f1 f2 f3
      go_wp2
      go_roundw
      case rel =>
        refine ⟨k + 1, by omega, by go_num, (((HB.out.setCell (by simp) _).setCell (by simp) _).setCell (by simp) _).setCell (by simp) _, ?_, ?_⟩
        · rw [HT.out, foldC_snoc]; exact colB_set _ HBL2.out
        · rw [heap_setCell_other _ _ _ _ (by simp), heap_setCell_other _ _ _ _ (by simp), heap_setCell_other _ _ _ _ (by simp), heap_setCell_other _ _ _ _ (by simp)]; exact HRS2.out
      case measure => simp [intOf]; omega
    · obtain ⟨f0, f1, f2, f3⟩ := colB_cell hblk
      obtain ⟨i0, i1, i2, i3⟩ := colB_cell hres
      obtain ⟨j0, j1, j2, j3⟩ := colB_free hres
      have hts : l.take k = l := List.take_of_length_le (by omega)
      rw [hts] at f0 f1 f2 f3
      have HBE := Lib.hid hbel
      clear hblk hres hts hbel
      go_wp2
      refine bodyPost_ret (v := .agg #[.int .u8 (foldC c l).r, .int .u8 (foldC c l).g, .int .u8 (foldC c l).b, .int .u8 (foldC c l).a]) (by simp [results, Try.results18, go_sem, *]) rfl ⟨rfl, ?_⟩
      exact (((HBE.out.setCell (by simp) _).setCell (by simp) _).setCell (by simp) _).setCell (by simp) _

theorem rfold_nil (c : Col) (ad : Option Addr) (cap : Nat) (w : World) :
    Calls Try.prog 18 #[.agg #[.int .u8 c.r, .int .u8 c.g, .int .u8 c.b, .int .u8 c.a], .slice ad 0 cap] w fun e w' => e = .returned (.agg #[.int .u8 c.r, .int .u8 c.g, .int .u8 c.b, .int .u8 c.a]) ∧ Below w.heap.size w w' := by
  go_enter Try.func18, Try.ntmps18
  go_wp2
  go_loopw [5] (fun i wr => i = .int .i64 0 ∧ wr = (w.alloc (.cells #[.int .u8 c.r, .int .u8 c.g, .int .u8 c.b, .int .u8 c.a] 23)).alloc (.cells #[.int .u8 0, .int .u8 0, .int .u8 0, .int .u8 0] 23)) (fun _ _ => 0)
  case atStart => exact ⟨rfl, rfl⟩
  case round =>
    obtain ⟨rfl, rfl⟩ := hrel
    go_wp2
    refine bodyPost_ret (v := .agg #[.int .u8 c.r, .int .u8 c.g, .int .u8 c.b, .int .u8 c.a]) (by simp [results, Try.results18, go_sem]) rfl ⟨rfl, ?_⟩
    exact ((Below.refl _ _).alloc (Nat.le_refl _) _).alloc (by simp) _

theorem rfold_any (c : Col) (l : List Col) (ad : Option Addr) (cap : Nat) (w : World) (hc : c.ok) (hl : ∀ x ∈ l, x.ok) (hn : l.length ≤ 1000) (hr : Row w ad l) :
    Calls Try.prog 18 #[.agg #[.int .u8 c.r, .int .u8 c.g, .int .u8 c.b, .int .u8 c.a], .slice ad l.length cap] w fun e w' => e = .returned (.agg #[.int .u8 (foldC c l).r, .int .u8 (foldC c l).g, .int .u8 (foldC c l).b, .int .u8 (foldC c l).a]) ∧ Below w.heap.size w w' := by
  rcases hr with rfl | ⟨b, off, rfl, h⟩
  · exact rfold_nil c ad cap w
  · exact rfold_row c l b off cap w hc hl hn h

set_option maxHeartbeats 4000000 in
theorem rmean_col (a b c d : Col) (w : World) (ha : a.ok) (hb : b.ok) (hc : c.ok) (hd : d.ok) :
    Calls Try.prog 20 #[.agg #[.int .u8 a.r, .int .u8 a.g, .int .u8 a.b, .int .u8 a.a, .int .u8 b.r, .int .u8 b.g, .int .u8 b.b, .int .u8 b.a, .int .u8 c.r, .int .u8 c.g, .int .u8 c.b, .int .u8 c.a, .int .u8 d.r, .int .u8 d.g, .int .u8 d.b, .int .u8 d.a]] w fun e w' => e = .returned (.agg #[.int .u8 (mean a b c d).r, .int .u8 (mean a b c d).g, .int .u8 (mean a b c d).b, .int .u8 (mean a b c d).a]) ∧ Below w.heap.size w w' := by
  obtain ⟨⟨mr0, mr1⟩, ⟨mg0, mg1⟩, ⟨mb0, mb1⟩, ⟨ma0, ma1⟩⟩ := mean_ok ha hb hc hd
  obtain ⟨⟨ar0, ar1⟩, ⟨ag0, ag1⟩, ⟨ab0, ab1⟩, ⟨aa0, aa1⟩⟩ := ha
  obtain ⟨⟨br0, br1⟩, ⟨bg0, bg1⟩, ⟨bb0, bb1⟩, ⟨ba0, ba1⟩⟩ := hb
  obtain ⟨⟨cr0, cr1⟩, ⟨cg0, cg1⟩, ⟨cb0, cb1⟩, ⟨ca0, ca1⟩⟩ := hc
  obtain ⟨⟨dr0, dr1⟩, ⟨dg0, dg1⟩, ⟨db0, db1⟩, ⟨da0, da1⟩⟩ := hd
  show Calls Try.prog 20 #[.agg #[.int .u8 a.r, .int .u8 a.g, .int .u8 a.b, .int .u8 a.a, .int .u8 b.r, .int .u8 b.g, .int .u8 b.b, .int .u8 b.a, .int .u8 c.r, .int .u8 c.g, .int .u8 c.b, .int .u8 c.a, .int .u8 d.r, .int .u8 d.g, .int .u8 d.b, .int .u8 d.a]] w fun e w' => e = .returned (.agg #[.int .u8 ((2 + a.r + b.r + c.r + d.r) / 4), .int .u8 ((2 + a.g + b.g + c.g + d.g) / 4), .int .u8 ((2 + a.b + b.b + c.b + d.b) / 4), .int .u8 ((2 + a.a + b.a + c.a + d.a) / 4)]) ∧ Below w.heap.size w w'
  unfold mean mn at mr0 mr1 mg0 mg1 mb0 mb1 ma0 ma1
  dsimp only at mr0 mr1 mg0 mg1 mb0 mb1 ma0 ma1
  go_enter Try.func20, Try.ntmps20
  go_wp2
  refine wp_loop_rounds 5 ?_
  rw [rounds_succ]
  go_wp2
  rw [rounds_succ]
  go_wp2
  rw [rounds_succ]
  go_wp2
  rw [rounds_succ]
  go_wp2
  rw [rounds_succ]
  go_wp2
  refine bodyPost_ret (v := .agg #[.int .u8 ((2 + a.r + b.r + c.r + d.r) / 4), .int .u8 ((2 + a.g + b.g + c.g + d.g) / 4), .int .u8 ((2 + a.b + b.b + c.b + d.b) / 4), .int .u8 ((2 + a.a + b.a + c.a + d.a) / 4)]) (by simp [results, Try.results20, go_sem]) rfl ⟨rfl, ?_⟩
  exact ((Below.refl _ _).alloc (Nat.le_refl _) _).alloc (by simp) _

set_option maxHeartbeats 4000000 in
theorem rmix_col (f q : Col) (t : Int) (w : World) (hf : f.ok) (hq : q.ok) :
    Calls Try.prog 22 #[.agg #[.int .u8 f.r, .int .u8 f.g, .int .u8 f.b, .int .u8 f.a], .agg #[.int .u8 q.r, .int .u8 q.g, .int .u8 q.b, .int .u8 q.a], .int .i64 t] w fun e w' => e = .returned (.agg #[.int .u8 (mix f q t).r, .int .u8 (mix f q t).g, .int .u8 (mix f q t).b, .int .u8 (mix f q t).a]) ∧ Below w.heap.size w w' := by
  obtain ⟨⟨r0, r1⟩, ⟨g0, g1⟩, ⟨b0, b1⟩, ⟨a0, a1⟩⟩ := hf
  obtain ⟨⟨x0, x1⟩, ⟨y0, y1⟩, ⟨z0, z1⟩, ⟨c0, c1⟩⟩ := hq
  obtain ⟨s, hs⟩ : ∃ s, held t = s := ⟨_, rfl⟩
  have key : (t < 0 ∧ s = 0) ∨ (256 < t ∧ s = 256) ∨ (0 ≤ t ∧ t ≤ 256 ∧ s = t) := by
    rw [← hs]; unfold held; split
    · exact .inl ⟨by omega, rfl⟩
    · split
      · exact .inr (.inl ⟨by omega, rfl⟩)
      · exact .inr (.inr ⟨by omega, by omega, rfl⟩)
  show Calls Try.prog 22 #[.agg #[.int .u8 f.r, .int .u8 f.g, .int .u8 f.b, .int .u8 f.a], .agg #[.int .u8 q.r, .int .u8 q.g, .int .u8 q.b, .int .u8 q.a], .int .i64 t] w fun e w' => e = .returned (.agg #[.int .u8 (mx f.r q.r (held t)), .int .u8 (mx f.g q.g (held t)), .int .u8 (mx f.b q.b (held t)), .int .u8 (mx f.a q.a (held t))]) ∧ Below w.heap.size w w'
  rw [hs]
  clear hs
  rcases key with ⟨h1, rfl⟩ | ⟨h1, rfl⟩ | ⟨h1, h2, rfl⟩
  all_goals
    go_enter Try.func22, Try.ntmps22
    go_wp2
    go_region_held3 (fun w' => w'.cell? ⟨w.heap.size, 0, none⟩ = some (.int .u8 f.r) ∧ w'.cell? ⟨w.heap.size, 1, none⟩ = some (.int .u8 f.g) ∧ w'.cell? ⟨w.heap.size, 2, none⟩ = some (.int .u8 f.b) ∧ w'.cell? ⟨w.heap.size, 3, none⟩ = some (.int .u8 f.a) ∧ w'.cell? ⟨w.heap.size + 1, 0, none⟩ = some (.int .u8 q.r) ∧ w'.cell? ⟨w.heap.size + 1, 1, none⟩ = some (.int .u8 q.g) ∧ w'.cell? ⟨w.heap.size + 1, 2, none⟩ = some (.int .u8 q.b) ∧ w'.cell? ⟨w.heap.size + 1, 3, none⟩ = some (.int .u8 q.a)) (simp [go_sem, World.cell?_alloc_past])
      (first
        | (go_at_call 33; ((with_reducible refine (rmix1_any _ _ _ _ (by assumption) (by assumption) (by assumption) (by assumption) (by omega) (by omega)).mono ?_); rintro e w' ⟨rfl, rfl⟩)))
    go_wp2
    refine bodyPost_ret (v := .agg #[.int .u8 (mx f.r q.r _), .int .u8 (mx f.g q.g _), .int .u8 (mx f.b q.b _), .int .u8 (mx f.a q.a _)]) (by simp [results, Try.results22, go_sem]) rfl ⟨rfl, ?_⟩
    exact ((((Below.refl _ _).alloc (Nat.le_refl _) _).alloc (by simp) _).alloc (by simp <;> omega) _).drew
end Go.Proofs.Ytpnjhmmodkhmfaa
