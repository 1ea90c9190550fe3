/-
  codec.Take and codec.Put.
-/
import Derived.Test.YtfmmfaeognoleaaGreatM9
import Derived.Test.YtfmmfaeognoleaaGreatM6
import Derived.Test.YtfmmfaeognoleaaGreatM5
import Derived.Test.YtfmmfaeognoleaaGreatM7
namespace Go.Proofs.YtfmmfaeognoleaaGreat
open Go.RowKit
attribute [local go_sem ↓] Go.wp_at_zero Go.wp_at_succ

def zS : PS := (flat0 0 0).p
/-- What Take tells (pure). -/
def takeP (xs : List Int) : PS × Int := if 65536 < xs.length then (zS, 10) else match readP xs with
  | none => (zS, 10)
  | some p => if check p = 0 then (p, 0) else (zS, check p)
theorem noS_on (w : World) (P : Nat → Prop) : noS.on w P := ⟨EsP.nil, EsP.nil, fun l h => (by cases h), EsP.nil, fun l h => (by cases h), EsP.nil, fun l h => (by cases h)⟩
theorem noS_cap : noS.cap := ⟨Nat.le_refl _, Nat.le_refl _, fun l h => (by cases h), Nat.le_refl _, fun l h => (by cases h), Nat.le_refl _, fun l h => (by cases h)⟩
theorem many_len {α : Type} {g : α → List Int} (pos : ∀ x, 1 ≤ (g x).length) : ∀ l : List α, l.length + 1 ≤ (nAll g l).length
  | [] => Nat.le_refl _
  | x :: l => by
    have h1 := many_len pos l
    have h2 := pos x
    unfold nAll at h1 ⊢
    simp only [List.flatMap_cons, List.length_cons, List.length_append] at h1 ⊢
    omega
theorem one_len {α : Type} {g : α → List Int} : ∀ {l : List α} {x : α}, x ∈ l → (g x).length + 1 ≤ (nAll g l).length
  | y :: l, x, h => by
    unfold nAll
    rw [List.flatMap_cons, List.length_cons, List.length_append]
    rcases List.mem_cons.1 h with rfl | h
    · omega
    · have := one_len (g := g) h
      unfold nAll at this
      rw [List.length_cons] at this
      omega
theorem few_len {p : PS} (h : (nS p).length ≤ 100000) : p.few := by
  unfold nS at h
  simp only [List.length_cons, List.length_append] at h
  have pV := many_len (g := nV) (fun _ => by simp [nV]) p.vs
  have pT := many_len (g := nT) (fun _ => by simp [nT]) p.ts
  have pP := many_len (g := nP) (fun _ => by simp [nP, nAll]) p.ps
  have pD := many_len (g := nD) (fun _ => by simp [nD]) p.ds
  refine ⟨by omega, by omega, fun t ht => ?_, by omega, fun l hl => ?_, by omega, fun d hd => ?_⟩
  · have h1 := one_len (g := nT) ht
    have h2 := many_len (g := nC) (fun _ => by simp [nC]) t.px
    have h3 : (nT t).length = (nAll nC t.px).length + 2 := rfl
    omega
  · have h1 := one_len (g := nP) hl
    have h2 := many_len (g := nI) (fun _ => by simp [nI]) l
    have h3 : (nP l).length = (nAll nI l).length := rfl
    omega
  · have h1 := one_len (g := nD) hd
    have h2 := many_len (g := nR) (fun _ => by simp [nR]) d.tris
    have h3 : (nD d).length = (nAll nR d.tris).length + 4 := rfl
    omega
theorem read_len {xs : List Int} {q : PS} (hb : P.Byt xs) (hl : xs.length ≤ 65536) (h : readP xs = some q) : (nS q).length ≤ 65536 := by
  obtain ⟨-, -, e⟩ := read_some hb h
  have h1 := (P.seq_len _ xs (Nat.le_refl _) hb).1
  have h2 := P.nums_le (P.seq xs)
  rw [← e]
  omega
theorem setz {a w : World} {g B : Nat} {y : Sc} (h : w.heap[g]? = some (scB y)) (hb : Below B a w) (hg : B ≤ g) :
    ∃ W, ((((((((((w).setCell ⟨g, 0, none⟩ (.int .i64 0)).setCell ⟨g, 1, none⟩ (.int .i64 0)).setCell ⟨g, 2, none⟩ (.int .u8 0)).setCell ⟨g, 3, none⟩ (.int .u8 0)).setCell ⟨g, 4, none⟩ (.int .u8 0)).setCell ⟨g, 5, none⟩ (.int .u8 0)).setCell ⟨g, 6, none⟩ (.slice none 0 0)).setCell ⟨g, 7, none⟩ (.slice none 0 0)).setCell ⟨g, 8, none⟩ (.slice none 0 0)).setCell ⟨g, 9, none⟩ (.slice none 0 0) = W ∧ W.heap[g]? = some (scB noS) ∧ Below B a W := ⟨_, rfl, sets_blk noS h, sets_below noS hb hg⟩
theorem setx {a w : World} {g B : Nat} (x : Sc) {y : Sc} (h : w.heap[g]? = some (scB y)) (hb : Below B a w) (hg : B ≤ g) :
    ∃ W, ((((((((((w.setCell ⟨g, 0, none⟩ (.int .i64 x.w))).setCell ⟨g, 1, none⟩ (.int .i64 x.h)).setCell ⟨g, 2, none⟩ (.int .u8 x.k.r)).setCell ⟨g, 3, none⟩ (.int .u8 x.k.g)).setCell ⟨g, 4, none⟩ (.int .u8 x.k.b)).setCell ⟨g, 5, none⟩ (.int .u8 x.k.a)).setCell ⟨g, 6, none⟩ (.slice x.vA x.vs.length x.vc)).setCell ⟨g, 7, none⟩ (.slice x.tA x.ts.length x.tc)).setCell ⟨g, 8, none⟩ (.slice x.pA x.ps.length x.pc)).setCell ⟨g, 9, none⟩ (.slice x.dA x.ds.length x.dc) = W ∧ W.heap[g]? = some (scB x) ∧ Below B a W ∧ ∀ k, k ≠ g → W.heap[k]? = w.heap[k]? := ⟨_, rfl, sets_blk x h, sets_below x hb hg, fun _ hk => sets_other x hk⟩
/-- What codec.Take answers. -/
def TakeA (xs : List Int) (w : World) (e : Ending) (w' : World) : Prop :=
  ∃ (x : Sc) (err : Int), e = .returned (.tuple #[.agg #[.int .i64 x.w, .int .i64 x.h, .int .u8 x.k.r, .int .u8 x.k.g, .int .u8 x.k.b, .int .u8 x.k.a, .slice x.vA x.vs.length x.vc, .slice x.tA x.ts.length x.tc, .slice x.pA x.ps.length x.pc, .slice x.dA x.ds.length x.dc], .int .i64 err]) ∧ Below w.heap.size w w' ∧ x.on w' (fun b => w.heap.size < b) ∧ x.cap ∧ takeP xs = (x.p, err)
set_option maxRecDepth 100000 in
set_option maxHeartbeats 4000000 in
theorem take_any (A : Option Addr) (c : Nat) (xs : List Int) (hc : xs.length ≤ c) (hl : xs.length ≤ 1000000) (hb : P.Byt xs) (w : World) (hs : P.Sl .u8 w w.heap.size A xs) :
    Calls Tryz.prog 10 #[.slice A xs.length c] w (TakeA xs w) := by
  have hB0 := new_below w (.cells #[.int .i64 0, .int .i64 0, .int .u8 0, .int .u8 0, .int .u8 0, .int .u8 0, .slice none 0 0, .slice none 0 0, .slice none 0 0, .slice none 0 0] 29)
  have HG0 := Lib.hid (show (w.alloc (.cells #[.int .i64 0, .int .i64 0, .int .u8 0, .int .u8 0, .int .u8 0, .int .u8 0, .slice none 0 0, .slice none 0 0, .slice none 0 0, .slice none 0 0] 29)).heap[w.heap.size]? = some (scB noS) from heap_alloc_new _ _)
  have HB0 := Lib.hid hB0
  by_cases hlong : 65536 < xs.length
  · have hT := Lib.hid (show takeP xs = (noS.p, 10) by unfold takeP; rw [if_pos hlong]; rfl)
    have hgt : (65536 : Int) < xs.length := by omega
    clear hs hb hc hl hB0 hlong HG0
    generalize xs.length = n at *
    go_enter Tryz.func10, Tryz.ntmps10
    go_wp2
    refine bodyPost_ret (v := .tuple #[.agg #[.int .i64 0, .int .i64 0, .int .u8 0, .int .u8 0, .int .u8 0, .int .u8 0, .slice none 0 0, .slice none 0 0, .slice none 0 0, .slice none 0 0], .int .i64 10]) (by simp [results, Tryz.results10, go_sem]) rfl ⟨noS, 10, rfl, HB0.out, noS_on _ _, noS_cap, hT.out⟩
  · have hle : ¬ (65536 : Int) < xs.length := by omega
    have HR := Lib.hid (read_any A c xs hc (by omega) hb (w.alloc (.cells #[.int .i64 0, .int .i64 0, .int .u8 0, .int .u8 0, .int .u8 0, .int .u8 0, .slice none 0 0, .slice none 0 0, .slice none 0 0, .slice none 0 0] 29)) ((hs.below hB0).more (by simp)))
    have HT0 := Lib.hid (fun (h : readP xs = none) => show takeP xs = (noS.p, 10) by unfold takeP; rw [if_neg hlong, h]; rfl)
    have HT1 := Lib.hid (fun q (h : readP xs = some q) (hk : check q = 0) => show takeP xs = (q, 0) by unfold takeP; rw [if_neg hlong, h]; simp only [hk, if_true])
    have HT2 := Lib.hid (fun q (h : readP xs = some q) (hk : check q ≠ 0) => show takeP xs = (noS.p, check q) by unfold takeP; rw [if_neg hlong, h]; simp only [hk, if_false]; rfl)
    have HQ := Lib.hid (fun q (h : readP xs = some q) => show q.ok ∧ q.few from ⟨(read_some hb h).1, few_len (by have := read_len hb (by omega) h; omega)⟩)
    unfold ReadA at HR
    clear hs hb hc hl hB0 hlong
    generalize xs.length = n at *
    go_enter Tryz.func10, Tryz.ntmps10
    go_wp2_with fail
    with_reducible refine (HR.out).mono ?_
    rintro e w1 ⟨x, ok, rfl, hb, hcase⟩
    have HB1 := Lib.hid (bstep HB0.out HB0.out.size hb)
    have hg1 := scB_keep HG0.out hb (scB_lt HG0.out)
    have hs1 := hb.size
    simp only [World.size_alloc] at hs1
    have HG1 := Lib.hid (scB_alloc (.cells #[.int .i64 x.w, .int .i64 x.h, .int .u8 x.k.r, .int .u8 x.k.g, .int .u8 x.k.b, .int .u8 x.k.a, .slice x.vA x.vs.length x.vc, .slice x.tA x.ts.length x.tc, .slice x.pA x.ps.length x.pc, .slice x.dA x.ds.length x.dc] 29) hg1)
    have HX1 := Lib.hid (show (w1.alloc (.cells #[.int .i64 x.w, .int .i64 x.h, .int .u8 x.k.r, .int .u8 x.k.g, .int .u8 x.k.b, .int .u8 x.k.a, .slice x.vA x.vs.length x.vc, .slice x.tA x.ts.length x.tc, .slice x.pA x.ps.length x.pc, .slice x.dA x.ds.length x.dc] 29)).heap[w1.heap.size]? = some (scB x) from heap_alloc_new _ _)
    have HB2 := Lib.hid (bstep HB1.out HB1.out.size (new_below w1 (.cells #[.int .i64 x.w, .int .i64 x.h, .int .u8 x.k.r, .int .u8 x.k.g, .int .u8 x.k.b, .int .u8 x.k.a, .slice x.vA x.vs.length x.vc, .slice x.tA x.ts.length x.tc, .slice x.pA x.ps.length x.pc, .slice x.dA x.ds.length x.dc] 29)))
    have HO1 := Lib.hid (fun (h : x.on w1 (fun b => w.heap.size + 1 < b)) => show x.on (w1.alloc (.cells #[.int .i64 x.w, .int .i64 x.h, .int .u8 x.k.r, .int .u8 x.k.g, .int .u8 x.k.b, .int .u8 x.k.a, .slice x.vA x.vs.length x.vc, .slice x.tA x.ts.length x.tc, .slice x.pA x.ps.length x.pc, .slice x.dA x.ds.length x.dc] 29)) (fun b => w.heap.size < b ∧ b < w1.heap.size) from (h.imp fun b h1 h2 => ⟨by omega, h2⟩).keep fun b h1 h2 => (new_below w1 _).block b h2)
    simp only [World.size_alloc] at hcase
    clear hb hg1 HR HB0 HG0 HB1
    rcases hcase with ⟨hn, rfl⟩ | ⟨q, hq, rfl, hx, hon, hcap⟩
    · have HT := Lib.hid (HT0.out hn)
      clear hn HT0 HT1 HT2 HQ HO1
      go_upto_region 4 with fail
      obtain ⟨t, ht⟩ : ∃ t, w1.alloc (.cells #[.int .i64 x.w, .int .i64 x.h, .int .u8 x.k.r, .int .u8 x.k.g, .int .u8 x.k.b, .int .u8 x.k.a, .slice x.vA x.vs.length x.vc, .slice x.tA x.ts.length x.tc, .slice x.pA x.ps.length x.pc, .slice x.dA x.ds.length x.dc] 29) = t := ⟨_, rfl⟩
      rw [ht] at HG1 HX1 HB2
      rw [ht]
      obtain ⟨W, hW, hS, hB⟩ := setz HG1.out HB2.out (Nat.le_refl _)
      have HS := Lib.hid hS
      have HB := Lib.hid hB
      have f0 := scB_free HG1.out
      obtain ⟨g0, g1, g2, g3, g4, g5, g6, g7, g8, g9⟩ := scB_cell HG1.out
      have gl := scB_lt HG1.out
      clear HX1 hS hB HG1 HB2 ht
      replace hW := Lib.hid hW
      go_wp2_with fail
      rw [hW.out]
      have k := scB_cell HS.out
      simp only [noS, flat0, zC, List.length_nil] at k
      refine bodyPost_ret (v := .tuple #[.agg #[.int .i64 0, .int .i64 0, .int .u8 0, .int .u8 0, .int .u8 0, .int .u8 0, .slice none 0 0, .slice none 0 0, .slice none 0 0, .slice none 0 0], .int .i64 10]) (by simp [results, Tryz.results10, go_sem, k]) rfl ⟨noS, 10, rfl, HB.out, noS_on _ _, noS_cap, HT.out⟩
    · obtain ⟨hqo, hqf⟩ := HQ.out q hq
      have hon1 := HO1.out hon
      have HXp := Lib.hid (And.intro hx hcap)
      have HC := Lib.hid (show Calls Tryz.prog 17 #[.agg #[.int .i64 x.w, .int .i64 x.h, .int .u8 x.k.r, .int .u8 x.k.g, .int .u8 x.k.b, .int .u8 x.k.a, .slice x.vA x.vs.length x.vc, .slice x.tA x.ts.length x.tc, .slice x.pA x.ps.length x.pc, .slice x.dA x.ds.length x.dc]] (w1.alloc (.cells #[.int .i64 x.w, .int .i64 x.h, .int .u8 x.k.r, .int .u8 x.k.g, .int .u8 x.k.b, .int .u8 x.k.a, .slice x.vA x.vs.length x.vc, .slice x.tA x.ts.length x.tc, .slice x.pA x.ps.length x.pc, .slice x.dA x.ds.length x.dc] 29)) (fun e w' => e = .returned (.int .i64 (check q)) ∧ Below (w1.alloc (.cells #[.int .i64 x.w, .int .i64 x.h, .int .u8 x.k.r, .int .u8 x.k.g, .int .u8 x.k.b, .int .u8 x.k.a, .slice x.vA x.vs.length x.vc, .slice x.tA x.ts.length x.tc, .slice x.pA x.ps.length x.pc, .slice x.dA x.ds.length x.dc] 29)).heap.size (w1.alloc (.cells #[.int .i64 x.w, .int .i64 x.h, .int .u8 x.k.r, .int .u8 x.k.g, .int .u8 x.k.b, .int .u8 x.k.a, .slice x.vA x.vs.length x.vc, .slice x.tA x.ts.length x.tc, .slice x.pA x.ps.length x.pc, .slice x.dA x.ds.length x.dc] 29)) w') from by
        rw [← hx]
        exact check_scene x _ hon1.at (ok_of hx hqo hcap) (few_of hx hqf))
      have HO2 := Lib.hid hon1
      have K1 := Lib.hid (HT1.out q hq)
      have K2 := Lib.hid (HT2.out q hq)
      clear hq hqo hqf hon hon1 hx hcap HT0 HT1 HT2 HQ HO1
      go_upto_region 4 with fail
      obtain ⟨t, ht⟩ : ∃ t, w1.alloc (.cells #[.int .i64 x.w, .int .i64 x.h, .int .u8 x.k.r, .int .u8 x.k.g, .int .u8 x.k.b, .int .u8 x.k.a, .slice x.vA x.vs.length x.vc, .slice x.tA x.ts.length x.tc, .slice x.pA x.ps.length x.pc, .slice x.dA x.ds.length x.dc] 29) = t := ⟨_, rfl⟩
      rw [ht] at HG1 HX1 HB2 HC HO2
      rw [ht]
      obtain ⟨x0, x1, x2, x3, x4, x5, x6, x7, x8, x9⟩ := scB_cell HX1.out
      have xl := scB_lt HX1.out
      clear ht
      go_wp2_with fail
      with_reducible refine (HC.out).mono ?_
      rintro e w3 ⟨rfl, hb⟩
      have hg3 := scB_keep HG1.out hb (scB_lt HG1.out)
      have hx3 := scB_keep HX1.out hb (scB_lt HX1.out)
      have HB3 := Lib.hid (bstep HB2.out HB2.out.size hb)
      have HO3 := Lib.hid (HO2.out.keep fun b _ hlt => hb.block b hlt)
      clear hb x0 x1 x2 x3 x4 x5 x6 x7 x8 x9 HC HG1 HX1 HB2 HO2
      have f0 := scB_free hg3
      obtain ⟨g0, g1, g2, g3, g4, g5, g6, g7, g8, g9⟩ := scB_cell hg3
      have gl := scB_lt hg3
      by_cases hk : check q = 0
      · obtain ⟨W, hW, hS, hB, hO⟩ := setx x hg3 HB3.out (Nat.le_refl _)
        have HS := Lib.hid hS
        have HB := Lib.hid hB
        have HOW := Lib.hid (show x.on W (fun b => w.heap.size < b) from (HO3.out.imp fun b h1 _ => h1.1).keep fun b h1 _ => hO b (by omega))
        have HT := Lib.hid (K1.out hk)
        obtain ⟨x0, x1, x2, x3, x4, x5, x6, x7, x8, x9⟩ := scB_cell hx3
        have xl3 := scB_lt hx3
        clear K1 K2 hS hB hO hg3 hx3 HB3 HO3
        replace hW := Lib.hid hW
        rw [hk]
        clear hk
        go_wp2_with fail
        rw [hW.out]
        have k := scB_cell HS.out
        refine bodyPost_ret (v := .tuple #[.agg #[.int .i64 x.w, .int .i64 x.h, .int .u8 x.k.r, .int .u8 x.k.g, .int .u8 x.k.b, .int .u8 x.k.a, .slice x.vA x.vs.length x.vc, .slice x.tA x.ts.length x.tc, .slice x.pA x.ps.length x.pc, .slice x.dA x.ds.length x.dc], .int .i64 0]) (by simp [results, Tryz.results10, go_sem, k]) rfl ⟨x, 0, rfl, HB.out, HOW.out, HXp.out.2, by rw [HT.out, HXp.out.1]⟩
      · obtain ⟨W, hW, hS, hB⟩ := setz hg3 HB3.out (Nat.le_refl _)
        have HS := Lib.hid hS
        have HB := Lib.hid hB
        have HT := Lib.hid (K2.out hk)
        have hk1 : (check q == 0) = false := by simpa using hk
        have hk2 : (check q != 0) = true := by simpa using hk
        generalize check q = cq at *
        clear K1 K2 hS hB hg3 hx3 HB3 HO3
        replace hW := Lib.hid hW
        go_wp2_with fail
        rw [hW.out]
        have k := scB_cell HS.out
        simp only [noS, flat0, zC, List.length_nil] at k
        refine bodyPost_ret (v := .tuple #[.agg #[.int .i64 0, .int .i64 0, .int .u8 0, .int .u8 0, .int .u8 0, .int .u8 0, .slice none 0 0, .slice none 0 0, .slice none 0 0, .slice none 0 0], .int .i64 cq]) (by simp [results, Tryz.results10, go_sem, k]) rfl ⟨noS, cq, rfl, HB.out, noS_on _ _, noS_cap, HT.out⟩
/-- What codec.Put answers. -/
def PutA (c : Int) (bs : List Int) (w : World) (e : Ending) (w' : World) : Prop :=
  Below w.heap.size w w' ∧ ((c ≠ 0 ∧ e = .returned (.tuple #[.slice none 0 0, .int .i64 c])) ∨ (c = 0 ∧ ∃ v, e = .returned (.tuple #[v, .int .i64 0]) ∧ P.OwnS 5 .u8 w' w.heap.size v bs))
set_option maxRecDepth 100000 in
set_option maxHeartbeats 2000000 in
theorem cput_any (s : Sc) (hok : s.ok) (hf : s.few) (w : World) (ha : s.at w w.heap.size) (hn : (nS s.p).length ≤ 100000000) :
    Calls Tryz.prog 8 #[.agg #[.int .i64 s.w, .int .i64 s.h, .int .u8 s.k.r, .int .u8 s.k.g, .int .u8 s.k.b, .int .u8 s.k.a, .slice s.vA s.vs.length s.vc, .slice s.tA s.ts.length s.tc, .slice s.pA s.ps.length s.pc, .slice s.dA s.ds.length s.dc]] w (PutA (check s.p) (P.put (nS s.p)) w) := by
  have hb0 := new_below w (.cells #[.int .i64 s.w, .int .i64 s.h, .int .u8 s.k.r, .int .u8 s.k.g, .int .u8 s.k.b, .int .u8 s.k.a, .slice s.vA s.vs.length s.vc, .slice s.tA s.ts.length s.tc, .slice s.pA s.ps.length s.pc, .slice s.dA s.ds.length s.dc] 29)
  have HB0 := Lib.hid hb0
  have HG0 := Lib.hid (show (w.alloc (.cells #[.int .i64 s.w, .int .i64 s.h, .int .u8 s.k.r, .int .u8 s.k.g, .int .u8 s.k.b, .int .u8 s.k.a, .slice s.vA s.vs.length s.vc, .slice s.tA s.ts.length s.tc, .slice s.pA s.ps.length s.pc, .slice s.dA s.ds.length s.dc] 29)).heap[w.heap.size]? = some (scB s) from heap_alloc_new _ _)
  have HC := Lib.hid (check_scene s (w.alloc (.cells #[.int .i64 s.w, .int .i64 s.h, .int .u8 s.k.r, .int .u8 s.k.g, .int .u8 s.k.b, .int .u8 s.k.a, .slice s.vA s.vs.length s.vc, .slice s.tA s.ts.length s.tc, .slice s.pA s.ps.length s.pc, .slice s.dA s.ds.length s.dc] 29)) ((ha.below hb0).more (by simp)) hok hf)
  have HBy := Lib.hid (fun w2 (h : Below w.heap.size w w2) => bytes_any s hok hf w2 ((ha.below h).more h.size) hn)
  clear hb0 hok hf ha hn
  obtain ⟨cq, hcq⟩ : ∃ c, check s.p = c := ⟨_, rfl⟩
  rw [hcq] at HC ⊢
  clear hcq
  go_enter Tryz.func8, Tryz.ntmps8
  go_wp2_with fail
  with_reducible refine (HC.out).mono ?_
  rintro e w1 ⟨rfl, hb⟩
  have hg1 := scB_keep HG0.out hb (scB_lt HG0.out)
  have HB1 := Lib.hid (bstep HB0.out HB0.out.size hb)
  have gl := scB_lt hg1
  obtain ⟨g0, g1, g2, g3, g4, g5, g6, g7, g8, g9⟩ := scB_cell hg1
  clear hb hg1 HC HB0 HG0
  by_cases hk : cq = 0
  · subst hk
    go_wp2_with fail
    with_reducible refine (HBy.out w1 HB1.out).mono ?_
    rintro e w2 ⟨v, rfl, ho, hb⟩
    have HO := Lib.hid (ho.less HB1.out.size)
    have HB2 := Lib.hid (bstep HB1.out HB1.out.size hb)
    clear ho hb
    go_wp2_with fail
    exact bodyPost_ret (v := .tuple #[v, .int .i64 0]) (by simp [results, Tryz.results8, go_sem]) rfl ⟨HB2.out, .inr ⟨rfl, v, rfl, HO.out⟩⟩
  · have hk1 : (cq == 0) = false := by simpa using hk
    have hk2 : (cq != 0) = true := by simpa using hk
    have HK := Lib.hid hk
    clear hk
    go_wp2_with fail
    exact bodyPost_ret (v := .tuple #[.slice none 0 0, .int .i64 cq]) (by simp [results, Tryz.results8, go_sem]) rfl ⟨HB1.out, .inl ⟨HK.out, rfl⟩⟩
end Go.Proofs.YtfmmfaeognoleaaGreat
/-
  The document's example; the range of what scene.Check tells; what laws want of bytes.
-/
namespace Go.Proofs.YtfmmfaeognoleaaGreat
open Go.RowKit
attribute [local go_sem ↓] Go.wp_at_zero Go.wp_at_succ

theorem flat_at (W H : Int) (w : World) (B : Nat) : (flat0 W H).at w B :=
  ⟨Es.none_, Es.none_, fun l h => (by cases h), Es.none_, fun l h => (by cases h), Es.none_, fun l h => (by cases h)⟩
theorem flat_ok {W H : Int} (hW : I64 W) (hH : I64 H) : (flat0 W H).ok :=
  ⟨hW, hH, zC_ok, fun v h => (by cases h), fun l h => (by cases h), fun l h => (by cases h), fun l h => (by cases h), Nat.le_refl _, Nat.le_refl _, Nat.le_refl _, Nat.le_refl _⟩
theorem flat_few (W H : Int) : (flat0 W H).few := by
  constructor <;> first | exact Nat.zero_le _ | (intro l h; cases h)
theorem str_shown : strOfNums (P.put (nS (flat0 1 2).p)) = { data := #[2, 4, 0, 0, 0, 0, 0, 0, 0, 0] } := by
  have e : P.put (nS (flat0 1 2).p) = [2, 4, 0, 0, 0, 0, 0, 0, 0, 0] := by
    have e1 : nS (flat0 1 2).p = [1, 2, 0, 0, 0, 0, 0, 0, 0, 0] := rfl
    rw [e1]
    simp only [P.put_cons, P.put_nil]
    rw [show P.fold 1 = 2 by decide, show P.fold 2 = 4 by decide, show P.fold 0 = 0 by decide, P.enc_lt (u := 2) (by decide), P.enc_lt (u := 4) (by decide), P.enc_lt (u := 0) (by decide)]
    rfl
  rw [e]; rfl
set_option maxRecDepth 100000 in
set_option maxHeartbeats 1000000 in
theorem cshown_any (w : World) : Calls Tryz.prog 6 #[] w fun e w' => e = .returned (.bool true) ∧ Below w.heap.size w w' := by
  have H := Lib.hid (show Calls Tryz.prog 13 #[.agg #[.int .i64 1, .int .i64 2, .int .u8 0, .int .u8 0, .int .u8 0, .int .u8 0, .slice none 0 0, .slice none 0 0, .slice none 0 0, .slice none 0 0]] w (P.Made 5 .u8 w.heap.size w (P.put (nS (flat0 1 2).p))) from
    bytes_any (flat0 1 2) (flat_ok (by unfold I64; omega) (by unfold I64; omega)) (flat_few _ _) w (flat_at _ _ _ _) (by decide))
  have hs := str_shown
  generalize P.put (nS (flat0 1 2).p) = l at *
  go_enter Tryz.func6, Tryz.ntmps6
  go_wp2_with fail
  with_reducible refine (H.out).mono ?_
  rintro e w1 ⟨v, rfl, ho, hb⟩
  obtain ⟨A, c, rfl, -, -, hsl⟩ := ho.sl
  have hcv := hsl.conv c
  have HB := Lib.hid hb
  clear hb ho hsl H
  rw [hs] at hcv
  go_wp2_with fail
  go_ret
  exact ⟨rfl, HB.out⟩
theorem check_range (p : PS) : check p = 0 ∨ check p = 1 ∨ (20 ≤ check p ∧ check p ≤ 26) := by
  have h1 : headE p = 0 ∨ headE p = 1 ∨ (20 ≤ headE p ∧ headE p ≤ 26) := by
    unfold headE
    repeat (first | (split; · omega) | omega)
  have h2 : ∀ n k, firstE (errAt p) k n = 0 ∨ (20 ≤ firstE (errAt p) k n ∧ firstE (errAt p) k n ≤ 26) := by
    intro n
    induction n with
    | zero => intro k; exact .inl rfl
    | succ n ih =>
      intro k
      unfold firstE
      split
      · exact ih (k + 1)
      · right
        rename_i hne
        revert hne
        unfold errAt
        split
        · unfold drawE
          repeat (first | (split; · omega) | omega)
        · intro h; exact absurd rfl h
  unfold check
  split
  · rcases h2 p.ds.length 0 with h | h
    · exact .inl h
    · exact .inr (.inr h)
  · exact h1
theorem takeP_err (xs : List Int) : (takeP xs).2 = 0 ∨ ((takeP xs).1 = zS ∧ ((takeP xs).2 = 10 ∨ (takeP xs).2 = 1 ∨ (20 ≤ (takeP xs).2 ∧ (takeP xs).2 ≤ 26)) ∧ (takeP xs).2 ≠ 0) := by
  unfold takeP
  split
  · exact .inr ⟨rfl, .inl rfl, by decide⟩
  · split
    · exact .inr ⟨rfl, .inl rfl, by decide⟩
    · rename_i p _
      split
      · exact .inl rfl
      · rename_i hk
        refine .inr ⟨rfl, .inr ?_, hk⟩
        rcases check_range p with h | h
        · exact absurd h hk
        · exact h
theorem takeP_zero {xs : List Int} {q : PS} (h : takeP xs = (q, 0)) : xs.length ≤ 65536 ∧ readP xs = some q ∧ check q = 0 := by
  unfold takeP at h
  split at h
  · cases h
  · rename_i hl
    split at h
    · cases h
    · rename_i p hp
      split at h
      · rename_i hk
        cases h
        exact ⟨by omega, hp, hk⟩
      · rename_i hk
        exact absurd (congrArg Prod.snd h) hk
theorem takeP_put {p : PS} (ho : p.ok) (hf : p.few) (hl : (P.put (nS p)).length ≤ 65536) : takeP (P.put (nS p)) = if check p = 0 then (p, 0) else (zS, check p) := by
  unfold takeP
  rw [if_neg (by omega), read_put ho hf]
end Go.Proofs.YtfmmfaeognoleaaGreat
/-
  What the reference's Fit makes of a scene (pure): it may be.
-/
namespace Go.Proofs.YtfmmfaeognoleaaGreat

def fitTri (nv : Nat) (k : Nat) (t : Tr) : Tr := ⟨100 * (t.i % 100) + k, t.a % nv, t.b % nv, t.c % nv⟩
def fitDr (nv nt np tris : Nat) (i : Nat) (d : Dr) : Dr := ⟨100 * (d.id % 100) + i, d.prog % np, if 0 < nt then d.tex % nt else -1, d.op, (d.tris.take tris).mapIdx (fitTri nv)⟩
def vz : U.V := ⟨-2, -2, 0, 1, 200, 0, 0, 128⟩
def fitVs (p : PS) (verts : Nat) : List U.V := vz :: (p.vs.take verts).map U.fitV
def fitTs (p : PS) : List Tx := (p.ts.take 2).map fitT
/-- A program as Fit tells it, where it may have pictures or not. -/
def fitPn (b : Bool) (l : List C.In) : List C.In := C.fitP (if b then l.map C.bareI else l)
def fitPr (p : PS) : List (List C.In) := [C.mov] :: (p.ps.take 3).map (fitPn (decide ((fitTs p).length = 0)))
def fitS (p : PS) (most verts draws tris : Nat) : PS :=
  ⟨1 + p.w % most, 1 + p.h % most, pre p.k, fitVs p verts, fitTs p, fitPr p, (p.ds.take draws).mapIdx (fitDr (fitVs p verts).length (fitTs p).length (fitPr p).length tris)⟩

theorem mapIdx_snoc {α β : Type} {l : List (Lo α)} {f : Nat → α → β} {k : Nat} {u : Lo α} (h : l[k]? = some u) : ((l.map Lo.x).take (k + 1)).mapIdx f = ((l.map Lo.x).take k).mapIdx f ++ [f k u.x] := by
  have h2 : (l.map Lo.x)[k]? = some u.x := by rw [List.getElem?_map, h]; rfl
  have hl := (List.getElem?_eq_some_iff.1 h2).1
  rw [take_snoc h2, List.mapIdx_concat, List.length_take, Nat.min_eq_left (by omega)]
theorem mapIdx_get {α β : Type} {l : List α} {f : Nat → α → β} {x : β} (h : x ∈ l.mapIdx f) : ∃ i u, l[i]? = some u ∧ x = f i u := by
  obtain ⟨i, hi, e⟩ := List.mem_mapIdx.1 h
  exact ⟨i, l[i], List.getElem?_eq_getElem hi, e.symm⟩
theorem nodup_idx {α β : Type} (l : List α) (f : Nat → α → β) (g : β → Int) (c : α → Int) (hl : l.length ≤ 100) (h : ∀ i u, g (f i u) = 100 * c u + i) : ((l.mapIdx f).map g).Nodup := by
  rw [List.Nodup, List.pairwise_iff_getElem]
  intro i j hi hj hij e
  simp only [List.length_map, List.length_mapIdx] at hi hj
  simp only [List.getElem_map, List.getElem_mapIdx, h] at e
  omega
theorem bare_tex (l : List C.In) : (C.fitP (l.map C.bareI)).any C.tex = false := by
  have key : ∀ x : C.In, ¬ 13 ≤ x.o % 15 → ∀ i n, C.tex (C.fitI x i n) = false := by
    intro x hx i n
    unfold C.tex C.fitI
    refine decide_eq_false ?_
    split
    · simp
    · split
      · dsimp only; omega
      · split
        · simp
        · split
          · dsimp only; omega
          · dsimp only; omega
  have hb : ∀ x : C.In, ¬ 13 ≤ (C.bareI x).o % 15 := by
    intro x
    unfold C.bareI
    split
    · simp
    · assumption
  have hg : ∀ i, ¬ 13 ≤ ((l.map C.bareI).getD i C.mov).o % 15 := by
    intro i
    rw [List.getD_eq_getElem?_getD]
    cases e : (l.map C.bareI)[i]? with
    | none => decide
    | some c =>
      obtain ⟨x, _, rfl⟩ := List.mem_map.1 (List.mem_of_getElem? e)
      exact hb x
  rw [List.any_eq_false]
  intro x hx
  unfold C.fitP at hx
  split at hx
  · obtain rfl : x = C.mov := by simpa using hx
    decide
  · obtain ⟨i, -, rfl⟩ := List.mem_map.1 hx
    rw [C.fitAt, key _ (hg i)]
    decide
section
variable {p : PS} {most verts draws tris : Nat}
theorem fitVs_len : 1 ≤ (fitVs p verts).length ∧ (fitVs p verts).length ≤ verts + 1 := by
  unfold fitVs
  rw [List.length_cons, List.length_map]
  have := take_le p.vs verts
  omega
theorem fitTs_len : (fitTs p).length ≤ 2 := by
  unfold fitTs
  rw [List.length_map]
  exact take_le _ _
theorem fitPr_len : 1 ≤ (fitPr p).length ∧ (fitPr p).length ≤ 4 := by
  unfold fitPr
  rw [List.length_cons, List.length_map]
  have := take_le p.ps 3
  omega
theorem emod_in (n : Int) {m : Nat} (h : 0 < m) : 0 ≤ n % m ∧ n % m < m := ⟨Int.emod_nonneg _ (by omega), Int.emod_lt_of_pos _ (by omega)⟩
theorem inB_of {n a b : Int} (h1 : a ≤ n) (h2 : n ≤ b) : inB n a b = true := decide_eq_true ⟨h1, h2⟩
theorem fitTri_good (nv k : Nat) (t : Tr) (hv : 0 < nv) (hk : k < 100) : triB nv (fitTri nv k t) = true := by
  have h0 := emod_in t.i (m := 100) (by decide)
  have h1 := emod_in t.a hv
  have h2 := emod_in t.b hv
  have h3 := emod_in t.c hv
  have e0 : t.i % (100 : Nat) = t.i % 100 := rfl
  rw [e0] at h0
  unfold triB fitTri
  simp only [List.all_cons, List.all_nil, Bool.and_true, Bool.and_eq_true]
  exact ⟨inB_of (by omega) (by omega), inB_of (by omega) (by omega), inB_of (by omega) (by omega), inB_of (by omega) (by omega)⟩
theorem fitS_head (hk : p.k.ok) (hm : 1 ≤ most) (hm2 : most ≤ 64) (hv : verts ≤ 63) (hd : draws ≤ 8) (ht : tris ≤ 32) : headE (fitS p most verts draws tris) = 0 := by
  have hw := emod_in p.w (m := most) (by omega)
  have hh := emod_in p.h (m := most) (by omega)
  unfold headE
  have e1 : (inB (fitS p most verts draws tris).w 1 64 && inB (fitS p most verts draws tris).h 1 64) = true := by
    show (inB (1 + p.w % most) 1 64 && inB (1 + p.h % most) 1 64) = true
    rw [inB_of (show 1 ≤ 1 + p.w % most by omega) (show 1 + p.w % most ≤ 64 by omega), inB_of (show 1 ≤ 1 + p.h % most by omega) (show 1 + p.h % most ≤ 64 by omega)]
    rfl
  have e2 : rightB (fitS p most verts draws tris).k = true := rightB_of (pre_right hk)
  have e3 : manyB (fitS p most verts draws tris) = false := by
    have h1 := (fitVs_len (p := p) (verts := verts)).2
    have h2 := fitTs_len (p := p)
    have h3 := (fitPr_len (p := p)).2
    have h4 : ((p.ds.take draws).mapIdx (fitDr (fitVs p verts).length (fitTs p).length (fitPr p).length tris)).length ≤ 8 := by
      rw [List.length_mapIdx]
      exact Nat.le_trans (take_le _ _) hd
    have h5 : ((p.ds.take draws).mapIdx (fitDr (fitVs p verts).length (fitTs p).length (fitPr p).length tris)).all (fun d => decide (d.tris.length ≤ 32)) = true := by
      rw [List.all_eq_true]
      intro d hd
      obtain ⟨i, u, -, rfl⟩ := mapIdx_get hd
      refine decide_eq_true ?_
      unfold fitDr
      dsimp only
      rw [List.length_mapIdx]
      exact Nat.le_trans (take_le _ _) ht
    have g1 : decide (64 < (fitS p most verts draws tris).vs.length) = false := decide_eq_false (show ¬ 64 < (fitVs p verts).length by omega)
    have g2 : decide (4 < (fitS p most verts draws tris).ts.length) = false := decide_eq_false (show ¬ 4 < (fitTs p).length by omega)
    have g3 : decide (4 < (fitS p most verts draws tris).ps.length) = false := decide_eq_false (show ¬ 4 < (fitPr p).length by omega)
    have g4 : decide (8 < (fitS p most verts draws tris).ds.length) = false := decide_eq_false (show ¬ 8 < ((p.ds.take draws).mapIdx (fitDr (fitVs p verts).length (fitTs p).length (fitPr p).length tris)).length by omega)
    unfold manyB
    rw [g1, g2, g3, g4, show (fitS p most verts draws tris).ds = (p.ds.take draws).mapIdx (fitDr (fitVs p verts).length (fitTs p).length (fitPr p).length tris) from rfl, h5]
    rfl
  have e4 : (fitS p most verts draws tris).vs.all U.rightB = true := by
    show (fitVs p verts).all U.rightB = true
    rw [List.all_eq_true]
    intro v hv
    rcases List.mem_cons.1 hv with rfl | hv
    · decide
    · obtain ⟨u, -, rfl⟩ := List.mem_map.1 hv
      exact U.rightB_ok (U.fitV_ok u)
  have e5 : (fitS p most verts draws tris).ts.all Tx.right = true := by
    show (fitTs p).all Tx.right = true
    rw [List.all_eq_true]
    intro t ht
    obtain ⟨u, -, rfl⟩ := List.mem_map.1 ht
    exact fitT_right u
  have e6 : (fitS p most verts draws tris).ps.all (fun l => decide (C.chk l = 0)) = true := by
    show (fitPr p).all (fun l => decide (C.chk l = 0)) = true
    rw [List.all_eq_true]
    intro l hl
    rcases List.mem_cons.1 hl with rfl | hl
    · decide
    · obtain ⟨u, -, rfl⟩ := List.mem_map.1 hl
      exact decide_eq_true (C.fitP_chk _)
  rw [e1, e2, e3, e4, e5, e6]
  simp
theorem fitS_check (hk : p.k.ok) (hm : 1 ≤ most) (hm2 : most ≤ 64) (hv : verts ≤ 63) (hd : draws ≤ 8) (ht : tris ≤ 32) : check (fitS p most verts draws tris) = 0 := by
  refine check_zero.2 ⟨fitS_head hk hm hm2 hv hd ht, fun d hdm => ?_, ?_⟩
  · obtain ⟨i, u, hu, rfl⟩ := mapIdx_get (show d ∈ (p.ds.take draws).mapIdx (fitDr (fitVs p verts).length (fitTs p).length (fitPr p).length tris) from hdm)
    have hi : i < 8 := by
      have := (List.getElem?_eq_some_iff.1 hu).1
      have := take_le p.ds draws
      omega
    have h1 := (fitVs_len (p := p) (verts := verts)).1
    have h3 := (fitPr_len (p := p)).1
    have q0 := emod_in u.id (m := 100) (by decide)
    have e0 : u.id % (100 : Nat) = u.id % 100 := rfl
    rw [e0] at q0
    have q1 := emod_in u.prog (m := (fitPr p).length) (by omega)
    refine ⟨?_, ?_⟩
    · unfold ptsB
      have a1 : inB (fitDr (fitVs p verts).length (fitTs p).length (fitPr p).length tris i u).id 0 9999 = true := inB_of (show 0 ≤ 100 * (u.id % 100) + (i : Int) by omega) (show 100 * (u.id % 100) + (i : Int) ≤ 9999 by omega)
      have a2 : inB (fitDr (fitVs p verts).length (fitTs p).length (fitPr p).length tris i u).prog 0 (((fitS p most verts draws tris).ps.length : Int) - 1) = true := inB_of (show 0 ≤ u.prog % ((fitPr p).length : Int) by omega) (show u.prog % ((fitPr p).length : Int) ≤ ((fitPr p).length : Int) - 1 by omega)
      rw [a1, a2]
      have ht2 : ((fitDr (fitVs p verts).length (fitTs p).length (fitPr p).length tris i u).tris).all (triB (fitVs p verts).length) = true := by
        rw [List.all_eq_true]
        intro t htm
        obtain ⟨k, x, hx, rfl⟩ := mapIdx_get (show t ∈ (u.tris.take tris).mapIdx (fitTri (fitVs p verts).length) from htm)
        have hk2 : k < 100 := by
          have := (List.getElem?_eq_some_iff.1 hx).1
          have := take_le u.tris tris
          omega
        exact fitTri_good _ _ _ (by omega) hk2
      have hx2 : texB (fitS p most verts draws tris) (fitDr (fitVs p verts).length (fitTs p).length (fitPr p).length tris i u) = true := by
        unfold texB
        by_cases h0 : 0 < (fitTs p).length
        · have q2 := emod_in u.tex h0
          have e : (fitDr (fitVs p verts).length (fitTs p).length (fitPr p).length tris i u).tex = u.tex % ((fitTs p).length : Int) := if_pos h0
          rw [e, if_neg (by omega)]
          exact inB_of (by omega) (show u.tex % ((fitTs p).length : Int) ≤ ((fitTs p).length : Int) - 1 by omega)
        · have e : (fitDr (fitVs p verts).length (fitTs p).length (fitPr p).length tris i u).tex = -1 := if_neg h0
          rw [e, if_pos rfl]
          have hn : ∀ l ∈ fitPr p, l.any C.tex = false := by
            intro l hl
            rcases List.mem_cons.1 hl with rfl | hl
            · decide
            · obtain ⟨u, -, rfl⟩ := List.mem_map.1 hl
              unfold fitPn
              rw [decide_eq_true (show (fitTs p).length = 0 by omega), if_pos rfl]
              exact bare_tex u
          obtain ⟨l, hl⟩ := get_lt (l := fitPr p) (k := (u.prog % ((fitPr p).length : Int)).toNat) (by omega)
          have hg : (fitS p most verts draws tris).ps.getD (fitDr (fitVs p verts).length (fitTs p).length (fitPr p).length tris i u).prog.toNat [] = l := by
            show (fitPr p).getD (u.prog % ((fitPr p).length : Int)).toNat [] = l
            rw [List.getD_eq_getElem?_getD, hl]
            rfl
          rw [hg, hn l (List.mem_of_getElem? hl)]
          rfl
      rw [hx2, show (fitS p most verts draws tris).vs.length = (fitVs p verts).length from rfl, ht2]
      rfl
    · exact nodup_idx (u.tris.take tris) (fitTri (fitVs p verts).length) Tr.i (fun t => t.i % 100) (Nat.le_trans (take_le _ _) (by omega)) (fun _ _ => rfl)
  · exact nodup_idx (p.ds.take draws) (fitDr (fitVs p verts).length (fitTs p).length (fitPr p).length tris) Dr.id (fun d => d.id % 100) (Nat.le_trans (take_le _ _) (by omega)) (fun _ _ => rfl)
theorem fitTri_ok {nv k : Nat} {t : Tr} (hv : 0 < nv) (hn : nv ≤ 100000) (hk : k < 100) : (fitTri nv k t).ok := by
  have h0 := emod_in t.i (m := 100) (by decide)
  have h1 := emod_in t.a hv
  have h2 := emod_in t.b hv
  have h3 := emod_in t.c hv
  have e0 : t.i % (100 : Nat) = t.i % 100 := rfl
  rw [e0] at h0
  unfold fitTri
  constructor <;> dsimp only <;> unfold I64 <;> omega
theorem fitS_ok (hp : p.ok) (hm : 1 ≤ most) (hm2 : most ≤ 64) (hv : verts ≤ 63) (hd : draws ≤ 8) (ht : tris ≤ 32) : (fitS p most verts draws tris).ok := by
  have hw := emod_in p.w (m := most) (by omega)
  have hh := emod_in p.h (m := most) (by omega)
  have h1 := fitVs_len (p := p) (verts := verts)
  have h2 := fitTs_len (p := p)
  have h3 := fitPr_len (p := p)
  refine ⟨?_, ?_, pre_ok hp.k, fun v hv => ?_, fun t ht => ?_, fun l hl => ?_, fun d hdm => ?_⟩
  · show I64 (1 + p.w % most)
    unfold I64
    omega
  · show I64 (1 + p.h % most)
    unfold I64
    omega
  · rcases List.mem_cons.1 (show v ∈ fitVs p verts from hv) with rfl | hv
    · constructor <;> decide
    · obtain ⟨u, -, rfl⟩ := List.mem_map.1 hv
      obtain ⟨b1, b2, b3, b4, b5, b6, b7, b8⟩ := U.fitV_ok u
      constructor <;> omega
  · obtain ⟨u, hu, rfl⟩ := List.mem_map.1 (show t ∈ (p.ts.take 2).map fitT from ht)
    have hs := fitT_sides u
    exact ⟨by unfold I64; omega, by unfold I64; omega, fitT_ok (hp.ts u (List.mem_of_mem_take hu)).2.2⟩
  · rcases List.mem_cons.1 (show l ∈ fitPr p from hl) with rfl | hl
    · intro x hx
      obtain rfl : x = C.mov := by simpa using hx
      exact C.mov_ok
    · obtain ⟨u, hu, rfl⟩ := List.mem_map.1 hl
      have ho := hp.ps u (List.mem_of_mem_take hu)
      unfold fitPn
      refine C.fitP_ok ?_
      split
      · intro y hy
        obtain ⟨x, hx, rfl⟩ := List.mem_map.1 hy
        exact C.bareI_ok (ho x hx)
      · exact ho
  · obtain ⟨i, u, hu, rfl⟩ := mapIdx_get (show d ∈ (p.ds.take draws).mapIdx (fitDr (fitVs p verts).length (fitTs p).length (fitPr p).length tris) from hdm)
    have hi : i < 8 := by
      have := (List.getElem?_eq_some_iff.1 hu).1
      have := take_le p.ds draws
      omega
    have q0 := emod_in u.id (m := 100) (by decide)
    have e0 : u.id % (100 : Nat) = u.id % 100 := rfl
    rw [e0] at q0
    have q1 := emod_in u.prog (m := (fitPr p).length) (by omega)
    refine ⟨?_, ?_, ?_, fun t htm => ?_⟩
    · show I64 (100 * (u.id % 100) + (i : Int))
      unfold I64
      omega
    · show I64 (u.prog % ((fitPr p).length : Int))
      unfold I64
      omega
    · show I64 (if 0 < (fitTs p).length then u.tex % ((fitTs p).length : Int) else -1)
      split
      · rename_i h0
        have q2 := emod_in u.tex h0
        unfold I64
        omega
      · unfold I64
        omega
    · obtain ⟨k, x, hx, rfl⟩ := mapIdx_get (show t ∈ (u.tris.take tris).mapIdx (fitTri (fitVs p verts).length) from htm)
      have hk2 : k < 100 := by
        have := (List.getElem?_eq_some_iff.1 hx).1
        have := take_le u.tris tris
        omega
      exact fitTri_ok (by omega) (by omega) hk2
theorem fitS_few (hv : verts ≤ 63) (hd : draws ≤ 8) (ht : tris ≤ 32) : (fitS p most verts draws tris).few := by
  have h1 := fitVs_len (p := p) (verts := verts)
  have h2 := fitTs_len (p := p)
  have h3 := fitPr_len (p := p)
  refine ⟨?_, ?_, fun t ht => ?_, ?_, fun l hl => ?_, ?_, fun d hdm => ?_⟩
  · show (fitVs p verts).length ≤ 100000
    omega
  · show (fitTs p).length ≤ 100000
    omega
  · obtain ⟨u, hu, rfl⟩ := List.mem_map.1 (show t ∈ (p.ts.take 2).map fitT from ht)
    obtain ⟨a0, a1, b0, b1⟩ := fitT_sides u
    have hl := fitT_len u
    have := Int.mul_le_mul a1 b1 (by omega) (by omega)
    omega
  · show (fitPr p).length ≤ 100000
    omega
  · rcases List.mem_cons.1 (show l ∈ fitPr p from hl) with rfl | hl
    · decide
    · obtain ⟨u, hu, rfl⟩ := List.mem_map.1 hl
      have := C.fitP_len (if decide ((fitTs p).length = 0) then u.map C.bareI else u)
      unfold fitPn
      omega
  · show ((p.ds.take draws).mapIdx (fitDr (fitVs p verts).length (fitTs p).length (fitPr p).length tris)).length ≤ 100000
    rw [List.length_mapIdx]
    exact Nat.le_trans (take_le _ _) (by omega)
  · obtain ⟨i, u, hu, rfl⟩ := mapIdx_get (show d ∈ (p.ds.take draws).mapIdx (fitDr (fitVs p verts).length (fitTs p).length (fitPr p).length tris) from hdm)
    show ((u.tris.take tris).mapIdx (fitTri (fitVs p verts).length)).length ≤ 100000
    rw [List.length_mapIdx]
    exact Nat.le_trans (take_le _ _) (by omega)
end
end Go.Proofs.YtfmmfaeognoleaaGreat
/-
  Scenes that may be, with their draws told otherwise (pure).
-/
namespace Go.Proofs.YtfmmfaeognoleaaGreat

/-- A scene with other draws. -/
def PS.wd (p : PS) (l : List Dr) : PS := ⟨p.w, p.h, p.k, p.vs, p.ts, p.ps, l⟩
theorem wd_self (p : PS) : p.wd p.ds = p := rfl
theorem ptsB_wd (p : PS) (l : List Dr) (d : Dr) : ptsB (p.wd l) d = ptsB p d := rfl
theorem drawE_wd (p : PS) (l pre : List Dr) (d : Dr) : drawE (p.wd l) pre d = drawE p pre d := rfl
/-- No row has too many elements, the draws aside. -/
structure PS.room (p : PS) : Prop where
  v : p.vs.length ≤ 64
  t : p.ts.length ≤ 4
  p : p.ps.length ≤ 4
theorem many_no {p : PS} : manyB p = false ↔ p.room ∧ p.ds.length ≤ 8 ∧ ∀ d ∈ p.ds, d.tris.length ≤ 32 := by
  unfold manyB
  simp only [Bool.or_eq_false_iff, decide_eq_false_iff_not, Nat.not_lt, Bool.not_eq_false', List.all_eq_true, decide_eq_true_eq]
  constructor
  · rintro ⟨a, b, c, d, e⟩
    exact ⟨⟨a, b, c⟩, d, e⟩
  · rintro ⟨⟨a, b, c⟩, d, e⟩
    exact ⟨a, b, c, d, e⟩
/-- What the head of a check asks. -/
structure PS.head (p : PS) : Prop where
  s : (inB p.w 1 64 && inB p.h 1 64) = true
  k : rightB p.k = true
  room : p.room
  v : p.vs.all U.rightB = true
  t : p.ts.all Tx.right = true
  c : p.ps.all (fun l => decide (C.chk l = 0)) = true
theorem head_zero {p : PS} : headE p = 0 ↔ p.head ∧ p.ds.length ≤ 8 ∧ ∀ d ∈ p.ds, d.tris.length ≤ 32 := by
  unfold headE
  cases h1 : (inB p.w 1 64 && inB p.h 1 64)
  · simp only [if_true]
    exact ⟨fun h => by omega, fun h => by have := h.1.s; rw [h1] at this; cases this⟩
  · rw [if_neg (by simp)]
    cases h2 : rightB p.k
    · simp only [if_true]
      exact ⟨fun h => by omega, fun h => by have := h.1.k; rw [h2] at this; cases this⟩
    · rw [if_neg (by simp)]
      cases h3 : manyB p
      · rw [if_neg (by simp)]
        have hm := many_no.1 h3
        cases h4 : p.vs.all U.rightB
        · simp only [if_true]
          exact ⟨fun h => by omega, fun h => by have := h.1.v; rw [h4] at this; cases this⟩
        · rw [if_neg (by simp)]
          cases h5 : p.ts.all Tx.right
          · simp only [if_true]
            exact ⟨fun h => by omega, fun h => by have := h.1.t; rw [h5] at this; cases this⟩
          · rw [if_neg (by simp)]
            cases h6 : p.ps.all (fun l => decide (C.chk l = 0))
            · simp only [if_true]
              exact ⟨fun h => by omega, fun h => by have := h.1.c; rw [h6] at this; cases this⟩
            · rw [if_neg (by simp)]
              exact ⟨fun _ => ⟨⟨h1, h2, hm.1, h4, h5, h6⟩, hm.2⟩, fun _ => rfl⟩
      · rw [if_pos rfl]
        exact ⟨fun h => by omega, fun h => by have := many_no.2 ⟨h.1.room, h.2⟩; rw [h3] at this; cases this⟩
theorem head_wd {p : PS} {l : List Dr} (h : p.head) (h8 : l.length ≤ 8) (h32 : ∀ d ∈ l, d.tris.length ≤ 32) : headE (p.wd l) = 0 :=
  head_zero.2 ⟨⟨h.s, h.k, ⟨h.room.v, h.room.t, h.room.p⟩, h.v, h.t, h.c⟩, h8, h32⟩
/-- Of a draw: it may be by itself. -/
structure PS.dok (p : PS) (d : Dr) : Prop where
  n : d.tris.length ≤ 32
  b : ptsB p d = true
  u : (d.tris.map Tr.i).Nodup
/-- What it is to be right. -/
theorem check_ok {p : PS} : check p = 0 ↔ p.head ∧ p.ds.length ≤ 8 ∧ (∀ d ∈ p.ds, p.dok d) ∧ (p.ds.map Dr.id).Nodup := by
  rw [check_zero, head_zero]
  constructor
  · rintro ⟨⟨a, b, c⟩, d, e⟩
    exact ⟨a, b, fun x hx => ⟨c x hx, (d x hx).1, (d x hx).2⟩, e⟩
  · rintro ⟨a, b, c, e⟩
    exact ⟨⟨a, b, fun x hx => (c x hx).n⟩, fun x hx => ⟨(c x hx).b, (c x hx).u⟩, e⟩
theorem check_wd {p : PS} {l : List Dr} (h : p.head) (h8 : l.length ≤ 8) (hd : ∀ d ∈ l, p.dok d) (hn : (l.map Dr.id).Nodup) : check (p.wd l) = 0 :=
  check_ok.2 ⟨⟨h.s, h.k, ⟨h.room.v, h.room.t, h.room.p⟩, h.v, h.t, h.c⟩, h8, fun d hx => ⟨(hd d hx).n, (hd d hx).b, (hd d hx).u⟩, hn⟩
/-- A draw that replaces one that was right, with those ahead of it. -/
theorem check_bad {p : PS} {pre l : List Dr} {d : Dr} {e : Int} (h : p.head) (h8 : (pre ++ d :: l).length ≤ 8) (h32 : ∀ x ∈ pre ++ d :: l, x.tris.length ≤ 32)
    (hp : ∀ x ∈ pre, p.dok x) (hn : (pre.map Dr.id).Nodup) (he : drawE p pre d = e) (hne : e ≠ 0) : check (p.wd (pre ++ d :: l)) = e := by
  have hH := head_wd h h8 h32
  have hg : (p.wd (pre ++ d :: l)).ds[pre.length]? = some d := by
    show (pre ++ d :: l)[pre.length]? = some d
    rw [List.getElem?_append_right (Nat.le_refl _), Nat.sub_self]
    rfl
  have ht : (p.wd (pre ++ d :: l)).ds.take pre.length = pre := by
    show (pre ++ d :: l).take pre.length = pre
    rw [List.take_left]
  have hE : errAt (p.wd (pre ++ d :: l)) pre.length = e := by rw [errAt_eq hg, ht, drawE_wd, he]
  unfold check
  rw [if_pos hH, ← hE]
  refine errs_bad (List.getElem?_eq_some_iff.1 hg).1 (fun i hi => ?_) (by rw [hE]; exact hne)
  obtain ⟨x, hx⟩ := get_lt hi
  have hx2 : (p.wd (pre ++ d :: l)).ds[i]? = some x := by
    show (pre ++ d :: l)[i]? = some x
    rw [List.getElem?_append_left hi, hx]
  have ht2 : (p.wd (pre ++ d :: l)).ds.take i = pre.take i := by
    show (pre ++ d :: l).take i = _
    rw [List.take_append_of_le_length (by omega)]
  rw [errAt_eq hx2, ht2, drawE_wd, drawE_zero]
  have hk := hp x (List.mem_of_getElem? hx)
  refine ⟨hk.b, fun hm => ?_, hk.u⟩
  have h1 : ((pre.take (i + 1)).map Dr.id).Nodup := List.Nodup.sublist ((List.take_sublist _ _).map _) hn
  rw [take_snoc hx, List.map_append] at h1
  exact (nodup_snoc.1 h1).2 hm

theorem nodup_rev {l : List Int} (h : l.Nodup) : l.reverse.Nodup := by
  unfold List.Nodup
  rw [List.pairwise_reverse]
  exact h.imp fun h e => h e.symm
/-- A draw with its triangles the other way about. -/
def revD (d : Dr) : Dr := ⟨d.id, d.prog, d.tex, d.op, d.tris.reverse⟩
theorem revD_ok {p : PS} {d : Dr} (h : p.dok d) : p.dok (revD d) := by
  refine ⟨by show d.tris.reverse.length ≤ 32; rw [List.length_reverse]; exact h.n, ?_, ?_⟩
  · rw [← h.b]
    show (inB d.id 0 9999 && (inB d.prog 0 (p.ps.length - 1) && (texB p d && d.tris.reverse.all (triB p.vs.length)))) = (inB d.id 0 9999 && (inB d.prog 0 (p.ps.length - 1) && (texB p d && d.tris.all (triB p.vs.length))))
    rw [List.all_reverse]
  · show (d.tris.reverse.map Tr.i).Nodup
    rw [List.map_reverse]
    exact nodup_rev h.u
theorem check_back {p : PS} (h : check p = 0) : check (p.wd (p.ds.reverse.map revD)) = 0 := by
  obtain ⟨a, b, c, d⟩ := check_ok.1 h
  refine check_wd a (by rw [List.length_map, List.length_reverse]; exact b) (fun x hx => ?_) ?_
  · obtain ⟨y, hy, rfl⟩ := List.mem_map.1 hx
    exact revD_ok (c y (List.mem_reverse.1 hy))
  · rw [List.map_map, show Dr.id ∘ revD = Dr.id from rfl, List.map_reverse]
    exact nodup_rev d
theorem count_back {p : PS} : count (p.wd (p.ds.reverse.map revD)) = count p := by
  unfold count
  show ((p.ds.reverse.map revD).map fun d => d.tris.length).sum = _
  rw [List.map_map, show ((fun d : Dr => d.tris.length) ∘ revD) = fun d => d.tris.length from funext fun d => List.length_reverse, List.map_reverse, List.sum_reverse]
theorem check_again {p : PS} {d : Dr} (h : check p = 0) (h7 : p.ds.length ≤ 7) (hd : d ∈ p.ds) : check (p.wd (p.ds ++ [d])) = 25 := by
  obtain ⟨a, b, c, e⟩ := check_ok.1 h
  have hk := c d hd
  refine check_bad a (by rw [List.length_append]; simp; omega) (fun x hx => ?_) c e ?_ (by omega)
  · rcases List.mem_append.1 hx with hx | hx
    · exact (c x hx).n
    · obtain rfl : x = d := by simpa using hx
      exact hk.n
  · unfold drawE
    rw [hk.b, if_neg (by simp)]
    have : (p.ds.map Dr.id).contains d.id = true := by
      rw [List.contains_eq_mem]
      exact decide_eq_true (List.mem_map.2 ⟨d, hd, rfl⟩)
    rw [this]
    rfl
theorem set_split {α : Type} {l : List α} {i : Nat} {y : α} (h : i < l.length) : l.set i y = l.take i ++ y :: l.drop (i + 1) := List.set_eq_take_append_cons_drop.trans (if_pos h)
theorem get_split {α : Type} {l : List α} {i : Nat} {x : α} (h : l[i]? = some x) : l = l.take i ++ x :: l.drop (i + 1) := by
  conv => lhs; rw [← List.take_append_drop i l]
  congr 1
  obtain ⟨hi, e⟩ := List.getElem?_eq_some_iff.1 h
  rw [List.drop_eq_getElem_cons hi, e]
theorem mem_set {α : Type} {l : List α} {i : Nat} {y z : α} (h : z ∈ l.set i y) : z ∈ l ∨ z = y := (List.mem_or_eq_of_mem_set h)
/-- Two triangles of one number ahead of a draw's. -/
def twT (d : Dr) : Dr := ⟨d.id, d.prog, d.tex, d.op, [⟨7, 0, 0, 0⟩, ⟨7, 0, 0, 0⟩] ++ d.tris⟩
theorem check_tw {p : PS} {d : Dr} {i : Nat} (h : check p = 0) (hv : 1 ≤ p.vs.length) (hi : p.ds[i]? = some d) (h30 : d.tris.length ≤ 30) : check (p.wd (p.ds.set i (twT d))) = 25 := by
  obtain ⟨a, b, c, e⟩ := check_ok.1 h
  have hk := c d (List.mem_of_getElem? hi)
  have hl : (p.ds.set i (twT d)).length = p.ds.length := List.length_set
  have hm : ∀ x ∈ p.ds.set i (twT d), x.tris.length ≤ 32 := fun x hx => by
    rcases mem_set hx with hx | rfl
    · exact (c x hx).n
    · show ([(⟨7, 0, 0, 0⟩ : Tr), ⟨7, 0, 0, 0⟩] ++ d.tris).length ≤ 32
      rw [List.length_append]
      simp
      omega
  rw [set_split (List.getElem?_eq_some_iff.1 hi).1] at hl hm ⊢
  refine check_bad a (by rw [hl]; exact b) hm (fun x hx => c x (List.mem_of_mem_take hx)) (List.Nodup.sublist ((List.take_sublist _ _).map _) e) ?_ (by omega)
  have hp : ptsB p (twT d) = true := by
    have hb := hk.b
    have h7 : triB p.vs.length ⟨7, 0, 0, 0⟩ = true := by
      unfold triB
      simp only [List.all_cons, List.all_nil, Bool.and_true, Bool.and_eq_true]
      exact ⟨by decide, inB_of (by omega) (by omega), inB_of (by omega) (by omega), inB_of (by omega) (by omega)⟩
    unfold ptsB at hb ⊢
    show (inB d.id 0 9999 && (inB d.prog 0 (p.ps.length - 1) && (texB p d && ([(⟨7, 0, 0, 0⟩ : Tr), ⟨7, 0, 0, 0⟩] ++ d.tris).all (triB p.vs.length)))) = true
    rw [List.all_append]
    simp only [List.all_cons, List.all_nil, h7, Bool.and_true, Bool.true_and]
    exact hb
  unfold drawE
  rw [hp, if_neg (by simp)]
  have ht : twiceB ((twT d).tris.map Tr.i) = true := by
    cases ht : twiceB ((twT d).tris.map Tr.i)
    · have := twiceB_no.1 ht
      have h2 : (7 :: 7 :: d.tris.map Tr.i : List Int).Nodup := this
      simp at h2
    · rfl
  rw [ht, Bool.or_true]
  rfl
/-- Without one of its draws. -/
theorem check_less {p : PS} {i : Nat} (h : check p = 0) : check (p.wd (p.ds.take i ++ p.ds.drop (i + 1))) = 0 := by
  obtain ⟨a, b, c, e⟩ := check_ok.1 h
  have hs : (p.ds.take i ++ p.ds.drop (i + 1)).Sublist p.ds := by
    conv => rhs; rw [← List.take_append_drop i p.ds]
    exact List.Sublist.append (List.Sublist.refl _) (by rw [← List.drop_drop]; exact List.drop_sublist _ _)
  exact check_wd a (Nat.le_trans hs.length_le b) (fun d hd => c d (hs.subset hd)) (List.Nodup.sublist (hs.map _) e)
theorem count_less {p : PS} {d : Dr} {i : Nat} (hi : p.ds[i]? = some d) : (count (p.wd (p.ds.take i ++ p.ds.drop (i + 1))) : Int) = count p - d.tris.length := by
  unfold count
  show ((((p.ds.take i ++ p.ds.drop (i + 1)).map fun d => d.tris.length).sum : Nat) : Int) = ((p.ds.map fun d => d.tris.length).sum : Nat) - (d.tris.length : Int)
  have e : (p.ds.map fun d => d.tris.length).sum = ((p.ds.take i ++ d :: p.ds.drop (i + 1)).map fun d => d.tris.length).sum := by rw [← get_split hi]
  rw [e]
  simp only [List.map_append, List.map_cons, List.sum_append, List.sum_cons]
  omega
/-- With fewer triangles. -/
def cutD (k : Nat) (d : Dr) : Dr := ⟨d.id, d.prog, d.tex, d.op, d.tris.take k⟩
theorem cutD_ok {p : PS} {d : Dr} {k : Nat} (h : p.dok d) : p.dok (cutD k d) := by
  refine ⟨?_, ?_, ?_⟩
  · show (d.tris.take k).length ≤ 32
    have := h.n
    rw [List.length_take]
    omega
  · have hb := h.b
    unfold ptsB at hb ⊢
    show (inB d.id 0 9999 && (inB d.prog 0 (p.ps.length - 1) && (texB p d && (d.tris.take k).all (triB p.vs.length)))) = true
    simp only [Bool.and_eq_true] at hb ⊢
    refine ⟨hb.1, hb.2.1, hb.2.2.1, ?_⟩
    rw [List.all_eq_true]
    exact fun t ht => List.all_eq_true.1 hb.2.2.2 t (List.mem_of_mem_take ht)
  · show ((d.tris.take k).map Tr.i).Nodup
    exact List.Nodup.sublist ((List.take_sublist _ _).map _) h.u
theorem ids_set {l : List Dr} {i : Nat} {d e : Dr} (hi : l[i]? = some d) (he : e.id = d.id) : (l.set i e).map Dr.id = l.map Dr.id := by
  rw [set_split (List.getElem?_eq_some_iff.1 hi).1]
  conv => rhs; rw [get_split hi]
  simp only [List.map_append, List.map_cons, he]
theorem check_cut {p : PS} {d : Dr} {i k : Nat} (h : check p = 0) (hi : p.ds[i]? = some d) : check (p.wd (p.ds.set i (cutD k d))) = 0 := by
  obtain ⟨a, b, c, e⟩ := check_ok.1 h
  refine check_wd a (by rw [List.length_set]; exact b) (fun x hx => ?_) (by rw [ids_set hi (show (cutD k d).id = d.id from rfl)]; exact e)
  rcases mem_set hx with hx | rfl
  · exact c x hx
  · exact cutD_ok (c d (List.mem_of_getElem? hi))
theorem count_cut {p : PS} {d : Dr} {i k : Nat} (hi : p.ds[i]? = some d) (hk : k ≤ d.tris.length) : (count (p.wd (p.ds.set i (cutD k d))) : Int) = count p - d.tris.length + k := by
  unfold count
  show ((((p.ds.set i (cutD k d)).map fun d => d.tris.length).sum : Nat) : Int) = ((p.ds.map fun d => d.tris.length).sum : Nat) - (d.tris.length : Int) + (k : Int)
  rw [set_split (List.getElem?_eq_some_iff.1 hi).1]
  have e : (p.ds.map fun d => d.tris.length).sum = ((p.ds.take i ++ d :: p.ds.drop (i + 1)).map fun d => d.tris.length).sum := by rw [← get_split hi]
  rw [e]
  simp only [List.map_append, List.map_cons, List.sum_append, List.sum_cons]
  have : (cutD k d).tris.length = k := by
    show (d.tris.take k).length = k
    rw [List.length_take]
    omega
  omega
/-- With more vertices and programs that nobody names. -/
def PS.mo (p : PS) (v : List U.V) (l : List (List C.In)) : PS := ⟨p.w, p.h, p.k, p.vs ++ v, p.ts, p.ps ++ l, p.ds⟩
theorem check_more {p : PS} {v : List U.V} {l : List (List C.In)} (h : check p = 0) (hv : v.all U.rightB = true) (hv2 : (p.vs ++ v).length ≤ 64) (hl : l.all (fun l => decide (C.chk l = 0)) = true) (hl2 : (p.ps ++ l).length ≤ 4) : check (p.mo v l) = 0 := by
  obtain ⟨a, b, c, e⟩ := check_ok.1 h
  refine check_ok.2 ⟨⟨a.s, a.k, ⟨hv2, a.room.t, hl2⟩, ?_, a.t, ?_⟩, b, fun d hd => ⟨(c d hd).n, ?_, (c d hd).u⟩, e⟩
  · show (p.vs ++ v).all U.rightB = true
    rw [List.all_append, a.v, hv]
    rfl
  · show (p.ps ++ l).all (fun l => decide (C.chk l = 0)) = true
    rw [List.all_append, a.c, hl]
    rfl
  · have hb := (c d hd).b
    have hin : ∀ {n a : Int} {k m : Nat}, k ≤ m → inB n a ((k : Int) - 1) = true → inB n a ((m : Int) - 1) = true := fun hk hx => by
      have := of_decide_eq_true hx
      exact inB_of this.1 (by omega)
    unfold ptsB at hb ⊢
    show (inB d.id 0 9999 && (inB d.prog 0 ((p.ps ++ l).length - 1) && (texB (p.mo v l) d && d.tris.all (triB (p.vs ++ v).length)))) = true
    simp only [Bool.and_eq_true] at hb ⊢
    obtain ⟨h1, h2, h3, h4⟩ := hb
    have hpr := of_decide_eq_true h2
    refine ⟨h1, hin (by rw [List.length_append]; omega) h2, ?_, ?_⟩
    · rw [← h3]
      unfold texB
      show (if d.tex = -1 then !(((p.ps ++ l).getD d.prog.toNat []).any C.tex) else inB d.tex 0 (p.ts.length - 1)) = (if d.tex = -1 then !((p.ps.getD d.prog.toNat []).any C.tex) else inB d.tex 0 (p.ts.length - 1))
      rw [List.getD_eq_getElem?_getD, List.getD_eq_getElem?_getD, List.getElem?_append_left (by omega)]
    · rw [List.all_eq_true] at h4 ⊢
      intro t ht
      have := h4 t ht
      unfold triB at this ⊢
      simp only [List.all_cons, List.all_nil, Bool.and_true, Bool.and_eq_true] at this ⊢
      obtain ⟨t1, t2, t3, t4⟩ := this
      have hle : p.vs.length ≤ (p.vs ++ v).length := by rw [List.length_append]; omega
      exact ⟨t1, hin hle t2, hin hle t3, hin hle t4⟩
end Go.Proofs.YtfmmfaeognoleaaGreat
/-
  Scenes that may be have few bytes; bytes that are cut, or go on, say nothing (pure).
-/
namespace Go.Proofs.YtfmmfaeognoleaaGreat

theorem many_le {α : Type} {g : α → List Int} {K : Nat} : ∀ {l : List α}, (∀ x ∈ l, (g x).length ≤ K) → (nAll g l).length ≤ 1 + l.length * K
  | [], _ => by simp [nAll]
  | x :: l, h => by
    have h1 := many_le (g := g) (K := K) (l := l) fun y hy => h y (List.mem_cons_of_mem _ hy)
    have h2 := h x (by simp)
    unfold nAll at h1 ⊢
    simp only [List.flatMap_cons, List.length_cons, List.length_append] at h1 ⊢
    rw [Nat.add_mul]
    omega
theorem mul_le_of {a b c d : Nat} (h1 : a ≤ b) (h2 : c = b * d) : a * d ≤ c := by subst h2; exact Nat.mul_le_mul_right _ h1
theorem len_check {p : PS} (h : check p = 0) : (nS p).length ≤ 6400 := by
  obtain ⟨hh, hd, hr⟩ := head_zero.1 (check_zero.1 h).1
  have v := many_le (g := nV) (K := 8) (l := p.vs) fun x _ => Nat.le_refl 8
  have t := many_le (g := nT) (K := 1027) (l := p.ts) fun x hx => by
    have h1 := List.all_eq_true.1 hh.t x hx
    unfold Tx.right at h1
    simp only [decide_eq_true_eq] at h1
    obtain ⟨a1, a2, a3, a4, a5⟩ := h1
    have h2 := many_le (g := nC) (K := 4) (l := x.px) fun c _ => Nat.le_refl 4
    have h3 := area_bd a1 a2 a3 a4 rfl
    have h4 : (nT x).length = (nAll nC x.px).length + 2 := rfl
    have h5 : x.px.length ≤ 256 := by omega
    have h6 := mul_le_of (d := 4) (c := 1024) h5 rfl
    omega
  have c := many_le (g := nP) (K := 161) (l := p.ps) fun x hx => by
    have h1 := List.all_eq_true.1 hh.c x hx
    simp only [decide_eq_true_eq] at h1
    unfold C.chk at h1
    split at h1
    · cases h1
    · rename_i h2
      have h3 := many_le (g := nI) (K := 5) (l := x) fun c _ => Nat.le_refl 5
      have h4 : (nP x).length = (nAll nI x).length := rfl
      have h6 := mul_le_of (a := x.length) (b := 32) (d := 5) (c := 160) (by omega) rfl
      omega
  have d := many_le (g := nD) (K := 133) (l := p.ds) fun x hx => by
    have h1 := hr x hx
    have h3 := many_le (g := nR) (K := 4) (l := x.tris) fun c _ => Nat.le_refl 4
    have h4 : (nD x).length = (nAll nR x.tris).length + 4 := rfl
    have h6 := mul_le_of (d := 4) (c := 128) h1 rfl
    omega
  have e1 := mul_le_of (d := 8) (c := 512) hh.room.v rfl
  have e2 := mul_le_of (d := 1027) (c := 4108) hh.room.t rfl
  have e3 := mul_le_of (d := 161) (c := 644) hh.room.p rfl
  have e4 := mul_le_of (d := 133) (c := 1064) hd rfl
  unfold nS
  simp only [List.length_cons, List.length_append, nC, List.length_nil]
  omega
theorem len_ten (p : PS) : 10 ≤ (nS p).length := by
  have v := many_len (g := nV) (fun _ => by simp [nV]) p.vs
  have t := many_len (g := nT) (fun _ => by simp [nT]) p.ts
  have c := many_len (g := nP) (fun _ => by simp [nP, nAll]) p.ps
  have d := many_len (g := nD) (fun _ => by simp [nD]) p.ds
  unfold nS
  simp only [List.length_cons, List.length_append, nC, List.length_nil]
  omega
theorem take_back {p : PS} (ho : p.ok) (hc : check p = 0) : (P.put (nS p)).length ≤ 65536 ∧ 10 ≤ (P.put (nS p)).length ∧ takeP (P.put (nS p)) = (p, 0) := by
  have h1 := len_check hc
  have hf : p.few := few_len (by omega)
  have h2 := P.put_len (ins_nS ho hf)
  have h3 := len_ten p
  refine ⟨by omega, by omega, ?_⟩
  rw [takeP_put ho hf (by omega), if_pos hc]
theorem read_cut {p : PS} (ho : p.ok) (hf : p.few) {k : Nat} (hk : k < (P.put (nS p)).length) : readP ((P.put (nS p)).take k) = none := by
  have hi := ins_nS ho hf
  obtain ⟨j, hj, hn, hjk⟩ := P.seq_cut hi k (by omega)
  have hj2 := hjk hk
  unfold readP
  split
  · rfl
  · rw [hn]
    cases h : scanP ((nS p).take j) with
    | none => rfl
    | some q =>
      exfalso
      have := scan_cut ho (hi.take j) (List.take_append_drop j (nS p)).symm h
      have h2 := congrArg List.length this
      rw [List.length_drop, List.length_nil] at h2
      omega
theorem read_more {p : PS} (ho : p.ok) (hf : p.few) {x : Int} (hx : 0 ≤ x ∧ x ≤ 255) : readP (P.put (nS p) ++ [x]) = none := by
  have hi := ins_nS ho hf
  have hb : P.Byt [x] := fun y hy => by
    obtain rfl : y = x := by simpa using hy
    exact hx
  unfold readP
  rw [P.seq_put hi [x]]
  obtain ⟨n, s, he⟩ : ∃ n s, P.first [x] = (n, s) := ⟨_, _, rfl⟩
  by_cases hs : s = 0
  · subst hs
    rw [P.seq_bad (by simp) he]
    rw [if_pos (by simp [P.flag])]
  · obtain ⟨hin, -, -, h3, h4, -⟩ := P.first_inv hb he hs
    have hs1 : s = 1 := by simp at h3; omega
    subst hs1
    rw [P.seq_good hb he hs]
    have e0 : [x].drop 1 = [] := rfl
    rw [e0, P.seq_nil]
    have e1 : P.flag ((nS p).map (fun n => (n, true)) ++ [(n, true)]) = false := by rw [P.flag_snoc_t, P.flag_trues]
    have e2 : P.nums ((nS p).map (fun n => (n, true)) ++ [(n, true)]) = nS p ++ [n] := by rw [P.nums_snoc_t, P.nums_trues]
    rw [e1, e2, if_neg (by decide)]
    cases h : scanP (nS p ++ [n]) with
    | none => rfl
    | some q =>
      exfalso
      have := scan_more ho (hi.app fun y hy => by
        obtain rfl : y = n := by simpa using hy
        exact hin) h
      cases this
theorem takeP_none {bs : List Int} (h : readP bs = none) : takeP bs = (zS, 10) := by
  unfold takeP
  split
  · rfl
  · rw [h]
end Go.Proofs.YtfmmfaeognoleaaGreat
/-
  How the reference reads a scene of numbers, as far as they go (pure), and that its Take tells what codec.Take tells.
-/
namespace Go.Proofs.YtfmmfaeognoleaaGreat

def nNum (l : List Int) : Int × List Int := match l with
  | [] => (0, [])
  | n :: r => (n, r)
def nU8 (l : List Int) : Int × List Int := ((nNum l).1 % 256, (nNum l).2)
def nSg (l : List Int) : Bool × List Int := (decide ((nNum l).1 = 1), (nNum l).2)
def nMany (N : Nat) (l : List Int) : Int × List Int := (min (nNum l).1 N, (nNum l).2)
def nRep {α : Type} (f : List Int → α × List Int) : Nat → List Int → List α × List Int
  | 0, l => ([], l)
  | k + 1, l => ((nRep f k l).1 ++ [(f (nRep f k l).2).1], (f (nRep f k l).2).2)
def nList {α : Type} (N : Nat) (f : List Int → α × List Int) (l : List Int) : List α × List Int := nRep f (nMany N l).1.toNat (nMany N l).2
def nCol (l : List Int) : Col × List Int :=
  let a := nU8 l; let b := nU8 a.2; let c := nU8 b.2; let d := nU8 c.2
  (⟨a.1, b.1, c.1, d.1⟩, d.2)
def nVec (l : List Int) : U.V × List Int :=
  let a := nNum l; let b := nNum a.2; let c := nNum b.2; let d := nNum c.2; let e := nNum d.2; let f := nNum e.2; let g := nNum f.2; let h := nNum g.2
  (⟨a.1, b.1, c.1, d.1, e.1, f.1, g.1, h.1⟩, h.2)
def nIns (l : List Int) : C.In × List Int :=
  let a := nU8 l; let b := nU8 a.2; let c := nU8 b.2; let d := nU8 c.2; let e := nNum d.2
  (⟨a.1, b.1, c.1, d.1, e.1⟩, e.2)
def nTri (l : List Int) : Tr × List Int :=
  let a := nNum l; let b := nNum a.2; let c := nNum b.2; let d := nNum c.2
  (⟨a.1, b.1, c.1, d.1⟩, d.2)
def nTex (N : Nat) (l : List Int) : Tx × List Int :=
  let a := nNum l; let b := nNum a.2; let c := nList N nCol b.2
  (⟨a.1, b.1, c.1⟩, c.2)
def nPrg (N : Nat) (l : List Int) : List C.In × List Int := nList N nIns l
def nDrw (N : Nat) (l : List Int) : Dr × List Int :=
  let a := nNum l; let b := nNum a.2; let c := nNum b.2; let d := nSg c.2; let e := nList N nTri d.2
  (⟨a.1, b.1, c.1, d.1, e.1⟩, e.2)
def nScn (N : Nat) (l : List Int) : PS × List Int :=
  let a := nNum l; let b := nNum a.2; let c := nCol b.2; let d := nList N nVec c.2; let e := nList N (nTex N) d.2; let f := nList N (nPrg N) e.2; let g := nList N (nDrw N) f.2
  (⟨a.1, b.1, c.1, d.1, e.1, f.1, g.1⟩, g.2)

structure Lx {α : Type} (f : List Int → α × List Int) (g : α → List Int) (ok : α → Prop) : Prop where
  fwd : ∀ x r, ok x → f (g x ++ r) = (x, r)
  out : ∀ l, P.Ins l → ok (f l).1 ∧ P.Ins (f l).2
section
variable {α : Type} {f : List Int → α × List Int} {g : α → List Int} {ok : α → Prop}
theorem num_lx : Lx nNum (fun n => [n]) I64 where
  fwd x r _ := rfl
  out l h := by
    cases l with
    | nil => exact ⟨by show I64 0; unfold I64; omega, ins_nil⟩
    | cons n r => exact ⟨h n (by simp), fun y hy => h y (List.mem_cons_of_mem _ hy)⟩
theorem u8_lx : Lx nU8 (fun n => [n]) (fun n => 0 ≤ n ∧ n ≤ 255) where
  fwd x r h := by
    show (x % 256, r) = (x, r)
    rw [Int.emod_eq_of_lt h.1 (by omega)]
  out l h := ⟨by show 0 ≤ (nNum l).1 % 256 ∧ (nNum l).1 % 256 ≤ 255; omega, (num_lx.out l h).2⟩
theorem sg_lx : Lx nSg (fun b => [nB b]) (fun _ => True) where
  fwd x r _ := by cases x <;> rfl
  out l h := ⟨trivial, (num_lx.out l h).2⟩
theorem nrep_len : ∀ (k : Nat) (l : List Int), (nRep f k l).1.length = k
  | 0, _ => rfl
  | k + 1, l => by
    show ((nRep f k l).1 ++ [_]).length = _
    rw [List.length_append, nrep_len k l]
    rfl
theorem nrep_out (h : Lx f g ok) : ∀ (k : Nat) (l : List Int), P.Ins l → (∀ x ∈ (nRep f k l).1, ok x) ∧ P.Ins (nRep f k l).2
  | 0, l, hi => ⟨fun x hx => (by cases hx), hi⟩
  | k + 1, l, hi => by
    obtain ⟨h1, h2⟩ := nrep_out h k l hi
    obtain ⟨h3, h4⟩ := h.out _ h2
    refine ⟨fun x hx => ?_, h4⟩
    rcases List.mem_append.1 (show x ∈ (nRep f k l).1 ++ [(f (nRep f k l).2).1] from hx) with hx | hx
    · exact h1 x hx
    · obtain rfl : x = (f (nRep f k l).2).1 := by simpa using hx
      exact h3
theorem nrep_fwd (h : Lx f g ok) (l : List α) (r : List Int) (ho : ∀ x ∈ l, ok x) : ∀ n, n ≤ l.length → nRep f n (l.flatMap g ++ r) = (l.take n, (l.drop n).flatMap g ++ r)
  | 0, _ => rfl
  | n + 1, hn => by
    have e := nrep_fwd h l r ho n (by omega)
    have hx : l.drop n = l[n] :: l.drop (n + 1) := List.drop_eq_getElem_cons (by omega)
    show ((nRep f n _).1 ++ [(f (nRep f n _).2).1], (f (nRep f n _).2).2) = _
    rw [e]
    have e5 := h.fwd l[n] ((l.drop (n + 1)).flatMap g ++ r) (ho _ (List.getElem_mem _))
    rw [hx, List.flatMap_cons, List.append_assoc, e5, List.take_succ_eq_append_getElem (by omega)]
theorem list_lx (N : Nat) (h : Lx f g ok) : Lx (nList N f) (nAll g) (fun l => l.length ≤ N ∧ ∀ x ∈ l, ok x) where
  fwd l r ho := by
    have hm : nMany N (nAll g l ++ r) = ((l.length : Int), l.flatMap g ++ r) := by
      show (min (l.length : Int) N, _) = _
      rw [Int.min_eq_left (by have := ho.1; omega)]
      rfl
    unfold nList
    rw [hm]
    have := nrep_fwd h l r ho.2 l.length (Nat.le_refl _)
    simpa using this
  out l hi := by
    have h1 := (num_lx.out l hi).2
    obtain ⟨h2, h3⟩ := nrep_out h (nMany N l).1.toNat (nMany N l).2 h1
    refine ⟨⟨?_, h2⟩, h3⟩
    show (nRep f (nMany N l).1.toNat (nMany N l).2).1.length ≤ N
    rw [nrep_len]
    show (min (nNum l).1 (N : Int)).toNat ≤ N
    omega
theorem Lx.imp {ok' : α → Prop} (h : Lx f g ok) (h1 : ∀ x, ok' x → ok x) (h2 : ∀ x, ok x → ok' x) : Lx f g ok' := ⟨fun x r hx => h.fwd x r (h1 x hx), fun l hl => ⟨h2 _ (h.out l hl).1, (h.out l hl).2⟩⟩
end
section
variable {α β : Type} {f1 : List Int → α × List Int} {g1 : α → List Int} {ok1 : α → Prop} {f2 : List Int → β × List Int} {g2 : β → List Int} {ok2 : β → Prop}
def nPair (f1 : List Int → α × List Int) (f2 : List Int → β × List Int) (l : List Int) : (α × β) × List Int := (((f1 l).1, (f2 (f1 l).2).1), (f2 (f1 l).2).2)
theorem pair_lx (h1 : Lx f1 g1 ok1) (h2 : Lx f2 g2 ok2) : Lx (nPair f1 f2) (fun x => g1 x.1 ++ g2 x.2) (fun x => ok1 x.1 ∧ ok2 x.2) where
  fwd x r h := by
    unfold nPair
    rw [List.append_assoc, h1.fwd _ _ h.1]
    show (_, _) = _
    rw [h2.fwd _ _ h.2]
  out l hi := ⟨⟨(h1.out l hi).1, (h2.out _ (h1.out l hi).2).1⟩, (h2.out _ (h1.out l hi).2).2⟩
theorem map_lx (h : Lx f1 g1 ok1) (e : α → β) (d : β → α) (he : ∀ y, e (d y) = y) (hd : ∀ x, d (e x) = x) : Lx (fun l => (e (f1 l).1, (f1 l).2)) (fun y => g1 (d y)) (fun y => ok1 (d y)) where
  fwd y r h2 := by
    show (e (f1 (g1 (d y) ++ r)).1, (f1 (g1 (d y) ++ r)).2) = _
    rw [h.fwd _ _ h2, he]
  out l hi := by
    refine ⟨?_, (h.out l hi).2⟩
    show ok1 (d (e (f1 l).1))
    rw [hd]
    exact (h.out l hi).1
end
theorem col_lx : Lx nCol nC Col.ok := map_lx (pair_lx u8_lx (pair_lx u8_lx (pair_lx u8_lx u8_lx))) (fun x => (⟨x.1, x.2.1, x.2.2.1, x.2.2.2⟩ : Col)) (fun c => (c.r, c.g, c.b, c.a)) (fun _ => rfl) (fun _ => rfl)
theorem vec_lx : Lx nVec nV U.V.i64 :=
  (map_lx (pair_lx num_lx (pair_lx num_lx (pair_lx num_lx (pair_lx num_lx (pair_lx num_lx (pair_lx num_lx (pair_lx num_lx num_lx))))))) (fun x => (⟨x.1, x.2.1, x.2.2.1, x.2.2.2.1, x.2.2.2.2.1, x.2.2.2.2.2.1, x.2.2.2.2.2.2.1, x.2.2.2.2.2.2.2⟩ : U.V))
    (fun v => (v.x, v.y, v.z, v.w, v.a, v.b, v.c, v.d)) (fun _ => rfl) (fun _ => rfl)).imp (fun _ h => ⟨h.x, h.y, h.z, h.w, h.a, h.b, h.c, h.d⟩) (fun _ h => ⟨h.1, h.2.1, h.2.2.1, h.2.2.2.1, h.2.2.2.2.1, h.2.2.2.2.2.1, h.2.2.2.2.2.2.1, h.2.2.2.2.2.2.2⟩)
theorem insx_lx : Lx nIns nI C.In.ok :=
  (map_lx (pair_lx u8_lx (pair_lx u8_lx (pair_lx u8_lx (pair_lx u8_lx num_lx)))) (fun x => (⟨x.1, x.2.1, x.2.2.1, x.2.2.2.1, x.2.2.2.2⟩ : C.In)) (fun x => (x.o, x.d, x.a, x.b, x.n)) (fun _ => rfl) (fun _ => rfl)).imp
    (fun _ h => ⟨h.o, h.d, h.a, h.b, h.n⟩) (fun _ h => ⟨h.1, h.2.1, h.2.2.1, h.2.2.2.1, h.2.2.2.2⟩)
theorem tri_lx : Lx nTri nR Tr.ok :=
  (map_lx (pair_lx num_lx (pair_lx num_lx (pair_lx num_lx num_lx))) (fun x => (⟨x.1, x.2.1, x.2.2.1, x.2.2.2⟩ : Tr)) (fun t => (t.i, t.a, t.b, t.c)) (fun _ => rfl) (fun _ => rfl)).imp
    (fun _ h => ⟨h.i, h.a, h.b, h.c⟩) (fun _ h => ⟨h.1, h.2.1, h.2.2.1, h.2.2.2⟩)
theorem tex_lx (N : Nat) : Lx (nTex N) nT (fun t => I64 t.w ∧ I64 t.h ∧ t.px.length ≤ N ∧ t.ok) :=
  map_lx (pair_lx num_lx (pair_lx num_lx (list_lx N col_lx))) (fun x => (⟨x.1, x.2.1, x.2.2⟩ : Tx)) (fun t => (t.w, t.h, t.px)) (fun _ => rfl) (fun _ => rfl)
theorem prg_lx (N : Nat) : Lx (nPrg N) nP (fun l => l.length ≤ N ∧ ∀ x ∈ l, x.ok) := list_lx N insx_lx
theorem drw_lx (N : Nat) : Lx (nDrw N) nD (fun d => d.ok ∧ d.tris.length ≤ N) :=
  (map_lx (pair_lx num_lx (pair_lx num_lx (pair_lx num_lx (pair_lx sg_lx (list_lx N tri_lx))))) (fun x => (⟨x.1, x.2.1, x.2.2.1, x.2.2.2.1, x.2.2.2.2⟩ : Dr)) (fun d => (d.id, d.prog, d.tex, d.op, d.tris)) (fun _ => rfl) (fun _ => rfl)).imp
    (fun _ h => ⟨h.1.id, h.1.prog, h.1.tex, trivial, h.2, h.1.tris⟩) (fun _ h => ⟨⟨h.1, h.2.1, h.2.2.1, h.2.2.2.2.2⟩, h.2.2.2.2.1⟩)
/-- No more than N of anything. -/
structure PS.atm (p : PS) (N : Nat) : Prop where
  vs : p.vs.length ≤ N
  ts : p.ts.length ≤ N
  tx : ∀ t ∈ p.ts, t.px.length ≤ N
  ps : p.ps.length ≤ N
  px : ∀ l ∈ p.ps, l.length ≤ N
  ds : p.ds.length ≤ N
  dx : ∀ d ∈ p.ds, d.tris.length ≤ N
theorem scn_lx (N : Nat) : Lx (nScn N) nS (fun p => p.ok ∧ p.atm N) :=
  (map_lx (pair_lx num_lx (pair_lx num_lx (pair_lx col_lx (pair_lx (list_lx N vec_lx) (pair_lx (list_lx N (tex_lx N)) (pair_lx (list_lx N (prg_lx N)) (list_lx N (drw_lx N))))))))
    (fun x => (⟨x.1, x.2.1, x.2.2.1, x.2.2.2.1, x.2.2.2.2.1, x.2.2.2.2.2.1, x.2.2.2.2.2.2⟩ : PS)) (fun p => (p.w, p.h, p.k, p.vs, p.ts, p.ps, p.ds)) (fun _ => rfl) (fun _ => rfl)).imp
    (fun _ h => ⟨h.1.w, h.1.h, h.1.k, ⟨h.2.vs, h.1.vs⟩, ⟨h.2.ts, fun t ht => ⟨(h.1.ts t ht).1, (h.1.ts t ht).2.1, h.2.tx t ht, (h.1.ts t ht).2.2⟩⟩, ⟨h.2.ps, fun l hl => ⟨h.2.px l hl, h.1.ps l hl⟩⟩, ⟨h.2.ds, fun d hd => ⟨h.1.ds d hd, h.2.dx d hd⟩⟩⟩)
    (fun _ h => ⟨⟨h.1, h.2.1, h.2.2.1, h.2.2.2.1.2, fun t ht => ⟨(h.2.2.2.2.1.2 t ht).1, (h.2.2.2.2.1.2 t ht).2.1, (h.2.2.2.2.1.2 t ht).2.2.2⟩, fun l hl => (h.2.2.2.2.2.1.2 l hl).2, fun d hd => (h.2.2.2.2.2.2.2 d hd).1⟩,
      ⟨h.2.2.2.1.1, h.2.2.2.2.1.1, fun t ht => (h.2.2.2.2.1.2 t ht).2.2.1, h.2.2.2.2.2.1.1, fun l hl => (h.2.2.2.2.2.1.2 l hl).1, h.2.2.2.2.2.2.1, fun d hd => (h.2.2.2.2.2.2.2 d hd).2⟩⟩)
theorem atm_few {p : PS} {N : Nat} (h : p.atm N) (hN : N ≤ 100000) : p.few :=
  ⟨Nat.le_trans h.vs hN, Nat.le_trans h.ts hN, fun t ht => Nat.le_trans (h.tx t ht) hN, Nat.le_trans h.ps hN, fun l hl => Nat.le_trans (h.px l hl) hN, Nat.le_trans h.ds hN, fun d hd => Nat.le_trans (h.dx d hd) hN⟩
theorem atm_len (p : PS) : p.atm (nS p).length := by
  obtain ⟨N, hN⟩ : ∃ N, (nS p).length = N := ⟨_, rfl⟩
  rw [hN]
  unfold nS at hN
  simp only [List.length_cons, List.length_append] at hN
  have pV := many_len (g := nV) (fun _ => by simp [nV]) p.vs
  have pT := many_len (g := nT) (fun _ => by simp [nT]) p.ts
  have pP := many_len (g := nP) (fun _ => by simp [nP, nAll]) p.ps
  have pD := many_len (g := nD) (fun _ => by simp [nD]) p.ds
  refine ⟨by omega, by omega, fun t ht => ?_, by omega, fun l hl => ?_, by omega, fun d hd => ?_⟩
  · have h1 := one_len (g := nT) ht
    have h2 := many_len (g := nC) (fun _ => by simp [nC]) t.px
    have h3 : (nT t).length = (nAll nC t.px).length + 2 := rfl
    omega
  · have h1 := one_len (g := nP) hl
    have h2 := many_len (g := nI) (fun _ => by simp [nI]) l
    have h3 : (nP l).length = (nAll nI l).length := rfl
    omega
  · have h1 := one_len (g := nD) hd
    have h2 := many_len (g := nR) (fun _ => by simp [nR]) d.tris
    have h3 : (nD d).length = (nAll nR d.tris).length + 4 := rfl
    omega
/-- What the reference's Take tells. -/
def refP (xs : List Int) : PS × Int := if 65536 < xs.length then (zS, 10) else if P.flag (P.seq xs) = true then (zS, 10) else
  if P.put (nS (nScn (P.nums (P.seq xs)).length (P.nums (P.seq xs))).1) = xs then
    (if check (nScn (P.nums (P.seq xs)).length (P.nums (P.seq xs))).1 = 0 then ((nScn (P.nums (P.seq xs)).length (P.nums (P.seq xs))).1, 0) else (zS, check (nScn (P.nums (P.seq xs)).length (P.nums (P.seq xs))).1))
  else (zS, 10)
theorem ref_take {xs : List Int} (hb : P.Byt xs) : refP xs = takeP xs := by
  unfold refP takeP
  split
  · rfl
  · rename_i hl
    obtain ⟨h1, h2, -⟩ := P.seq_len _ xs (Nat.le_refl _) hb
    have h3 := P.nums_le (P.seq xs)
    have hsc := (scn_lx (P.nums (P.seq xs)).length).out _ h2
    have hfew := atm_few hsc.1.2 (by omega)
    have hfw : ∀ q, readP xs = some q → (nScn (P.nums (P.seq xs)).length (P.nums (P.seq xs))).1 = q := fun q hq => by
      obtain ⟨k1, -, k3⟩ := read_some hb hq
      have k4 := (scn_lx (nS q).length).fwd q [] ⟨k1, atm_len q⟩
      rw [List.append_nil] at k4
      rw [k3, k4]
    have hrd : readP xs = if P.flag (P.seq xs) = true then none else scanP (P.nums (P.seq xs)) := rfl
    generalize (nScn (P.nums (P.seq xs)).length (P.nums (P.seq xs))).1 = p at *
    by_cases hf : P.flag (P.seq xs) = true
    · rw [if_pos hf] at hrd ⊢
      rw [hrd]
    · rw [if_neg hf]
      by_cases hp : P.put (nS p) = xs
      · have hr : readP xs = some p := by rw [← hp]; exact read_put hsc.1.1 hfew
        rw [if_pos hp, hr]
      · rw [if_neg hp]
        cases hr : readP xs with
        | none => rfl
        | some q =>
          exfalso
          have e := hfw q hr
          exact hp (by rw [e]; exact (read_some hb hr).2.1)
end Go.Proofs.YtfmmfaeognoleaaGreat
/-
  Worlds that are as one was but for some blocks, and for what is new.
-/
namespace Go.Proofs.YtfmmfaeognoleaaGreat
open Go.RowKit

def Om (M : Nat → Prop) (Y w : World) : Prop := Y.heap.size ≤ w.heap.size ∧ ∀ b, b < Y.heap.size → ¬ M b → w.heap[b]? = Y.heap[b]?
section
variable {M : Nat → Prop} {Y w w' : World}
theorem om_refl (M : Nat → Prop) (Y : World) : Om M Y Y := ⟨Nat.le_refl _, fun _ _ _ => rfl⟩
theorem om_drew (M : Nat → Prop) (Y : World) : Om M Y Y.drew := ⟨Nat.le_refl _, fun _ _ _ => rfl⟩
theorem Om.bel (h : Om M Y w) (hb : Below Y.heap.size w w') : Om M Y w' := ⟨Nat.le_trans h.1 hb.size, fun b h1 h2 => (hb.block b h1).trans (h.2 b h1 h2)⟩
theorem Om.alloc (h : Om M Y w) (o : Obj) : Om M Y (w.alloc o) := h.bel ((Below.refl _ _).alloc h.1 o)
theorem Om.grown {row : Option Nat} (h : Om M Y w) (hg : w.grownBy w' row) (hr : ∀ r, row = some r → M r ∨ Y.heap.size ≤ r) : Om M Y w' :=
  ⟨Nat.le_trans h.1 hg.size, fun b h1 h2 => (hg.block b (Nat.lt_of_lt_of_le h1 h.1) (fun e => by
    rcases hr b e.symm with h3 | h3
    · exact h2 h3
    · omega)).trans (h.2 b h1 h2)⟩
theorem Om.set {g o : Nat} {u : Value} (h : Om M Y w) (hg : M g ∨ Y.heap.size ≤ g) : Om M Y (w.setCell ⟨g, o, none⟩ u) := ⟨by simpa using h.1, fun b h1 h2 => by
  rw [heap_setCell_other _ _ _ _ (by
    intro e
    have e : b = g := by simpa using e
    subst e
    rcases hg with h3 | h3
    · exact h2 h3
    · omega)]
  exact h.2 b h1 h2⟩
theorem Om.cell {b o : Nat} {v : Value} (h : Om M Y w) (hc : Y.cell? ⟨b, o, none⟩ = some v) (hM : ¬ M b) : w.cell? ⟨b, o, none⟩ = some v := by
  rw [World.cell?_of_block (a := ⟨b, o, none⟩) (h.2 b (World.block_lt_of_cell? _ _ hc) hM), hc]
end
end Go.Proofs.YtfmmfaeognoleaaGreat
/-
  The reference's reader's block, and what stays when it goes on.
-/
namespace Go.Proofs.YtfmmfaeognoleaaGreat
open Go.RowKit

/-- The numbers that are read, and their row. -/
structure Src where
  A : Option Addr
  c : Nat
  L : List Int
/-- The reader's block. -/
def nmB (S : Src) (k : Nat) : Obj := .cells #[.slice S.A S.L.length S.c, .int .i64 k] 59 (0, 0)
section
variable {w w' : World} {p k : Nat} {S : Src}
theorem nmB_cell (h : w.heap[p]? = some (nmB S k)) : w.cell? ⟨p, 0, none⟩ = some (.slice S.A S.L.length S.c) ∧ w.cell? ⟨p, 1, none⟩ = some (.int .i64 k) := by
  unfold nmB at h
  exact ⟨Joins.cell_of_block h 0, Joins.cell_of_block h 1⟩
theorem nmB_free (h : w.heap[p]? = some (nmB S k)) : ∀ o, w.frozen? ⟨p, o, none⟩ = false := by
  unfold nmB at h
  intro o
  simp [World.frozen?, h]
theorem nmB_set (h : w.heap[p]? = some (nmB S k)) : (w.setCell ⟨p, 1, none⟩ (.int .i64 ((k : Int) + 1))).heap[p]? = some (nmB S (k + 1)) := by
  unfold nmB at h
  rw [heap_setCell_same _ _ _ _ _ _ h]
  simp [nmB]
end
/-- The reader at p: what is left is l. -/
def Nm (S : Src) (w : World) (p : Nat) (l : List Int) : Prop := ∃ k, k ≤ S.L.length ∧ w.heap[p]? = some (nmB S k) ∧ Es EN w p S.A S.L ∧ l = S.L.drop k
section
variable {S : Src} {w w' W W' : World} {p g g2 o B : Nat} {l l' : List Int} {O O2 : Obj} {u : Value} {j : Option Nat}
theorem Nm.lt (h : Nm S w p l) : p < w.heap.size := by
  obtain ⟨k, -, h1, -⟩ := h
  exact (Array.getElem?_eq_some_iff.1 h1).1
theorem Nm.cell (h : Nm S w p l) : w.cell? ⟨p, 0, none⟩ = some (.slice S.A S.L.length S.c) := by
  obtain ⟨k, -, h1, -⟩ := h
  exact (nmB_cell h1).1
theorem Nm.len (h : Nm S w p l) : l.length ≤ S.L.length := by
  obtain ⟨k, -, -, -, rfl⟩ := h
  rw [List.length_drop]
  omega
theorem Nm.keep (h : Nm S w p l) (hb : Below w.heap.size w w') : Nm S w' p l := by
  have hl := h.lt
  obtain ⟨k, h1, h2, h3, h4⟩ := h
  exact ⟨k, h1, (hb.block p hl).trans h2, h3.below (hb.mono (by omega)), h4⟩
theorem Nm.alloc (h : Nm S w p l) (o : Obj) : Nm S (w.alloc o) p l := h.keep (new_below w o)
theorem Nm.set (h : Nm S w p l) (hg : p < g) : Nm S (w.setCell ⟨g, o, none⟩ u) p l := by
  obtain ⟨k, h1, h2, h3, h4⟩ := h
  refine ⟨k, h1, ?_, h3.below ((Below.refl p w).setCell (show p ≤ g by omega) u), h4⟩
  rw [heap_setCell_other _ _ _ _ (by simp; omega)]
  exact h2
theorem Nm.grown (h : Nm S w p l) (hg : w.grownBy w' j) (hj : ∀ k, j = some k → p < k) : Nm S w' p l := by
  have hl := h.lt
  obtain ⟨k, h1, h2, h3, h4⟩ := h
  have hb : Below p w w' := (Below.refl p w).grown hg (by omega) fun k e => by have := hj k e; omega
  exact ⟨k, h1, (hg.block p hl (fun e => by have := hj p e.symm; omega)).trans h2, h3.below hb, h4⟩
theorem Nm.drewN {n : Nat} (h : Nm S w p l) : Nm S (w.drewN n) p l := by
  obtain ⟨k, h1, h2, h3, h4⟩ := h
  exact ⟨k, h1, h2, h3.below ⟨rfl, rfl, rfl, Nat.le_refl _, fun _ _ => rfl⟩, h4⟩
theorem But.drewN {n : Nat} (h : But p w W) : But p w (W.drewN n) := ⟨⟨h.b.os, h.b.tape, h.b.output, h.b.size, h.b.block⟩, h.f⟩
/-- The reader goes on while a block g holds O. -/
structure Rn (S : Src) (p : Nat) (w : World) (g : Nat) (O : Obj) (l : List Int) (W : World) : Prop where
  n : Nm S W p l
  b : But p w W
  g : W.heap[g]? = some O
theorem Rn.lt (h : Rn S p w g O l W) : g < W.heap.size := (Array.getElem?_eq_some_iff.1 h.g).1
theorem Rn.call (h : Rn S p w g O l W) (hg : p < g) (hr : Nm S W' p l') (hb : But p W W') : Rn S p w g O l' W' := ⟨hr, h.b.trans hb, (hb.block h.lt (by omega)).trans h.g⟩
theorem Rn.alloc (h : Rn S p w g O l W) (hp : p < w.heap.size) (o : Obj) : Rn S p w g O l (W.alloc o) := ⟨h.n.alloc o, h.b.alloc hp o, (heap_alloc_old _ _ h.lt).trans h.g⟩
theorem Rn.drewN {n : Nat} (h : Rn S p w g O l W) : Rn S p w g O l (W.drewN n) := ⟨h.n.drewN, h.b.drewN, h.g⟩
theorem Rn.set {cs : Array Value} {T : TypeId} (h : Rn S p w g (.cells cs T) l W) (hp : p < w.heap.size) (hg : w.heap.size ≤ g) : Rn S p w g (.cells (cs.setIfInBounds o u) T) l (W.setCell ⟨g, o, none⟩ u) :=
  ⟨h.n.set (by omega), h.b.setNew (by omega) hg, heap_setCell_same _ _ _ _ _ _ h.g⟩
theorem Rn.other (h : Rn S p w g O l W) (hp : p < w.heap.size) (hg : w.heap.size ≤ g2) (hne : g ≠ g2) : Rn S p w g O l (W.setCell ⟨g2, o, none⟩ u) :=
  ⟨h.n.set (by omega), h.b.setNew (by omega) hg, (heap_setCell_other _ _ _ _ (by simp; omega)).trans h.g⟩
theorem Rn.two (h : Rn S p w g O l W) (h2 : W.heap[g2]? = some O2) : Rn S p w g2 O2 l W := ⟨h.n, h.b, h2⟩
theorem Rn.grown (h : Rn S p w g O l W) (hp : p < w.heap.size) (hg : W.grownBy W' j) (hj : ∀ k, j = some k → w.heap.size ≤ k ∧ k ≠ g) : Rn S p w g O l W' :=
  ⟨h.n.grown hg fun k e => by have := hj k e; omega, h.b.grown (by omega) hg fun k e => (hj k e).1, (hg.block g h.lt (fun e => (hj g e.symm).2 rfl)).trans h.g⟩
end
/-- What a call reads: its value, and the reader goes on. -/
def NR (S : Src) (p : Nat) (val : Value) (t : List Int) (w : World) (e : Ending) (w' : World) : Prop := e = .returned val ∧ Nm S w' p t ∧ But p w w'
theorem Nm.rn {S : Src} {w W : World} {p g : Nat} {l : List Int} {O : Obj} (h : Nm S W p l) (hb : But p w W) (hg : W.heap[g]? = some O) : Rn S p w g O l W := ⟨h, hb, hg⟩
/-- A row of n cells under way. -/
def arr (n : Nat) (ys : List Int) : Array Value := (ys.map (Value.int .i64) ++ List.replicate (n - ys.length) (Value.int .i64 0)).toArray
theorem arr_size {n : Nat} {ys : List Int} (h : ys.length ≤ n) : (arr n ys).size = n := by
  unfold arr
  simp
  omega
theorem arr_get {n : Nat} {ys : List Int} (h : ys.length < n) : (arr n ys)[ys.length]? = some (.int .i64 0) := by
  unfold arr
  simp [List.getElem?_append_right, List.getElem?_replicate]
  omega
theorem arr_set {n : Nat} {ys : List Int} (x : Int) (h : ys.length < n) : (arr n ys).setIfInBounds ys.length (.int .i64 x) = arr n (ys ++ [x]) := by
  unfold arr
  obtain ⟨m, hm⟩ : ∃ m, n - ys.length = m + 1 := ⟨n - ys.length - 1, by omega⟩
  have hm2 : n - (ys ++ [x]).length = m := by simp; omega
  rw [hm, hm2, List.setIfInBounds_toArray, List.set_append_right _ _ (by simp)]
  simp [List.replicate_succ]
theorem arr_cell {w : World} {g n j : Nat} {T : TypeId} {ys : List Int} (h : w.heap[g]? = some (.cells (arr n ys) T (0, 0))) (hl : ys.length = j) (hj : j < n) : w.cell? ⟨g, j, none⟩ = some (.int .i64 0) := by
  subst hl
  have e := cell_of_row w g ys.length (arr n ys) T (0, 0) h
  rw [e]
  exact arr_get hj
theorem drop_cons {l : List Int} {k : Nat} {n : Int} (h : l[k]? = some n) : l.drop k = n :: l.drop (k + 1) := by
  obtain ⟨hk, rfl⟩ := List.getElem?_eq_some_iff.1 h
  exact List.drop_eq_getElem_cons hk
theorem nrep_cons (j : Nat) (l : List Int) : nRep nNum (j + 1) l = ((nRep nNum j l).1 ++ [(nNum (nRep nNum j l).2).1], (nNum (nRep nNum j l).2).2) := rfl
end Go.Proofs.YtfmmfaeognoleaaGreat
