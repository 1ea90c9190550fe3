/-
  What the reference's Fit makes of a scene (pure): it may be.
-/
import Derived.Test.YtnpcmoeleigpoaaSmlP
namespace Go.Proofs.Ytnpcmoeleigpoaa

def fitTri (nv : Nat) (k : Nat) (t : Tr) : Tr := ⟨100 * (t.i % 100) + k, t.a % nv, t.b % nv, t.c % nv⟩
def fitDr (nv nt np tris : Nat) (i : Nat) (d : Dr) : Dr := ⟨100 * (d.id % 100) + i, d.prog % np, if 0 < nt then d.tex % nt else -1, d.op, (d.tris.take tris).mapIdx (fitTri nv)⟩
def vz : U.V := ⟨-2, -2, 0, 1, 200, 0, 0, 128⟩
def fitVs (p : PS) (verts : Nat) : List U.V := vz :: (p.vs.take verts).map U.fitV
def fitTs (p : PS) : List Tx := (p.ts.take 2).map fitT
/-- A program as Fit tells it, where it may have pictures or not. -/
def fitPn (b : Bool) (l : List C.In) : List C.In := C.fitP (if b then l.map C.bareI else l)
def fitPr (p : PS) : List (List C.In) := [C.mov] :: (p.ps.take 3).map (fitPn (decide ((fitTs p).length = 0)))
def fitS (p : PS) (most verts draws tris : Nat) : PS :=
  ⟨1 + p.w % most, 1 + p.h % most, pre p.k, fitVs p verts, fitTs p, fitPr p, (p.ds.take draws).mapIdx (fitDr (fitVs p verts).length (fitTs p).length (fitPr p).length tris)⟩

theorem mapIdx_snoc {α β : Type} {l : List (Lo α)} {f : Nat → α → β} {k : Nat} {u : Lo α} (h : l[k]? = some u) : ((l.map Lo.x).take (k + 1)).mapIdx f = ((l.map Lo.x).take k).mapIdx f ++ [f k u.x] := by
  have h2 : (l.map Lo.x)[k]? = some u.x := by rw [List.getElem?_map, h]; rfl
  have hl := (List.getElem?_eq_some_iff.1 h2).1
  rw [take_snoc h2, List.mapIdx_concat, List.length_take, Nat.min_eq_left (by omega)]
theorem mapIdx_get {α β : Type} {l : List α} {f : Nat → α → β} {x : β} (h : x ∈ l.mapIdx f) : ∃ i u, l[i]? = some u ∧ x = f i u := by
  obtain ⟨i, hi, e⟩ := List.mem_mapIdx.1 h
  exact ⟨i, l[i], List.getElem?_eq_getElem hi, e.symm⟩
theorem nodup_idx {α β : Type} (l : List α) (f : Nat → α → β) (g : β → Int) (c : α → Int) (hl : l.length ≤ 100) (h : ∀ i u, g (f i u) = 100 * c u + i) : ((l.mapIdx f).map g).Nodup := by
  rw [List.Nodup, List.pairwise_iff_getElem]
  intro i j hi hj hij e
  simp only [List.length_map, List.length_mapIdx] at hi hj
  simp only [List.getElem_map, List.getElem_mapIdx, h] at e
  omega
theorem bare_tex (l : List C.In) : (C.fitP (l.map C.bareI)).any C.tex = false := by
  have key : ∀ x : C.In, ¬ 13 ≤ x.o % 15 → ∀ i n, C.tex (C.fitI x i n) = false := by
    intro x hx i n
    unfold C.tex C.fitI
    refine decide_eq_false ?_
    split
    · simp
    · split
      · dsimp only; omega
      · split
        · simp
        · split
          · dsimp only; omega
          · dsimp only; omega
  have hb : ∀ x : C.In, ¬ 13 ≤ (C.bareI x).o % 15 := by
    intro x
    unfold C.bareI
    split
    · simp
    · assumption
  have hg : ∀ i, ¬ 13 ≤ ((l.map C.bareI).getD i C.mov).o % 15 := by
    intro i
    rw [List.getD_eq_getElem?_getD]
    cases e : (l.map C.bareI)[i]? with
    | none => decide
    | some c =>
      obtain ⟨x, _, rfl⟩ := List.mem_map.1 (List.mem_of_getElem? e)
      exact hb x
  rw [List.any_eq_false]
  intro x hx
  unfold C.fitP at hx
  split at hx
  · obtain rfl : x = C.mov := by simpa using hx
    decide
  · obtain ⟨i, -, rfl⟩ := List.mem_map.1 hx
    rw [C.fitAt, key _ (hg i)]
    decide
section
variable {p : PS} {most verts draws tris : Nat}
theorem fitVs_len : 1 ≤ (fitVs p verts).length ∧ (fitVs p verts).length ≤ verts + 1 := by
  unfold fitVs
  rw [List.length_cons, List.length_map]
  have := take_le p.vs verts
  omega
theorem fitTs_len : (fitTs p).length ≤ 2 := by
  unfold fitTs
  rw [List.length_map]
  exact take_le _ _
theorem fitPr_len : 1 ≤ (fitPr p).length ∧ (fitPr p).length ≤ 4 := by
  unfold fitPr
  rw [List.length_cons, List.length_map]
  have := take_le p.ps 3
  omega
theorem emod_in (n : Int) {m : Nat} (h : 0 < m) : 0 ≤ n % m ∧ n % m < m := ⟨Int.emod_nonneg _ (by omega), Int.emod_lt_of_pos _ (by omega)⟩
theorem inB_of {n a b : Int} (h1 : a ≤ n) (h2 : n ≤ b) : inB n a b = true := decide_eq_true ⟨h1, h2⟩
theorem fitTri_good (nv k : Nat) (t : Tr) (hv : 0 < nv) (hk : k < 100) : triB nv (fitTri nv k t) = true := by
  have h0 := emod_in t.i (m := 100) (by decide)
  have h1 := emod_in t.a hv
  have h2 := emod_in t.b hv
  have h3 := emod_in t.c hv
  have e0 : t.i % (100 : Nat) = t.i % 100 := rfl
  rw [e0] at h0
  unfold triB fitTri
  simp only [List.all_cons, List.all_nil, Bool.and_true, Bool.and_eq_true]
  exact ⟨inB_of (by omega) (by omega), inB_of (by omega) (by omega), inB_of (by omega) (by omega), inB_of (by omega) (by omega)⟩
theorem fitS_head (hk : p.k.ok) (hm : 1 ≤ most) (hm2 : most ≤ 64) (hv : verts ≤ 63) (hd : draws ≤ 8) (ht : tris ≤ 32) : headE (fitS p most verts draws tris) = 0 := by
  have hw := emod_in p.w (m := most) (by omega)
  have hh := emod_in p.h (m := most) (by omega)
  unfold headE
  have e1 : (inB (fitS p most verts draws tris).w 1 64 && inB (fitS p most verts draws tris).h 1 64) = true := by
    show (inB (1 + p.w % most) 1 64 && inB (1 + p.h % most) 1 64) = true
    rw [inB_of (show 1 ≤ 1 + p.w % most by omega) (show 1 + p.w % most ≤ 64 by omega), inB_of (show 1 ≤ 1 + p.h % most by omega) (show 1 + p.h % most ≤ 64 by omega)]
    rfl
  have e2 : rightB (fitS p most verts draws tris).k = true := rightB_of (pre_right hk)
  have e3 : manyB (fitS p most verts draws tris) = false := by
    have h1 := (fitVs_len (p := p) (verts := verts)).2
    have h2 := fitTs_len (p := p)
    have h3 := (fitPr_len (p := p)).2
    have h4 : ((p.ds.take draws).mapIdx (fitDr (fitVs p verts).length (fitTs p).length (fitPr p).length tris)).length ≤ 8 := by
      rw [List.length_mapIdx]
      exact Nat.le_trans (take_le _ _) hd
    have h5 : ((p.ds.take draws).mapIdx (fitDr (fitVs p verts).length (fitTs p).length (fitPr p).length tris)).all (fun d => decide (d.tris.length ≤ 32)) = true := by
      rw [List.all_eq_true]
      intro d hd
      obtain ⟨i, u, -, rfl⟩ := mapIdx_get hd
      refine decide_eq_true ?_
      unfold fitDr
      dsimp only
      rw [List.length_mapIdx]
      exact Nat.le_trans (take_le _ _) ht
    have g1 : decide (64 < (fitS p most verts draws tris).vs.length) = false := decide_eq_false (show ¬ 64 < (fitVs p verts).length by omega)
    have g2 : decide (4 < (fitS p most verts draws tris).ts.length) = false := decide_eq_false (show ¬ 4 < (fitTs p).length by omega)
    have g3 : decide (4 < (fitS p most verts draws tris).ps.length) = false := decide_eq_false (show ¬ 4 < (fitPr p).length by omega)
    have g4 : decide (8 < (fitS p most verts draws tris).ds.length) = false := decide_eq_false (show ¬ 8 < ((p.ds.take draws).mapIdx (fitDr (fitVs p verts).length (fitTs p).length (fitPr p).length tris)).length by omega)
    unfold manyB
    rw [g1, g2, g3, g4, show (fitS p most verts draws tris).ds = (p.ds.take draws).mapIdx (fitDr (fitVs p verts).length (fitTs p).length (fitPr p).length tris) from rfl, h5]
    rfl
  have e4 : (fitS p most verts draws tris).vs.all U.rightB = true := by
    show (fitVs p verts).all U.rightB = true
    rw [List.all_eq_true]
    intro v hv
    rcases List.mem_cons.1 hv with rfl | hv
    · decide
    · obtain ⟨u, -, rfl⟩ := List.mem_map.1 hv
      exact U.rightB_ok (U.fitV_ok u)
  have e5 : (fitS p most verts draws tris).ts.all Tx.right = true := by
    show (fitTs p).all Tx.right = true
    rw [List.all_eq_true]
    intro t ht
    obtain ⟨u, -, rfl⟩ := List.mem_map.1 ht
    exact fitT_right u
  have e6 : (fitS p most verts draws tris).ps.all (fun l => decide (C.chk l = 0)) = true := by
    show (fitPr p).all (fun l => decide (C.chk l = 0)) = true
    rw [List.all_eq_true]
    intro l hl
    rcases List.mem_cons.1 hl with rfl | hl
    · decide
    · obtain ⟨u, -, rfl⟩ := List.mem_map.1 hl
      exact decide_eq_true (C.fitP_chk _)
  rw [e1, e2, e3, e4, e5, e6]
  simp
theorem fitS_check (hk : p.k.ok) (hm : 1 ≤ most) (hm2 : most ≤ 64) (hv : verts ≤ 63) (hd : draws ≤ 8) (ht : tris ≤ 32) : check (fitS p most verts draws tris) = 0 := by
  refine check_zero.2 ⟨fitS_head hk hm hm2 hv hd ht, fun d hdm => ?_, ?_⟩
  · obtain ⟨i, u, hu, rfl⟩ := mapIdx_get (show d ∈ (p.ds.take draws).mapIdx (fitDr (fitVs p verts).length (fitTs p).length (fitPr p).length tris) from hdm)
    have hi : i < 8 := by
      have := (List.getElem?_eq_some_iff.1 hu).1
      have := take_le p.ds draws
      omega
    have h1 := (fitVs_len (p := p) (verts := verts)).1
    have h3 := (fitPr_len (p := p)).1
    have q0 := emod_in u.id (m := 100) (by decide)
    have e0 : u.id % (100 : Nat) = u.id % 100 := rfl
    rw [e0] at q0
    have q1 := emod_in u.prog (m := (fitPr p).length) (by omega)
    refine ⟨?_, ?_⟩
    · unfold ptsB
      have a1 : inB (fitDr (fitVs p verts).length (fitTs p).length (fitPr p).length tris i u).id 0 9999 = true := inB_of (show 0 ≤ 100 * (u.id % 100) + (i : Int) by omega) (show 100 * (u.id % 100) + (i : Int) ≤ 9999 by omega)
      have a2 : inB (fitDr (fitVs p verts).length (fitTs p).length (fitPr p).length tris i u).prog 0 (((fitS p most verts draws tris).ps.length : Int) - 1) = true := inB_of (show 0 ≤ u.prog % ((fitPr p).length : Int) by omega) (show u.prog % ((fitPr p).length : Int) ≤ ((fitPr p).length : Int) - 1 by omega)
      rw [a1, a2]
      have ht2 : ((fitDr (fitVs p verts).length (fitTs p).length (fitPr p).length tris i u).tris).all (triB (fitVs p verts).length) = true := by
        rw [List.all_eq_true]
        intro t htm
        obtain ⟨k, x, hx, rfl⟩ := mapIdx_get (show t ∈ (u.tris.take tris).mapIdx (fitTri (fitVs p verts).length) from htm)
        have hk2 : k < 100 := by
          have := (List.getElem?_eq_some_iff.1 hx).1
          have := take_le u.tris tris
          omega
        exact fitTri_good _ _ _ (by omega) hk2
      have hx2 : texB (fitS p most verts draws tris) (fitDr (fitVs p verts).length (fitTs p).length (fitPr p).length tris i u) = true := by
        unfold texB
        by_cases h0 : 0 < (fitTs p).length
        · have q2 := emod_in u.tex h0
          have e : (fitDr (fitVs p verts).length (fitTs p).length (fitPr p).length tris i u).tex = u.tex % ((fitTs p).length : Int) := if_pos h0
          rw [e, if_neg (by omega)]
          exact inB_of (by omega) (show u.tex % ((fitTs p).length : Int) ≤ ((fitTs p).length : Int) - 1 by omega)
        · have e : (fitDr (fitVs p verts).length (fitTs p).length (fitPr p).length tris i u).tex = -1 := if_neg h0
          rw [e, if_pos rfl]
          have hn : ∀ l ∈ fitPr p, l.any C.tex = false := by
            intro l hl
            rcases List.mem_cons.1 hl with rfl | hl
            · decide
            · obtain ⟨u, -, rfl⟩ := List.mem_map.1 hl
              unfold fitPn
              rw [decide_eq_true (show (fitTs p).length = 0 by omega), if_pos rfl]
              exact bare_tex u
          obtain ⟨l, hl⟩ := get_lt (l := fitPr p) (k := (u.prog % ((fitPr p).length : Int)).toNat) (by omega)
          have hg : (fitS p most verts draws tris).ps.getD (fitDr (fitVs p verts).length (fitTs p).length (fitPr p).length tris i u).prog.toNat [] = l := by
            show (fitPr p).getD (u.prog % ((fitPr p).length : Int)).toNat [] = l
            rw [List.getD_eq_getElem?_getD, hl]
            rfl
          rw [hg, hn l (List.mem_of_getElem? hl)]
          rfl
      rw [hx2, show (fitS p most verts draws tris).vs.length = (fitVs p verts).length from rfl, ht2]
      rfl
    · exact nodup_idx (u.tris.take tris) (fitTri (fitVs p verts).length) Tr.i (fun t => t.i % 100) (Nat.le_trans (take_le _ _) (by omega)) (fun _ _ => rfl)
  · exact nodup_idx (p.ds.take draws) (fitDr (fitVs p verts).length (fitTs p).length (fitPr p).length tris) Dr.id (fun d => d.id % 100) (Nat.le_trans (take_le _ _) (by omega)) (fun _ _ => rfl)
theorem fitTri_ok {nv k : Nat} {t : Tr} (hv : 0 < nv) (hn : nv ≤ 1000) (hk : k < 100) : (fitTri nv k t).ok := by
  have h0 := emod_in t.i (m := 100) (by decide)
  have h1 := emod_in t.a hv
  have h2 := emod_in t.b hv
  have h3 := emod_in t.c hv
  have e0 : t.i % (100 : Nat) = t.i % 100 := rfl
  rw [e0] at h0
  unfold fitTri
  constructor <;> dsimp only <;> unfold I64 <;> omega
theorem fitS_ok (hp : p.ok) (hm : 1 ≤ most) (hm2 : most ≤ 64) (hv : verts ≤ 63) (hd : draws ≤ 8) (ht : tris ≤ 32) : (fitS p most verts draws tris).ok := by
  have hw := emod_in p.w (m := most) (by omega)
  have hh := emod_in p.h (m := most) (by omega)
  have h1 := fitVs_len (p := p) (verts := verts)
  have h2 := fitTs_len (p := p)
  have h3 := fitPr_len (p := p)
  refine ⟨?_, ?_, pre_ok hp.k, fun v hv => ?_, fun t ht => ?_, fun l hl => ?_, fun d hdm => ?_⟩
  · show I64 (1 + p.w % most)
    unfold I64
    omega
  · show I64 (1 + p.h % most)
    unfold I64
    omega
  · rcases List.mem_cons.1 (show v ∈ fitVs p verts from hv) with rfl | hv
    · constructor <;> decide
    · obtain ⟨u, -, rfl⟩ := List.mem_map.1 hv
      obtain ⟨b1, b2, b3, b4, b5, b6, b7, b8⟩ := U.fitV_ok u
      constructor <;> omega
  · obtain ⟨u, hu, rfl⟩ := List.mem_map.1 (show t ∈ (p.ts.take 2).map fitT from ht)
    have hs := fitT_sides u
    exact ⟨by unfold I64; omega, by unfold I64; omega, fitT_ok (hp.ts u (List.mem_of_mem_take hu)).2.2⟩
  · rcases List.mem_cons.1 (show l ∈ fitPr p from hl) with rfl | hl
    · intro x hx
      obtain rfl : x = C.mov := by simpa using hx
      exact C.mov_ok
    · obtain ⟨u, hu, rfl⟩ := List.mem_map.1 hl
      have ho := hp.ps u (List.mem_of_mem_take hu)
      unfold fitPn
      refine C.fitP_ok ?_
      split
      · intro y hy
        obtain ⟨x, hx, rfl⟩ := List.mem_map.1 hy
        exact C.bareI_ok (ho x hx)
      · exact ho
  · obtain ⟨i, u, hu, rfl⟩ := mapIdx_get (show d ∈ (p.ds.take draws).mapIdx (fitDr (fitVs p verts).length (fitTs p).length (fitPr p).length tris) from hdm)
    have hi : i < 8 := by
      have := (List.getElem?_eq_some_iff.1 hu).1
      have := take_le p.ds draws
      omega
    have q0 := emod_in u.id (m := 100) (by decide)
    have e0 : u.id % (100 : Nat) = u.id % 100 := rfl
    rw [e0] at q0
    have q1 := emod_in u.prog (m := (fitPr p).length) (by omega)
    refine ⟨?_, ?_, ?_, fun t htm => ?_⟩
    · show I64 (100 * (u.id % 100) + (i : Int))
      unfold I64
      omega
    · show I64 (u.prog % ((fitPr p).length : Int))
      unfold I64
      omega
    · show I64 (if 0 < (fitTs p).length then u.tex % ((fitTs p).length : Int) else -1)
      split
      · rename_i h0
        have q2 := emod_in u.tex h0
        unfold I64
        omega
      · unfold I64
        omega
    · obtain ⟨k, x, hx, rfl⟩ := mapIdx_get (show t ∈ (u.tris.take tris).mapIdx (fitTri (fitVs p verts).length) from htm)
      have hk2 : k < 100 := by
        have := (List.getElem?_eq_some_iff.1 hx).1
        have := take_le u.tris tris
        omega
      exact fitTri_ok (by omega) (by omega) hk2
theorem fitS_few (hv : verts ≤ 63) (hd : draws ≤ 8) (ht : tris ≤ 32) : (fitS p most verts draws tris).few := by
  have h1 := fitVs_len (p := p) (verts := verts)
  have h2 := fitTs_len (p := p)
  have h3 := fitPr_len (p := p)
  refine ⟨?_, ?_, fun t ht => ?_, ?_, fun l hl => ?_, ?_, fun d hdm => ?_⟩
  · show (fitVs p verts).length ≤ 1000
    omega
  · show (fitTs p).length ≤ 1000
    omega
  · obtain ⟨u, hu, rfl⟩ := List.mem_map.1 (show t ∈ (p.ts.take 2).map fitT from ht)
    obtain ⟨a0, a1, b0, b1⟩ := fitT_sides u
    have hl := fitT_len u
    have := Int.mul_le_mul a1 b1 (by omega) (by omega)
    omega
  · show (fitPr p).length ≤ 1000
    omega
  · rcases List.mem_cons.1 (show l ∈ fitPr p from hl) with rfl | hl
    · decide
    · obtain ⟨u, hu, rfl⟩ := List.mem_map.1 hl
      have := C.fitP_len (if decide ((fitTs p).length = 0) then u.map C.bareI else u)
      unfold fitPn
      omega
  · show ((p.ds.take draws).mapIdx (fitDr (fitVs p verts).length (fitTs p).length (fitPr p).length tris)).length ≤ 1000
    rw [List.length_mapIdx]
    exact Nat.le_trans (take_le _ _) (by omega)
  · obtain ⟨i, u, hu, rfl⟩ := mapIdx_get (show d ∈ (p.ds.take draws).mapIdx (fitDr (fitVs p verts).length (fitTs p).length (fitPr p).length tris) from hdm)
    show ((u.tris.take tris).mapIdx (fitTri (fitVs p verts).length)).length ≤ 1000
    rw [List.length_mapIdx]
    exact Nat.le_trans (take_le _ _) (by omega)
end
end Go.Proofs.Ytnpcmoeleigpoaa
