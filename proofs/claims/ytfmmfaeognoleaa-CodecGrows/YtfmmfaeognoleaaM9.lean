/-
  What the reference's Fit makes of a scene (pure): it may be.
-/
import Derived.Test.YtfmmfaeognoleaaM4
import Derived.Test.YtfmmfaeognoleaaM8
namespace Go.Proofs.Ytfmmfaeognoleaa

def fitTri (nv : Nat) (k : Nat) (t : Tr) : Tr := ⟨100 * (t.i % 100) + k, t.a % nv, t.b % nv, t.c % nv⟩
def fitDr (nv nt np tris : Nat) (i : Nat) (d : Dr) : Dr := ⟨100 * (d.id % 100) + i, d.prog % np, if 0 < nt then d.tex % nt else -1, d.op, (d.tris.take tris).mapIdx (fitTri nv)⟩
def vz : U.V := ⟨-2, -2, 0, 1, 200, 0, 0, 128⟩
def fitVs (p : PS) (verts : Nat) : List U.V := vz :: (p.vs.take verts).map U.fitV
def fitTs (p : PS) : List Tx := (p.ts.take 2).map fitT
/-- A program as Fit tells it, where it may have pictures or not. -/
def fitPn (b : Bool) (l : List C.In) : List C.In := C.fitP (if b then l.map C.bareI else l)
def fitPr (p : PS) : List (List C.In) := [C.mov] :: (p.ps.take 3).map (fitPn (decide ((fitTs p).length = 0)))
def fitS (p : PS) (most verts draws tris : Nat) : PS :=
  ⟨1 + p.w % most, 1 + p.h % most, pre p.k, fitVs p verts, fitTs p, fitPr p, (p.ds.take draws).mapIdx (fitDr (fitVs p verts).length (fitTs p).length (fitPr p).length tris)⟩

theorem mapIdx_snoc {α β : Type} {l : List (Lo α)} {f : Nat → α → β} {k : Nat} {u : Lo α} (h : l[k]? = some u) : ((l.map Lo.x).take (k + 1)).mapIdx f = ((l.map Lo.x).take k).mapIdx f ++ [f k u.x] := by
  have h2 : (l.map Lo.x)[k]? = some u.x := by rw [List.getElem?_map, h]; rfl
  have hl := (List.getElem?_eq_some_iff.1 h2).1
  rw [take_snoc h2, List.mapIdx_concat, List.length_take, Nat.min_eq_left (by omega)]
theorem mapIdx_get {α β : Type} {l : List α} {f : Nat → α → β} {x : β} (h : x ∈ l.mapIdx f) : ∃ i u, l[i]? = some u ∧ x = f i u := by
  obtain ⟨i, hi, e⟩ := List.mem_mapIdx.1 h
  exact ⟨i, l[i], List.getElem?_eq_getElem hi, e.symm⟩
theorem nodup_idx {α β : Type} (l : List α) (f : Nat → α → β) (g : β → Int) (c : α → Int) (hl : l.length ≤ 100) (h : ∀ i u, g (f i u) = 100 * c u + i) : ((l.mapIdx f).map g).Nodup := by
  rw [List.Nodup, List.pairwise_iff_getElem]
  intro i j hi hj hij e
  simp only [List.length_map, List.length_mapIdx] at hi hj
  simp only [List.getElem_map, List.getElem_mapIdx, h] at e
  omega
theorem bare_tex (l : List C.In) : (C.fitP (l.map C.bareI)).any C.tex = false := by
  have key : ∀ x : C.In, ¬ 13 ≤ x.o % 15 → ∀ i n, C.tex (C.fitI x i n) = false := by
    intro x hx i n
    unfold C.tex C.fitI
    refine decide_eq_false ?_
    split
    · simp
    · split
      · dsimp only; omega
      · split
        · simp
        · split
          · dsimp only; omega
          · dsimp only; omega
  have hb : ∀ x : C.In, ¬ 13 ≤ (C.bareI x).o % 15 := by
    intro x
    unfold C.bareI
    split
    · simp
    · assumption
  have hg : ∀ i, ¬ 13 ≤ ((l.map C.bareI).getD i C.mov).o % 15 := by
    intro i
    rw [List.getD_eq_getElem?_getD]
    cases e : (l.map C.bareI)[i]? with
    | none => decide
    | some c =>
      obtain ⟨x, _, rfl⟩ := List.mem_map.1 (List.mem_of_getElem? e)
      exact hb x
  rw [List.any_eq_false]
  intro x hx
  unfold C.fitP at hx
  split at hx
  · obtain rfl : x = C.mov := by simpa using hx
    decide
  · obtain ⟨i, -, rfl⟩ := List.mem_map.1 hx
    rw [C.fitAt, key _ (hg i)]
    decide
section
variable {p : PS} {most verts draws tris : Nat}
theorem fitVs_len : 1 ≤ (fitVs p verts).length ∧ (fitVs p verts).length ≤ verts + 1 := by
  unfold fitVs
  rw [List.length_cons, List.length_map]
  have := take_le p.vs verts
  omega
theorem fitTs_len : (fitTs p).length ≤ 2 := by
  unfold fitTs
  rw [List.length_map]
  exact take_le _ _
theorem fitPr_len : 1 ≤ (fitPr p).length ∧ (fitPr p).length ≤ 4 := by
  unfold fitPr
  rw [List.length_cons, List.length_map]
  have := take_le p.ps 3
  omega
theorem emod_in (n : Int) {m : Nat} (h : 0 < m) : 0 ≤ n % m ∧ n % m < m := ⟨Int.emod_nonneg _ (by omega), Int.emod_lt_of_pos _ (by omega)⟩
theorem inB_of {n a b : Int} (h1 : a ≤ n) (h2 : n ≤ b) : inB n a b = true := decide_eq_true ⟨h1, h2⟩
theorem fitTri_good (nv k : Nat) (t : Tr) (hv : 0 < nv) (hk : k < 100) : triB nv (fitTri nv k t) = true := by
  have h0 := emod_in t.i (m := 100) (by decide)
  have h1 := emod_in t.a hv
  have h2 := emod_in t.b hv
  have h3 := emod_in t.c hv
  have e0 : t.i % (100 : Nat) = t.i % 100 := rfl
  rw [e0] at h0
  unfold triB fitTri
  simp only [List.all_cons, List.all_nil, Bool.and_true, Bool.and_eq_true]
  exact ⟨inB_of (by omega) (by omega), inB_of (by omega) (by omega), inB_of (by omega) (by omega), inB_of (by omega) (by omega)⟩
theorem fitS_head (hk : p.k.ok) (hm : 1 ≤ most) (hm2 : most ≤ 64) (hv : verts ≤ 63) (hd : draws ≤ 8) (ht : tris ≤ 32) : headE (fitS p most verts draws tris) = 0 := by
  have hw := emod_in p.w (m := most) (by omega)
  have hh := emod_in p.h (m := most) (by omega)
  unfold headE
  have e1 : (inB (fitS p most verts draws tris).w 1 64 && inB (fitS p most verts draws tris).h 1 64) = true := by
    show (inB (1 + p.w % most) 1 64 && inB (1 + p.h % most) 1 64) = true
    rw [inB_of (show 1 ≤ 1 + p.w % most by omega) (show 1 + p.w % most ≤ 64 by omega), inB_of (show 1 ≤ 1 + p.h % most by omega) (show 1 + p.h % most ≤ 64 by omega)]
    rfl
  have e2 : rightB (fitS p most verts draws tris).k = true := rightB_of (pre_right hk)
  have e3 : manyB (fitS p most verts draws tris) = false := by
    have h1 := (fitVs_len (p := p) (verts := verts)).2
    have h2 := fitTs_len (p := p)
    have h3 := (fitPr_len (p := p)).2
    have h4 : ((p.ds.take draws).mapIdx (fitDr (fitVs p verts).length (fitTs p).length (fitPr p).length tris)).length ≤ 8 := by
      rw [List.length_mapIdx]
      exact Nat.le_trans (take_le _ _) hd
    have h5 : ((p.ds.take draws).mapIdx (fitDr (fitVs p verts).length (fitTs p).length (fitPr p).length tris)).all (fun d => decide (d.tris.length ≤ 32)) = true := by
      rw [List.all_eq_true]
      intro d hd
      obtain ⟨i, u, -, rfl⟩ := mapIdx_get hd
      refine decide_eq_true ?_
      unfold fitDr
      dsimp only
      rw [List.length_mapIdx]
      exact Nat.le_trans (take_le _ _) ht
    have g1 : decide (64 < (fitS p most verts draws tris).vs.length) = false := decide_eq_false (show ¬ 64 < (fitVs p verts).length by omega)
    have g2 : decide (4 < (fitS p most verts draws tris).ts.length) = false := decide_eq_false (show ¬ 4 < (fitTs p).length by omega)
    have g3 : decide (4 < (fitS p most verts draws tris).ps.length) = false := decide_eq_false (show ¬ 4 < (fitPr p).length by omega)
    have g4 : decide (8 < (fitS p most verts draws tris).ds.length) = false := decide_eq_false (show ¬ 8 < ((p.ds.take draws).mapIdx (fitDr (fitVs p verts).length (fitTs p).length (fitPr p).length tris)).length by omega)
    unfold manyB
    rw [g1, g2, g3, g4, show (fitS p most verts draws tris).ds = (p.ds.take draws).mapIdx (fitDr (fitVs p verts).length (fitTs p).length (fitPr p).length tris) from rfl, h5]
    rfl
  have e4 : (fitS p most verts draws tris).vs.all U.rightB = true := by
    show (fitVs p verts).all U.rightB = true
    rw [List.all_eq_true]
    intro v hv
    rcases List.mem_cons.1 hv with rfl | hv
    · decide
    · obtain ⟨u, -, rfl⟩ := List.mem_map.1 hv
      exact U.rightB_ok (U.fitV_ok u)
  have e5 : (fitS p most verts draws tris).ts.all Tx.right = true := by
    show (fitTs p).all Tx.right = true
    rw [List.all_eq_true]
    intro t ht
    obtain ⟨u, -, rfl⟩ := List.mem_map.1 ht
    exact fitT_right u
  have e6 : (fitS p most verts draws tris).ps.all (fun l => decide (C.chk l = 0)) = true := by
    show (fitPr p).all (fun l => decide (C.chk l = 0)) = true
    rw [List.all_eq_true]
    intro l hl
    rcases List.mem_cons.1 hl with rfl | hl
    · decide
    · obtain ⟨u, -, rfl⟩ := List.mem_map.1 hl
      exact decide_eq_true (C.fitP_chk _)
  rw [e1, e2, e3, e4, e5, e6]
  simp
theorem fitS_check (hk : p.k.ok) (hm : 1 ≤ most) (hm2 : most ≤ 64) (hv : verts ≤ 63) (hd : draws ≤ 8) (ht : tris ≤ 32) : check (fitS p most verts draws tris) = 0 := by
  refine check_zero.2 ⟨fitS_head hk hm hm2 hv hd ht, fun d hdm => ?_, ?_⟩
  · obtain ⟨i, u, hu, rfl⟩ := mapIdx_get (show d ∈ (p.ds.take draws).mapIdx (fitDr (fitVs p verts).length (fitTs p).length (fitPr p).length tris) from hdm)
    have hi : i < 8 := by
      have := (List.getElem?_eq_some_iff.1 hu).1
      have := take_le p.ds draws
      omega
    have h1 := (fitVs_len (p := p) (verts := verts)).1
    have h3 := (fitPr_len (p := p)).1
    have q0 := emod_in u.id (m := 100) (by decide)
    have e0 : u.id % (100 : Nat) = u.id % 100 := rfl
    rw [e0] at q0
    have q1 := emod_in u.prog (m := (fitPr p).length) (by omega)
    refine ⟨?_, ?_⟩
    · unfold ptsB
      have a1 : inB (fitDr (fitVs p verts).length (fitTs p).length (fitPr p).length tris i u).id 0 9999 = true := inB_of (show 0 ≤ 100 * (u.id % 100) + (i : Int) by omega) (show 100 * (u.id % 100) + (i : Int) ≤ 9999 by omega)
      have a2 : inB (fitDr (fitVs p verts).length (fitTs p).length (fitPr p).length tris i u).prog 0 (((fitS p most verts draws tris).ps.length : Int) - 1) = true := inB_of (show 0 ≤ u.prog % ((fitPr p).length : Int) by omega) (show u.prog % ((fitPr p).length : Int) ≤ ((fitPr p).length : Int) - 1 by omega)
      rw [a1, a2]
      have ht2 : ((fitDr (fitVs p verts).length (fitTs p).length (fitPr p).length tris i u).tris).all (triB (fitVs p verts).length) = true := by
        rw [List.all_eq_true]
        intro t htm
        obtain ⟨k, x, hx, rfl⟩ := mapIdx_get (show t ∈ (u.tris.take tris).mapIdx (fitTri (fitVs p verts).length) from htm)
        have hk2 : k < 100 := by
          have := (List.getElem?_eq_some_iff.1 hx).1
          have := take_le u.tris tris
          omega
        exact fitTri_good _ _ _ (by omega) hk2
      have hx2 : texB (fitS p most verts draws tris) (fitDr (fitVs p verts).length (fitTs p).length (fitPr p).length tris i u) = true := by
        unfold texB
        by_cases h0 : 0 < (fitTs p).length
        · have q2 := emod_in u.tex h0
          have e : (fitDr (fitVs p verts).length (fitTs p).length (fitPr p).length tris i u).tex = u.tex % ((fitTs p).length : Int) := if_pos h0
          rw [e, if_neg (by omega)]
          exact inB_of (by omega) (show u.tex % ((fitTs p).length : Int) ≤ ((fitTs p).length : Int) - 1 by omega)
        · have e : (fitDr (fitVs p verts).length (fitTs p).length (fitPr p).length tris i u).tex = -1 := if_neg h0
          rw [e, if_pos rfl]
          have hn : ∀ l ∈ fitPr p, l.any C.tex = false := by
            intro l hl
            rcases List.mem_cons.1 hl with rfl | hl
            · decide
            · obtain ⟨u, -, rfl⟩ := List.mem_map.1 hl
              unfold fitPn
              rw [decide_eq_true (show (fitTs p).length = 0 by omega), if_pos rfl]
              exact bare_tex u
          obtain ⟨l, hl⟩ := get_lt (l := fitPr p) (k := (u.prog % ((fitPr p).length : Int)).toNat) (by omega)
          have hg : (fitS p most verts draws tris).ps.getD (fitDr (fitVs p verts).length (fitTs p).length (fitPr p).length tris i u).prog.toNat [] = l := by
            show (fitPr p).getD (u.prog % ((fitPr p).length : Int)).toNat [] = l
            rw [List.getD_eq_getElem?_getD, hl]
            rfl
          rw [hg, hn l (List.mem_of_getElem? hl)]
          rfl
      rw [hx2, show (fitS p most verts draws tris).vs.length = (fitVs p verts).length from rfl, ht2]
      rfl
    · exact nodup_idx (u.tris.take tris) (fitTri (fitVs p verts).length) Tr.i (fun t => t.i % 100) (Nat.le_trans (take_le _ _) (by omega)) (fun _ _ => rfl)
  · exact nodup_idx (p.ds.take draws) (fitDr (fitVs p verts).length (fitTs p).length (fitPr p).length tris) Dr.id (fun d => d.id % 100) (Nat.le_trans (take_le _ _) (by omega)) (fun _ _ => rfl)
theorem fitTri_ok {nv k : Nat} {t : Tr} (hv : 0 < nv) (hn : nv ≤ 100000) (hk : k < 100) : (fitTri nv k t).ok := by
  have h0 := emod_in t.i (m := 100) (by decide)
  have h1 := emod_in t.a hv
  have h2 := emod_in t.b hv
  have h3 := emod_in t.c hv
  have e0 : t.i % (100 : Nat) = t.i % 100 := rfl
  rw [e0] at h0
  unfold fitTri
  constructor <;> dsimp only <;> unfold I64 <;> omega
theorem fitS_ok (hp : p.ok) (hm : 1 ≤ most) (hm2 : most ≤ 64) (hv : verts ≤ 63) (hd : draws ≤ 8) (ht : tris ≤ 32) : (fitS p most verts draws tris).ok := by
  have hw := emod_in p.w (m := most) (by omega)
  have hh := emod_in p.h (m := most) (by omega)
  have h1 := fitVs_len (p := p) (verts := verts)
  have h2 := fitTs_len (p := p)
  have h3 := fitPr_len (p := p)
  refine ⟨?_, ?_, pre_ok hp.k, fun v hv => ?_, fun t ht => ?_, fun l hl => ?_, fun d hdm => ?_⟩
  · show I64 (1 + p.w % most)
    unfold I64
    omega
  · show I64 (1 + p.h % most)
    unfold I64
    omega
  · rcases List.mem_cons.1 (show v ∈ fitVs p verts from hv) with rfl | hv
    · constructor <;> decide
    · obtain ⟨u, -, rfl⟩ := List.mem_map.1 hv
      obtain ⟨b1, b2, b3, b4, b5, b6, b7, b8⟩ := U.fitV_ok u
      constructor <;> omega
  · obtain ⟨u, hu, rfl⟩ := List.mem_map.1 (show t ∈ (p.ts.take 2).map fitT from ht)
    have hs := fitT_sides u
    exact ⟨by unfold I64; omega, by unfold I64; omega, fitT_ok (hp.ts u (List.mem_of_mem_take hu)).2.2⟩
  · rcases List.mem_cons.1 (show l ∈ fitPr p from hl) with rfl | hl
    · intro x hx
      obtain rfl : x = C.mov := by simpa using hx
      exact C.mov_ok
    · obtain ⟨u, hu, rfl⟩ := List.mem_map.1 hl
      have ho := hp.ps u (List.mem_of_mem_take hu)
      unfold fitPn
      refine C.fitP_ok ?_
      split
      · intro y hy
        obtain ⟨x, hx, rfl⟩ := List.mem_map.1 hy
        exact C.bareI_ok (ho x hx)
      · exact ho
  · obtain ⟨i, u, hu, rfl⟩ := mapIdx_get (show d ∈ (p.ds.take draws).mapIdx (fitDr (fitVs p verts).length (fitTs p).length (fitPr p).length tris) from hdm)
    have hi : i < 8 := by
      have := (List.getElem?_eq_some_iff.1 hu).1
      have := take_le p.ds draws
      omega
    have q0 := emod_in u.id (m := 100) (by decide)
    have e0 : u.id % (100 : Nat) = u.id % 100 := rfl
    rw [e0] at q0
    have q1 := emod_in u.prog (m := (fitPr p).length) (by omega)
    refine ⟨?_, ?_, ?_, fun t htm => ?_⟩
    · show I64 (100 * (u.id % 100) + (i : Int))
      unfold I64
      omega
    · show I64 (u.prog % ((fitPr p).length : Int))
      unfold I64
      omega
    · show I64 (if 0 < (fitTs p).length then u.tex % ((fitTs p).length : Int) else -1)
      split
      · rename_i h0
        have q2 := emod_in u.tex h0
        unfold I64
        omega
      · unfold I64
        omega
    · obtain ⟨k, x, hx, rfl⟩ := mapIdx_get (show t ∈ (u.tris.take tris).mapIdx (fitTri (fitVs p verts).length) from htm)
      have hk2 : k < 100 := by
        have := (List.getElem?_eq_some_iff.1 hx).1
        have := take_le u.tris tris
        omega
      exact fitTri_ok (by omega) (by omega) hk2
theorem fitS_few (hv : verts ≤ 63) (hd : draws ≤ 8) (ht : tris ≤ 32) : (fitS p most verts draws tris).few := by
  have h1 := fitVs_len (p := p) (verts := verts)
  have h2 := fitTs_len (p := p)
  have h3 := fitPr_len (p := p)
  refine ⟨?_, ?_, fun t ht => ?_, ?_, fun l hl => ?_, ?_, fun d hdm => ?_⟩
  · show (fitVs p verts).length ≤ 100000
    omega
  · show (fitTs p).length ≤ 100000
    omega
  · obtain ⟨u, hu, rfl⟩ := List.mem_map.1 (show t ∈ (p.ts.take 2).map fitT from ht)
    obtain ⟨a0, a1, b0, b1⟩ := fitT_sides u
    have hl := fitT_len u
    have := Int.mul_le_mul a1 b1 (by omega) (by omega)
    omega
  · show (fitPr p).length ≤ 100000
    omega
  · rcases List.mem_cons.1 (show l ∈ fitPr p from hl) with rfl | hl
    · decide
    · obtain ⟨u, hu, rfl⟩ := List.mem_map.1 hl
      have := C.fitP_len (if decide ((fitTs p).length = 0) then u.map C.bareI else u)
      unfold fitPn
      omega
  · show ((p.ds.take draws).mapIdx (fitDr (fitVs p verts).length (fitTs p).length (fitPr p).length tris)).length ≤ 100000
    rw [List.length_mapIdx]
    exact Nat.le_trans (take_le _ _) (by omega)
  · obtain ⟨i, u, hu, rfl⟩ := mapIdx_get (show d ∈ (p.ds.take draws).mapIdx (fitDr (fitVs p verts).length (fitTs p).length (fitPr p).length tris) from hdm)
    show ((u.tris.take tris).mapIdx (fitTri (fitVs p verts).length)).length ≤ 100000
    rw [List.length_mapIdx]
    exact Nat.le_trans (take_le _ _) (by omega)
end
end Go.Proofs.Ytfmmfaeognoleaa
/-
  Scenes that may be, with their draws told otherwise (pure).
-/
namespace Go.Proofs.Ytfmmfaeognoleaa

/-- A scene with other draws. -/
def PS.wd (p : PS) (l : List Dr) : PS := ⟨p.w, p.h, p.k, p.vs, p.ts, p.ps, l⟩
theorem wd_self (p : PS) : p.wd p.ds = p := rfl
theorem ptsB_wd (p : PS) (l : List Dr) (d : Dr) : ptsB (p.wd l) d = ptsB p d := rfl
theorem drawE_wd (p : PS) (l pre : List Dr) (d : Dr) : drawE (p.wd l) pre d = drawE p pre d := rfl
/-- No row has too many elements, the draws aside. -/
structure PS.room (p : PS) : Prop where
  v : p.vs.length ≤ 64
  t : p.ts.length ≤ 4
  p : p.ps.length ≤ 4
theorem many_no {p : PS} : manyB p = false ↔ p.room ∧ p.ds.length ≤ 8 ∧ ∀ d ∈ p.ds, d.tris.length ≤ 32 := by
  unfold manyB
  simp only [Bool.or_eq_false_iff, decide_eq_false_iff_not, Nat.not_lt, Bool.not_eq_false', List.all_eq_true, decide_eq_true_eq]
  constructor
  · rintro ⟨a, b, c, d, e⟩
    exact ⟨⟨a, b, c⟩, d, e⟩
  · rintro ⟨⟨a, b, c⟩, d, e⟩
    exact ⟨a, b, c, d, e⟩
/-- What the head of a check asks. -/
structure PS.head (p : PS) : Prop where
  s : (inB p.w 1 64 && inB p.h 1 64) = true
  k : rightB p.k = true
  room : p.room
  v : p.vs.all U.rightB = true
  t : p.ts.all Tx.right = true
  c : p.ps.all (fun l => decide (C.chk l = 0)) = true
theorem head_zero {p : PS} : headE p = 0 ↔ p.head ∧ p.ds.length ≤ 8 ∧ ∀ d ∈ p.ds, d.tris.length ≤ 32 := by
  unfold headE
  cases h1 : (inB p.w 1 64 && inB p.h 1 64)
  · simp only [if_true]
    exact ⟨fun h => by omega, fun h => by have := h.1.s; rw [h1] at this; cases this⟩
  · rw [if_neg (by simp)]
    cases h2 : rightB p.k
    · simp only [if_true]
      exact ⟨fun h => by omega, fun h => by have := h.1.k; rw [h2] at this; cases this⟩
    · rw [if_neg (by simp)]
      cases h3 : manyB p
      · rw [if_neg (by simp)]
        have hm := many_no.1 h3
        cases h4 : p.vs.all U.rightB
        · simp only [if_true]
          exact ⟨fun h => by omega, fun h => by have := h.1.v; rw [h4] at this; cases this⟩
        · rw [if_neg (by simp)]
          cases h5 : p.ts.all Tx.right
          · simp only [if_true]
            exact ⟨fun h => by omega, fun h => by have := h.1.t; rw [h5] at this; cases this⟩
          · rw [if_neg (by simp)]
            cases h6 : p.ps.all (fun l => decide (C.chk l = 0))
            · simp only [if_true]
              exact ⟨fun h => by omega, fun h => by have := h.1.c; rw [h6] at this; cases this⟩
            · rw [if_neg (by simp)]
              exact ⟨fun _ => ⟨⟨h1, h2, hm.1, h4, h5, h6⟩, hm.2⟩, fun _ => rfl⟩
      · rw [if_pos rfl]
        exact ⟨fun h => by omega, fun h => by have := many_no.2 ⟨h.1.room, h.2⟩; rw [h3] at this; cases this⟩
theorem head_wd {p : PS} {l : List Dr} (h : p.head) (h8 : l.length ≤ 8) (h32 : ∀ d ∈ l, d.tris.length ≤ 32) : headE (p.wd l) = 0 :=
  head_zero.2 ⟨⟨h.s, h.k, ⟨h.room.v, h.room.t, h.room.p⟩, h.v, h.t, h.c⟩, h8, h32⟩
/-- Of a draw: it may be by itself. -/
structure PS.dok (p : PS) (d : Dr) : Prop where
  n : d.tris.length ≤ 32
  b : ptsB p d = true
  u : (d.tris.map Tr.i).Nodup
/-- What it is to be right. -/
theorem check_ok {p : PS} : check p = 0 ↔ p.head ∧ p.ds.length ≤ 8 ∧ (∀ d ∈ p.ds, p.dok d) ∧ (p.ds.map Dr.id).Nodup := by
  rw [check_zero, head_zero]
  constructor
  · rintro ⟨⟨a, b, c⟩, d, e⟩
    exact ⟨a, b, fun x hx => ⟨c x hx, (d x hx).1, (d x hx).2⟩, e⟩
  · rintro ⟨a, b, c, e⟩
    exact ⟨⟨a, b, fun x hx => (c x hx).n⟩, fun x hx => ⟨(c x hx).b, (c x hx).u⟩, e⟩
theorem check_wd {p : PS} {l : List Dr} (h : p.head) (h8 : l.length ≤ 8) (hd : ∀ d ∈ l, p.dok d) (hn : (l.map Dr.id).Nodup) : check (p.wd l) = 0 :=
  check_ok.2 ⟨⟨h.s, h.k, ⟨h.room.v, h.room.t, h.room.p⟩, h.v, h.t, h.c⟩, h8, fun d hx => ⟨(hd d hx).n, (hd d hx).b, (hd d hx).u⟩, hn⟩
/-- A draw that replaces one that was right, with those ahead of it. -/
theorem check_bad {p : PS} {pre l : List Dr} {d : Dr} {e : Int} (h : p.head) (h8 : (pre ++ d :: l).length ≤ 8) (h32 : ∀ x ∈ pre ++ d :: l, x.tris.length ≤ 32)
    (hp : ∀ x ∈ pre, p.dok x) (hn : (pre.map Dr.id).Nodup) (he : drawE p pre d = e) (hne : e ≠ 0) : check (p.wd (pre ++ d :: l)) = e := by
  have hH := head_wd h h8 h32
  have hg : (p.wd (pre ++ d :: l)).ds[pre.length]? = some d := by
    show (pre ++ d :: l)[pre.length]? = some d
    rw [List.getElem?_append_right (Nat.le_refl _), Nat.sub_self]
    rfl
  have ht : (p.wd (pre ++ d :: l)).ds.take pre.length = pre := by
    show (pre ++ d :: l).take pre.length = pre
    rw [List.take_left]
  have hE : errAt (p.wd (pre ++ d :: l)) pre.length = e := by rw [errAt_eq hg, ht, drawE_wd, he]
  unfold check
  rw [if_pos hH, ← hE]
  refine errs_bad (List.getElem?_eq_some_iff.1 hg).1 (fun i hi => ?_) (by rw [hE]; exact hne)
  obtain ⟨x, hx⟩ := get_lt hi
  have hx2 : (p.wd (pre ++ d :: l)).ds[i]? = some x := by
    show (pre ++ d :: l)[i]? = some x
    rw [List.getElem?_append_left hi, hx]
  have ht2 : (p.wd (pre ++ d :: l)).ds.take i = pre.take i := by
    show (pre ++ d :: l).take i = _
    rw [List.take_append_of_le_length (by omega)]
  rw [errAt_eq hx2, ht2, drawE_wd, drawE_zero]
  have hk := hp x (List.mem_of_getElem? hx)
  refine ⟨hk.b, fun hm => ?_, hk.u⟩
  have h1 : ((pre.take (i + 1)).map Dr.id).Nodup := List.Nodup.sublist ((List.take_sublist _ _).map _) hn
  rw [take_snoc hx, List.map_append] at h1
  exact (nodup_snoc.1 h1).2 hm

theorem nodup_rev {l : List Int} (h : l.Nodup) : l.reverse.Nodup := by
  unfold List.Nodup
  rw [List.pairwise_reverse]
  exact h.imp fun h e => h e.symm
/-- A draw with its triangles the other way about. -/
def revD (d : Dr) : Dr := ⟨d.id, d.prog, d.tex, d.op, d.tris.reverse⟩
theorem revD_ok {p : PS} {d : Dr} (h : p.dok d) : p.dok (revD d) := by
  refine ⟨by show d.tris.reverse.length ≤ 32; rw [List.length_reverse]; exact h.n, ?_, ?_⟩
  · rw [← h.b]
    show (inB d.id 0 9999 && (inB d.prog 0 (p.ps.length - 1) && (texB p d && d.tris.reverse.all (triB p.vs.length)))) = (inB d.id 0 9999 && (inB d.prog 0 (p.ps.length - 1) && (texB p d && d.tris.all (triB p.vs.length))))
    rw [List.all_reverse]
  · show (d.tris.reverse.map Tr.i).Nodup
    rw [List.map_reverse]
    exact nodup_rev h.u
theorem check_back {p : PS} (h : check p = 0) : check (p.wd (p.ds.reverse.map revD)) = 0 := by
  obtain ⟨a, b, c, d⟩ := check_ok.1 h
  refine check_wd a (by rw [List.length_map, List.length_reverse]; exact b) (fun x hx => ?_) ?_
  · obtain ⟨y, hy, rfl⟩ := List.mem_map.1 hx
    exact revD_ok (c y (List.mem_reverse.1 hy))
  · rw [List.map_map, show Dr.id ∘ revD = Dr.id from rfl, List.map_reverse]
    exact nodup_rev d
theorem count_back {p : PS} : count (p.wd (p.ds.reverse.map revD)) = count p := by
  unfold count
  show ((p.ds.reverse.map revD).map fun d => d.tris.length).sum = _
  rw [List.map_map, show ((fun d : Dr => d.tris.length) ∘ revD) = fun d => d.tris.length from funext fun d => List.length_reverse, List.map_reverse, List.sum_reverse]
theorem check_again {p : PS} {d : Dr} (h : check p = 0) (h7 : p.ds.length ≤ 7) (hd : d ∈ p.ds) : check (p.wd (p.ds ++ [d])) = 25 := by
  obtain ⟨a, b, c, e⟩ := check_ok.1 h
  have hk := c d hd
  refine check_bad a (by rw [List.length_append]; simp; omega) (fun x hx => ?_) c e ?_ (by omega)
  · rcases List.mem_append.1 hx with hx | hx
    · exact (c x hx).n
    · obtain rfl : x = d := by simpa using hx
      exact hk.n
  · unfold drawE
    rw [hk.b, if_neg (by simp)]
    have : (p.ds.map Dr.id).contains d.id = true := by
      rw [List.contains_eq_mem]
      exact decide_eq_true (List.mem_map.2 ⟨d, hd, rfl⟩)
    rw [this]
    rfl
theorem set_split {α : Type} {l : List α} {i : Nat} {y : α} (h : i < l.length) : l.set i y = l.take i ++ y :: l.drop (i + 1) := List.set_eq_take_append_cons_drop.trans (if_pos h)
theorem get_split {α : Type} {l : List α} {i : Nat} {x : α} (h : l[i]? = some x) : l = l.take i ++ x :: l.drop (i + 1) := by
  conv => lhs; rw [← List.take_append_drop i l]
  congr 1
  obtain ⟨hi, e⟩ := List.getElem?_eq_some_iff.1 h
  rw [List.drop_eq_getElem_cons hi, e]
theorem mem_set {α : Type} {l : List α} {i : Nat} {y z : α} (h : z ∈ l.set i y) : z ∈ l ∨ z = y := (List.mem_or_eq_of_mem_set h)
/-- Two triangles of one number ahead of a draw's. -/
def twT (d : Dr) : Dr := ⟨d.id, d.prog, d.tex, d.op, [⟨7, 0, 0, 0⟩, ⟨7, 0, 0, 0⟩] ++ d.tris⟩
theorem check_tw {p : PS} {d : Dr} {i : Nat} (h : check p = 0) (hv : 1 ≤ p.vs.length) (hi : p.ds[i]? = some d) (h30 : d.tris.length ≤ 30) : check (p.wd (p.ds.set i (twT d))) = 25 := by
  obtain ⟨a, b, c, e⟩ := check_ok.1 h
  have hk := c d (List.mem_of_getElem? hi)
  have hl : (p.ds.set i (twT d)).length = p.ds.length := List.length_set
  have hm : ∀ x ∈ p.ds.set i (twT d), x.tris.length ≤ 32 := fun x hx => by
    rcases mem_set hx with hx | rfl
    · exact (c x hx).n
    · show ([(⟨7, 0, 0, 0⟩ : Tr), ⟨7, 0, 0, 0⟩] ++ d.tris).length ≤ 32
      rw [List.length_append]
      simp
      omega
  rw [set_split (List.getElem?_eq_some_iff.1 hi).1] at hl hm ⊢
  refine check_bad a (by rw [hl]; exact b) hm (fun x hx => c x (List.mem_of_mem_take hx)) (List.Nodup.sublist ((List.take_sublist _ _).map _) e) ?_ (by omega)
  have hp : ptsB p (twT d) = true := by
    have hb := hk.b
    have h7 : triB p.vs.length ⟨7, 0, 0, 0⟩ = true := by
      unfold triB
      simp only [List.all_cons, List.all_nil, Bool.and_true, Bool.and_eq_true]
      exact ⟨by decide, inB_of (by omega) (by omega), inB_of (by omega) (by omega), inB_of (by omega) (by omega)⟩
    unfold ptsB at hb ⊢
    show (inB d.id 0 9999 && (inB d.prog 0 (p.ps.length - 1) && (texB p d && ([(⟨7, 0, 0, 0⟩ : Tr), ⟨7, 0, 0, 0⟩] ++ d.tris).all (triB p.vs.length)))) = true
    rw [List.all_append]
    simp only [List.all_cons, List.all_nil, h7, Bool.and_true, Bool.true_and]
    exact hb
  unfold drawE
  rw [hp, if_neg (by simp)]
  have ht : twiceB ((twT d).tris.map Tr.i) = true := by
    cases ht : twiceB ((twT d).tris.map Tr.i)
    · have := twiceB_no.1 ht
      have h2 : (7 :: 7 :: d.tris.map Tr.i : List Int).Nodup := this
      simp at h2
    · rfl
  rw [ht, Bool.or_true]
  rfl
/-- Without one of its draws. -/
theorem check_less {p : PS} {i : Nat} (h : check p = 0) : check (p.wd (p.ds.take i ++ p.ds.drop (i + 1))) = 0 := by
  obtain ⟨a, b, c, e⟩ := check_ok.1 h
  have hs : (p.ds.take i ++ p.ds.drop (i + 1)).Sublist p.ds := by
    conv => rhs; rw [← List.take_append_drop i p.ds]
    exact List.Sublist.append (List.Sublist.refl _) (by rw [← List.drop_drop]; exact List.drop_sublist _ _)
  exact check_wd a (Nat.le_trans hs.length_le b) (fun d hd => c d (hs.subset hd)) (List.Nodup.sublist (hs.map _) e)
theorem count_less {p : PS} {d : Dr} {i : Nat} (hi : p.ds[i]? = some d) : (count (p.wd (p.ds.take i ++ p.ds.drop (i + 1))) : Int) = count p - d.tris.length := by
  unfold count
  show ((((p.ds.take i ++ p.ds.drop (i + 1)).map fun d => d.tris.length).sum : Nat) : Int) = ((p.ds.map fun d => d.tris.length).sum : Nat) - (d.tris.length : Int)
  have e : (p.ds.map fun d => d.tris.length).sum = ((p.ds.take i ++ d :: p.ds.drop (i + 1)).map fun d => d.tris.length).sum := by rw [← get_split hi]
  rw [e]
  simp only [List.map_append, List.map_cons, List.sum_append, List.sum_cons]
  omega
/-- With fewer triangles. -/
def cutD (k : Nat) (d : Dr) : Dr := ⟨d.id, d.prog, d.tex, d.op, d.tris.take k⟩
theorem cutD_ok {p : PS} {d : Dr} {k : Nat} (h : p.dok d) : p.dok (cutD k d) := by
  refine ⟨?_, ?_, ?_⟩
  · show (d.tris.take k).length ≤ 32
    have := h.n
    rw [List.length_take]
    omega
  · have hb := h.b
    unfold ptsB at hb ⊢
    show (inB d.id 0 9999 && (inB d.prog 0 (p.ps.length - 1) && (texB p d && (d.tris.take k).all (triB p.vs.length)))) = true
    simp only [Bool.and_eq_true] at hb ⊢
    refine ⟨hb.1, hb.2.1, hb.2.2.1, ?_⟩
    rw [List.all_eq_true]
    exact fun t ht => List.all_eq_true.1 hb.2.2.2 t (List.mem_of_mem_take ht)
  · show ((d.tris.take k).map Tr.i).Nodup
    exact List.Nodup.sublist ((List.take_sublist _ _).map _) h.u
theorem ids_set {l : List Dr} {i : Nat} {d e : Dr} (hi : l[i]? = some d) (he : e.id = d.id) : (l.set i e).map Dr.id = l.map Dr.id := by
  rw [set_split (List.getElem?_eq_some_iff.1 hi).1]
  conv => rhs; rw [get_split hi]
  simp only [List.map_append, List.map_cons, he]
theorem check_cut {p : PS} {d : Dr} {i k : Nat} (h : check p = 0) (hi : p.ds[i]? = some d) : check (p.wd (p.ds.set i (cutD k d))) = 0 := by
  obtain ⟨a, b, c, e⟩ := check_ok.1 h
  refine check_wd a (by rw [List.length_set]; exact b) (fun x hx => ?_) (by rw [ids_set hi (show (cutD k d).id = d.id from rfl)]; exact e)
  rcases mem_set hx with hx | rfl
  · exact c x hx
  · exact cutD_ok (c d (List.mem_of_getElem? hi))
theorem count_cut {p : PS} {d : Dr} {i k : Nat} (hi : p.ds[i]? = some d) (hk : k ≤ d.tris.length) : (count (p.wd (p.ds.set i (cutD k d))) : Int) = count p - d.tris.length + k := by
  unfold count
  show ((((p.ds.set i (cutD k d)).map fun d => d.tris.length).sum : Nat) : Int) = ((p.ds.map fun d => d.tris.length).sum : Nat) - (d.tris.length : Int) + (k : Int)
  rw [set_split (List.getElem?_eq_some_iff.1 hi).1]
  have e : (p.ds.map fun d => d.tris.length).sum = ((p.ds.take i ++ d :: p.ds.drop (i + 1)).map fun d => d.tris.length).sum := by rw [← get_split hi]
  rw [e]
  simp only [List.map_append, List.map_cons, List.sum_append, List.sum_cons]
  have : (cutD k d).tris.length = k := by
    show (d.tris.take k).length = k
    rw [List.length_take]
    omega
  omega
/-- With more vertices and programs that nobody names. -/
def PS.mo (p : PS) (v : List U.V) (l : List (List C.In)) : PS := ⟨p.w, p.h, p.k, p.vs ++ v, p.ts, p.ps ++ l, p.ds⟩
theorem check_more {p : PS} {v : List U.V} {l : List (List C.In)} (h : check p = 0) (hv : v.all U.rightB = true) (hv2 : (p.vs ++ v).length ≤ 64) (hl : l.all (fun l => decide (C.chk l = 0)) = true) (hl2 : (p.ps ++ l).length ≤ 4) : check (p.mo v l) = 0 := by
  obtain ⟨a, b, c, e⟩ := check_ok.1 h
  refine check_ok.2 ⟨⟨a.s, a.k, ⟨hv2, a.room.t, hl2⟩, ?_, a.t, ?_⟩, b, fun d hd => ⟨(c d hd).n, ?_, (c d hd).u⟩, e⟩
  · show (p.vs ++ v).all U.rightB = true
    rw [List.all_append, a.v, hv]
    rfl
  · show (p.ps ++ l).all (fun l => decide (C.chk l = 0)) = true
    rw [List.all_append, a.c, hl]
    rfl
  · have hb := (c d hd).b
    have hin : ∀ {n a : Int} {k m : Nat}, k ≤ m → inB n a ((k : Int) - 1) = true → inB n a ((m : Int) - 1) = true := fun hk hx => by
      have := of_decide_eq_true hx
      exact inB_of this.1 (by omega)
    unfold ptsB at hb ⊢
    show (inB d.id 0 9999 && (inB d.prog 0 ((p.ps ++ l).length - 1) && (texB (p.mo v l) d && d.tris.all (triB (p.vs ++ v).length)))) = true
    simp only [Bool.and_eq_true] at hb ⊢
    obtain ⟨h1, h2, h3, h4⟩ := hb
    have hpr := of_decide_eq_true h2
    refine ⟨h1, hin (by rw [List.length_append]; omega) h2, ?_, ?_⟩
    · rw [← h3]
      unfold texB
      show (if d.tex = -1 then !(((p.ps ++ l).getD d.prog.toNat []).any C.tex) else inB d.tex 0 (p.ts.length - 1)) = (if d.tex = -1 then !((p.ps.getD d.prog.toNat []).any C.tex) else inB d.tex 0 (p.ts.length - 1))
      rw [List.getD_eq_getElem?_getD, List.getD_eq_getElem?_getD, List.getElem?_append_left (by omega)]
    · rw [List.all_eq_true] at h4 ⊢
      intro t ht
      have := h4 t ht
      unfold triB at this ⊢
      simp only [List.all_cons, List.all_nil, Bool.and_true, Bool.and_eq_true] at this ⊢
      obtain ⟨t1, t2, t3, t4⟩ := this
      have hle : p.vs.length ≤ (p.vs ++ v).length := by rw [List.length_append]; omega
      exact ⟨t1, hin hle t2, hin hle t3, hin hle t4⟩
end Go.Proofs.Ytfmmfaeognoleaa
/-
  Scenes that may be have few bytes; bytes that are cut, or go on, say nothing (pure).
-/
namespace Go.Proofs.Ytfmmfaeognoleaa

theorem many_le {α : Type} {g : α → List Int} {K : Nat} : ∀ {l : List α}, (∀ x ∈ l, (g x).length ≤ K) → (nAll g l).length ≤ 1 + l.length * K
  | [], _ => by simp [nAll]
  | x :: l, h => by
    have h1 := many_le (g := g) (K := K) (l := l) fun y hy => h y (List.mem_cons_of_mem _ hy)
    have h2 := h x (by simp)
    unfold nAll at h1 ⊢
    simp only [List.flatMap_cons, List.length_cons, List.length_append] at h1 ⊢
    rw [Nat.add_mul]
    omega
theorem mul_le_of {a b c d : Nat} (h1 : a ≤ b) (h2 : c = b * d) : a * d ≤ c := by subst h2; exact Nat.mul_le_mul_right _ h1
theorem len_check {p : PS} (h : check p = 0) : (nS p).length ≤ 6400 := by
  obtain ⟨hh, hd, hr⟩ := head_zero.1 (check_zero.1 h).1
  have v := many_le (g := nV) (K := 8) (l := p.vs) fun x _ => Nat.le_refl 8
  have t := many_le (g := nT) (K := 1027) (l := p.ts) fun x hx => by
    have h1 := List.all_eq_true.1 hh.t x hx
    unfold Tx.right at h1
    simp only [decide_eq_true_eq] at h1
    obtain ⟨a1, a2, a3, a4, a5⟩ := h1
    have h2 := many_le (g := nC) (K := 4) (l := x.px) fun c _ => Nat.le_refl 4
    have h3 := area_bd a1 a2 a3 a4 rfl
    have h4 : (nT x).length = (nAll nC x.px).length + 2 := rfl
    have h5 : x.px.length ≤ 256 := by omega
    have h6 := mul_le_of (d := 4) (c := 1024) h5 rfl
    omega
  have c := many_le (g := nP) (K := 161) (l := p.ps) fun x hx => by
    have h1 := List.all_eq_true.1 hh.c x hx
    simp only [decide_eq_true_eq] at h1
    unfold C.chk at h1
    split at h1
    · cases h1
    · rename_i h2
      have h3 := many_le (g := nI) (K := 5) (l := x) fun c _ => Nat.le_refl 5
      have h4 : (nP x).length = (nAll nI x).length := rfl
      have h6 := mul_le_of (a := x.length) (b := 32) (d := 5) (c := 160) (by omega) rfl
      omega
  have d := many_le (g := nD) (K := 133) (l := p.ds) fun x hx => by
    have h1 := hr x hx
    have h3 := many_le (g := nR) (K := 4) (l := x.tris) fun c _ => Nat.le_refl 4
    have h4 : (nD x).length = (nAll nR x.tris).length + 4 := rfl
    have h6 := mul_le_of (d := 4) (c := 128) h1 rfl
    omega
  have e1 := mul_le_of (d := 8) (c := 512) hh.room.v rfl
  have e2 := mul_le_of (d := 1027) (c := 4108) hh.room.t rfl
  have e3 := mul_le_of (d := 161) (c := 644) hh.room.p rfl
  have e4 := mul_le_of (d := 133) (c := 1064) hd rfl
  unfold nS
  simp only [List.length_cons, List.length_append, nC, List.length_nil]
  omega
theorem len_ten (p : PS) : 10 ≤ (nS p).length := by
  have v := many_len (g := nV) (fun _ => by simp [nV]) p.vs
  have t := many_len (g := nT) (fun _ => by simp [nT]) p.ts
  have c := many_len (g := nP) (fun _ => by simp [nP, nAll]) p.ps
  have d := many_len (g := nD) (fun _ => by simp [nD]) p.ds
  unfold nS
  simp only [List.length_cons, List.length_append, nC, List.length_nil]
  omega
theorem take_back {p : PS} (ho : p.ok) (hc : check p = 0) : (P.put (nS p)).length ≤ 65536 ∧ 10 ≤ (P.put (nS p)).length ∧ takeP (P.put (nS p)) = (p, 0) := by
  have h1 := len_check hc
  have hf : p.few := few_len (by omega)
  have h2 := P.put_len (ins_nS ho hf)
  have h3 := len_ten p
  refine ⟨by omega, by omega, ?_⟩
  rw [takeP_put ho hf (by omega), if_pos hc]
theorem read_cut {p : PS} (ho : p.ok) (hf : p.few) {k : Nat} (hk : k < (P.put (nS p)).length) : readP ((P.put (nS p)).take k) = none := by
  have hi := ins_nS ho hf
  obtain ⟨j, hj, hn, hjk⟩ := P.seq_cut hi k (by omega)
  have hj2 := hjk hk
  unfold readP
  split
  · rfl
  · rw [hn]
    cases h : scanP ((nS p).take j) with
    | none => rfl
    | some q =>
      exfalso
      have := scan_cut ho (hi.take j) (List.take_append_drop j (nS p)).symm h
      have h2 := congrArg List.length this
      rw [List.length_drop, List.length_nil] at h2
      omega
theorem read_more {p : PS} (ho : p.ok) (hf : p.few) {x : Int} (hx : 0 ≤ x ∧ x ≤ 255) : readP (P.put (nS p) ++ [x]) = none := by
  have hi := ins_nS ho hf
  have hb : P.Byt [x] := fun y hy => by
    obtain rfl : y = x := by simpa using hy
    exact hx
  unfold readP
  rw [P.seq_put hi [x]]
  obtain ⟨n, s, he⟩ : ∃ n s, P.first [x] = (n, s) := ⟨_, _, rfl⟩
  by_cases hs : s = 0
  · subst hs
    rw [P.seq_bad (by simp) he]
    rw [if_pos (by simp [P.flag])]
  · obtain ⟨hin, -, -, h3, h4, -⟩ := P.first_inv hb he hs
    have hs1 : s = 1 := by simp at h3; omega
    subst hs1
    rw [P.seq_good hb he hs]
    have e0 : [x].drop 1 = [] := rfl
    rw [e0, P.seq_nil]
    have e1 : P.flag ((nS p).map (fun n => (n, true)) ++ [(n, true)]) = false := by rw [P.flag_snoc_t, P.flag_trues]
    have e2 : P.nums ((nS p).map (fun n => (n, true)) ++ [(n, true)]) = nS p ++ [n] := by rw [P.nums_snoc_t, P.nums_trues]
    rw [e1, e2, if_neg (by decide)]
    cases h : scanP (nS p ++ [n]) with
    | none => rfl
    | some q =>
      exfalso
      have := scan_more ho (hi.app fun y hy => by
        obtain rfl : y = n := by simpa using hy
        exact hin) h
      cases this
theorem takeP_none {bs : List Int} (h : readP bs = none) : takeP bs = (zS, 10) := by
  unfold takeP
  split
  · rfl
  · rw [h]
end Go.Proofs.Ytfmmfaeognoleaa
/-
  What a vertex, a picture or a draw more says, and the draws the other way round (pure).
-/
namespace Go.Proofs.Ytfmmfaeognoleaa

def t9 : Tx := ⟨1, 1, [⟨0, 0, 0, 9⟩]⟩
def d9 : Dr := ⟨9998, 0, -1, false, []⟩
theorem i64_V {v : U.V} (h : v.ok) : v.i64 := by
  obtain ⟨h1, h2, h3, h4, h5, h6, h7, h8⟩ := h
  exact ⟨by omega, by omega, by omega, by omega, by omega, by omega, by omega, by omega⟩
theorem fitV_i64 (v : U.V) : (U.fitV v).i64 := i64_V (U.fitV_ok v)
theorem put_ge : ∀ l : List Int, l.length ≤ (P.put l).length
  | [] => Nat.zero_le _
  | n :: l => by
    have h1 := put_ge l
    have h2 := P.enc_pos (P.fold n)
    rw [P.put_cons, List.length_append, List.length_cons]
    omega
theorem more_of {α : Type} (g : α → List Int) (l : List α) (x : α) (a b : List Int) : (P.put (a ++ (nAll g l ++ b))).length + (g x).length ≤ (P.put (a ++ (nAll g (l ++ [x]) ++ b))).length := by
  have hf : ∀ n : Nat, P.fold (n : Int) = 2 * n := fun n => by
    unfold P.fold
    rw [if_neg (by omega)]
    omega
  have h1 := P.enc_mono (P.fold (((l ++ [x]).length : Nat) : Int)) (P.fold (l.length : Int)) (by rw [hf, hf, List.length_append, List.length_singleton]; omega)
  have h2 := put_ge (g x)
  have h3 : (l ++ [x]).flatMap g = l.flatMap g ++ g x := by simp
  unfold nAll
  rw [h3]
  simp only [P.put_app, List.cons_append, P.put_cons, List.length_append] at h1 ⊢
  omega
theorem len_of {α : Type} (g : α → List Int) (l : List α) (x : α) (a b : List Int) : (a ++ (nAll g (l ++ [x]) ++ b)).length = (a ++ (nAll g l ++ b)).length + (g x).length := by
  have h3 : (l ++ [x]).flatMap g = l.flatMap g ++ g x := by simp
  unfold nAll
  rw [h3]
  simp only [List.cons_append, List.length_append, List.length_cons]
  omega
section
variable {p : PS} {v : U.V} {t : Tx} {d : Dr}
theorem more_v (p : PS) (_ : v.i64) : (P.put (nS p)).length + 8 ≤ (P.put (nS { p with vs := p.vs ++ [v] })).length :=
  more_of nV p.vs v (p.w :: p.h :: nC p.k) (nAll nT p.ts ++ (nAll nP p.ps ++ nAll nD p.ds))
theorem more_t (p : PS) : (P.put (nS p)).length + 7 ≤ (P.put (nS { p with ts := p.ts ++ [t9] })).length := by
  have h := more_of nT p.ts t9 (p.w :: p.h :: (nC p.k ++ nAll nV p.vs)) (nAll nP p.ps ++ nAll nD p.ds)
  simp only [List.cons_append, List.append_assoc] at h
  exact h
theorem more_d (p : PS) : (P.put (nS p)).length + 5 ≤ (P.put (nS { p with ds := p.ds ++ [d9] })).length := by
  have h := more_of nD p.ds d9 (p.w :: p.h :: (nC p.k ++ (nAll nV p.vs ++ (nAll nT p.ts ++ nAll nP p.ps)))) []
  simp only [List.cons_append, List.append_assoc, List.append_nil] at h
  exact h
theorem len_v : (nS { p with vs := p.vs ++ [v] }).length = (nS p).length + 8 :=
  len_of nV p.vs v (p.w :: p.h :: nC p.k) (nAll nT p.ts ++ (nAll nP p.ps ++ nAll nD p.ds))
theorem len_t : (nS { p with ts := p.ts ++ [t9] }).length = (nS p).length + 7 := by
  have h := len_of nT p.ts t9 (p.w :: p.h :: (nC p.k ++ nAll nV p.vs)) (nAll nP p.ps ++ nAll nD p.ds)
  simp only [List.cons_append, List.append_assoc] at h
  exact h
theorem len_d : (nS { p with ds := p.ds ++ [d9] }).length = (nS p).length + 5 := by
  have h := len_of nD p.ds d9 (p.w :: p.h :: (nC p.k ++ (nAll nV p.vs ++ (nAll nT p.ts ++ nAll nP p.ps)))) []
  simp only [List.cons_append, List.append_assoc, List.append_nil] at h
  exact h
theorem rev_m {α : Type} (g : α → List Int) (m : List Int → Nat) (hm : ∀ a b, m (a ++ b) = m a + m b) : ∀ l : List α, m (l.reverse.flatMap g) = m (l.flatMap g)
  | [] => rfl
  | x :: l => by
    have h := rev_m g m hm l
    have e1 : (x :: l).reverse.flatMap g = l.reverse.flatMap g ++ g x := by simp
    have e2 : (x :: l).flatMap g = g x ++ l.flatMap g := by simp
    rw [e1, e2, hm, hm, h]
    omega
theorem rev_nS (p : PS) (m : List Int → Nat) (hm : ∀ a b, m (a ++ b) = m a + m b) : m (nS { p with ds := p.ds.reverse }) = m (nS p) := by
  have h := rev_m nD m hm p.ds
  have e : ∀ l : List Dr, nS { p with ds := l } = (p.w :: p.h :: (nC p.k ++ (nAll nV p.vs ++ (nAll nT p.ts ++ (nAll nP p.ps ++ [(l.length : Int)]))))) ++ l.flatMap nD := by
    intro l
    unfold nS
    rw [show nAll nD l = [(l.length : Int)] ++ l.flatMap nD from rfl]
    simp only [List.cons_append, List.append_assoc]
  have e2 := e p.ds
  rw [e p.ds.reverse, show nS p = _ from e2, hm, hm, h, List.length_reverse]
theorem rev_len (p : PS) : (P.put (nS { p with ds := p.ds.reverse })).length = (P.put (nS p)).length := rev_nS p (fun l => (P.put l).length) fun x y => by rw [P.put_app x y, List.length_append]
theorem len_r : (nS { p with ds := p.ds.reverse }).length = (nS p).length := rev_nS p List.length fun _ _ => List.length_append
theorem v_ok (h : p.ok) (hv : v.i64) : PS.ok { p with vs := p.vs ++ [v] } :=
  ⟨h.w, h.h, h.k, fun x hx => (List.mem_append.1 hx).elim (h.vs x) fun e => (List.mem_singleton.1 e) ▸ hv, h.ts, h.ps, h.ds⟩
theorem tx_ok (h : p.ok) : PS.ok { p with ts := p.ts ++ [t9] } :=
  ⟨h.w, h.h, h.k, h.vs, fun x hx => (List.mem_append.1 hx).elim (h.ts x) fun e => (by
    obtain rfl : x = t9 := by simpa using e
    refine ⟨show I64 1 by unfold I64; omega, show I64 1 by unfold I64; omega, fun c hc => ?_⟩
    obtain rfl : c = ⟨0, 0, 0, 9⟩ := by simpa [t9] using hc
    unfold Col.ok
    simp), h.ps, h.ds⟩
theorem dx_ok (h : p.ok) : PS.ok { p with ds := p.ds ++ [d9] } :=
  ⟨h.w, h.h, h.k, h.vs, h.ts, h.ps, fun x hx => (List.mem_append.1 hx).elim (h.ds x) fun e => (by
    obtain rfl : x = d9 := by simpa using e
    exact ⟨show I64 9998 by unfold I64; omega, show I64 0 by unfold I64; omega, show I64 (-1) by unfold I64; omega, fun t ht => by cases ht⟩)⟩
theorem rev_ok (h : p.ok) : PS.ok { p with ds := p.ds.reverse } := ⟨h.w, h.h, h.k, h.vs, h.ts, h.ps, fun x hx => h.ds x (List.mem_reverse.1 hx)⟩
theorem rev_few (h : p.few) : PS.few { p with ds := p.ds.reverse } :=
  ⟨h.vs, h.ts, h.tx, h.ps, h.px, by show p.ds.reverse.length ≤ _; rw [List.length_reverse]; exact h.ds, fun x hx => h.dx x (List.mem_reverse.1 hx)⟩
theorem put_inj {a b : List Int} (ha : P.Ins a) (hb : P.Ins b) (h : P.put a = P.put b) : a = b := by
  have h1 := P.seq_all ha
  rw [h, P.seq_all hb] at h1
  have h2 := congrArg P.nums h1
  rw [P.nums_trues, P.nums_trues] at h2
  exact h2.symm
theorem rev_eq (h : p.ok) (hf : p.few) (hc : check p = 0) : P.put (nS { p with ds := p.ds.reverse }) = P.put (nS p) ↔ p.ds.length < 2 := by
  constructor
  · intro e
    have e1 := put_inj (ins_nS (rev_ok h) (rev_few hf)) (ins_nS h hf) e
    have e2 := scan_nS (rev_ok h)
    rw [e1, scan_nS h] at e2
    have e3 : p.ds = p.ds.reverse := congrArg PS.ds (Option.some.inj e2)
    have hn := (check_zero.1 hc).2.2
    rcases Nat.lt_or_ge p.ds.length 2 with hl | hl
    · exact hl
    · exfalso
      have h0 : p.ds[0]? = p.ds[p.ds.length - 1]? := by
        have h4 : p.ds[0]? = p.ds.reverse[0]? := congrArg (fun l => l[0]?) e3
        rw [h4, List.getElem?_reverse (by omega)]
        rfl
      rw [List.getElem?_eq_getElem (by omega), List.getElem?_eq_getElem (by omega)] at h0
      have h5 := Option.some.inj h0
      rw [List.Nodup, List.pairwise_iff_getElem] at hn
      have h6 := hn 0 (p.ds.length - 1) (by rw [List.length_map]; omega) (by rw [List.length_map]; omega) (by omega)
      simp only [List.getElem_map] at h6
      exact h6 (congrArg Dr.id h5)
  · intro hl
    have e : p.ds.reverse = p.ds := by
      match p.ds, hl with
      | [], _ => rfl
      | [d], _ => rfl
    rw [e]
theorem nS_look (h : 1 ≤ p.vs.length) : ∃ v r, p.vs = v :: r ∧ 8 ≤ (nS p).length ∧ (nS p)[0]? = some p.w ∧ (nS p)[1]? = some p.h ∧ (nS p)[5]? = some p.k.a ∧ (nS p)[6]? = some (p.vs.length : Int) ∧ (nS p)[7]? = some v.x := by
  obtain ⟨w, hh, k, vs, ts, ps, ds⟩ := p
  cases vs with
  | nil => simp at h
  | cons v r => exact ⟨v, r, rfl, by simp [nS, nC, nAll, nV], rfl, rfl, rfl, rfl, by simp [nS, nC, nAll, nV]⟩
theorem drop_rev1 {α : Type} {l : List α} {i : Nat} {u : α} (h : l[i]? = some u) : (l.drop i).reverse = (l.drop (i + 1)).reverse ++ [u] := by
  obtain ⟨hi, e⟩ := List.getElem?_eq_some_iff.1 h
  rw [List.drop_eq_getElem_cons hi, e, List.reverse_cons]
end
theorem snoc_all {α : Type} {P : α → Prop} {l : List α} {x : α} (h : ∀ y ∈ l, P y) (hx : P x) : ∀ y ∈ l ++ [x], P y := fun y hy => by
  rcases List.mem_append.1 hy with hy | hy
  · exact h y hy
  · obtain rfl : y = x := by simpa using hy
    exact hx
theorem wrap_u8 {a : Int} (h : 0 ≤ a ∧ a ≤ 255) : IntKind.i64.wrap a = a := by rw [IntKind.wrap_i64]; omega
theorem wrap_sm {n : Nat} {k : Int} (h : n ≤ 100000) (hk : 0 ≤ k ∧ k ≤ 100) : IntKind.i64.wrap ((n : Int) + k) = (n : Int) + k := by rw [IntKind.wrap_i64]; omega
theorem ge8 {a b : Nat} (h : a + 8 ≤ b) : decide ((b : Int) ≥ (a : Int) + 8) = true := by simp; omega
theorem ge7 {a b : Nat} (h : a + 7 ≤ b) : decide ((b : Int) ≥ (a : Int) + 7) = true := by simp; omega
theorem ge5 {a b : Nat} (h : a + 5 ≤ b) : decide ((b : Int) ≥ (a : Int) + 5) = true := by simp; omega
theorem idx8 {n : Nat} (h : 8 ≤ n) : decide ((n : Int) < 8) = false ∧ (0 : Int) < n ∧ (1 : Int) < n ∧ (5 : Int) < n ∧ (6 : Int) < n ∧ (7 : Int) < n := by
  refine ⟨?_, ?_, ?_, ?_, ?_, ?_⟩ <;> first | omega | (simp; omega)
theorem idx0 {α : Type} {l r : List α} {a : α} (h : l = a :: r) : (0 : Int) < (l.length : Int) := by rw [h, List.length_cons]; omega
end Go.Proofs.Ytfmmfaeognoleaa
/-
  Worlds that are as one was but for some blocks, and for what is new.
-/
namespace Go.Proofs.Ytfmmfaeognoleaa
open Go.RowKit

def Om (M : Nat → Prop) (Y w : World) : Prop := Y.heap.size ≤ w.heap.size ∧ ∀ b, b < Y.heap.size → ¬ M b → w.heap[b]? = Y.heap[b]?
section
variable {M : Nat → Prop} {Y w w' : World}
theorem om_refl (M : Nat → Prop) (Y : World) : Om M Y Y := ⟨Nat.le_refl _, fun _ _ _ => rfl⟩
theorem om_drew (M : Nat → Prop) (Y : World) : Om M Y Y.drew := ⟨Nat.le_refl _, fun _ _ _ => rfl⟩
theorem Om.bel (h : Om M Y w) (hb : Below Y.heap.size w w') : Om M Y w' := ⟨Nat.le_trans h.1 hb.size, fun b h1 h2 => (hb.block b h1).trans (h.2 b h1 h2)⟩
theorem Om.alloc (h : Om M Y w) (o : Obj) : Om M Y (w.alloc o) := h.bel ((Below.refl _ _).alloc h.1 o)
theorem Om.grown {row : Option Nat} (h : Om M Y w) (hg : w.grownBy w' row) (hr : ∀ r, row = some r → M r ∨ Y.heap.size ≤ r) : Om M Y w' :=
  ⟨Nat.le_trans h.1 hg.size, fun b h1 h2 => (hg.block b (Nat.lt_of_lt_of_le h1 h.1) (fun e => by
    rcases hr b e.symm with h3 | h3
    · exact h2 h3
    · omega)).trans (h.2 b h1 h2)⟩
theorem Om.set {g o : Nat} {u : Value} (h : Om M Y w) (hg : M g ∨ Y.heap.size ≤ g) : Om M Y (w.setCell ⟨g, o, none⟩ u) := ⟨by simpa using h.1, fun b h1 h2 => by
  rw [heap_setCell_other _ _ _ _ (by
    intro e
    have e : b = g := by simpa using e
    subst e
    rcases hg with h3 | h3
    · exact h2 h3
    · omega)]
  exact h.2 b h1 h2⟩
theorem Om.cell {b o : Nat} {v : Value} (h : Om M Y w) (hc : Y.cell? ⟨b, o, none⟩ = some v) (hM : ¬ M b) : w.cell? ⟨b, o, none⟩ = some v := by
  rw [World.cell?_of_block (a := ⟨b, o, none⟩) (h.2 b (World.block_lt_of_cell? _ _ hc) hM), hc]
end
end Go.Proofs.Ytfmmfaeognoleaa
/-
  The contract of the reference's Small.
-/
namespace Go.Proofs.Ytfmmfaeognoleaa
open Go.RowKit
attribute [local go_sem ↓] Go.wp_at_zero Go.wp_at_succ

/-- What Small answers. -/
def Smal (s : Sc) (w : World) (e : Ending) (w' : World) : Prop := ∃ x : Sc, e = .returned (.agg #[.int .i64 x.w, .int .i64 x.h, .int .u8 x.k.r, .int .u8 x.k.g, .int .u8 x.k.b, .int .u8 x.k.a, .slice x.vA x.vs.length x.vc, .slice x.tA x.ts.length x.tc, .slice x.pA x.ps.length x.pc, .slice x.dA x.ds.length x.dc]) ∧ x.p = smP s.p ∧ x.cap ∧ x.at w' w'.heap.size ∧ Below w.heap.size w w'
theorem wpList_append_len {α : Type} {E : Elem α} {T : TypeId} {w : World} {base B : Nat} {v : Value} {xs ys : List α} {A : Option Addr} {ops : Array Oper} {rest : List Oper} {o : Oper} {k : Act} {Q : Exit → Act → World → Prop} (hgd : o.guard = none) (R : Row E T) (s x : Operand) (c m : Nat) (hm : ys.length = m)
    (ho : o.op = .call { callee := .builtin .append, args := #[s, x], argTypes := #[T, T] }) (hs : k.eval s = v) (hx : k.eval x = .slice A m c)
    (hown : OwnE E w base v xs) (he : Es E w B A ys) (hn : xs.length ≤ 100000000) (hn2 : ys.length ≤ 100000000) (hbase : base ≤ w.heap.size)
    (h : ∀ v' w', w'.ownsRow base E.t E.size v' (xs.length + ys.length) (E.flat xs ++ E.flat ys) → w.grownBy w' v.ownBlock → (v'.ownBlock = v.ownBlock ∨ v'.ownBlock = some w.heap.size) → wpList Try.prog ops Q rest (k.put o.dst v') w') : wpList Try.prog ops Q (o :: rest) k w := by
  subst hm
  exact wpList_append_es hgd R s x c ho hs hx hown he hn hn2 hbase h
theorem opw_append_len {α : Type} {E : Elem α} {T : TypeId} {w : World} {base B : Nat} {v : Value} {xs ys : List α} {A : Option Addr} {o : Oper} {k : Act} {K : Act → World → Prop} {Q : Exit → Act → World → Prop} (R : Row E T) (s x : Operand) (c m : Nat) (hm : ys.length = m)
    (ho : o.op = .call { callee := .builtin .append, args := #[s, x], argTypes := #[T, T] }) (hs : k.eval s = v) (hx : k.eval x = .slice A m c)
    (hown : OwnE E w base v xs) (he : Es E w B A ys) (hn : xs.length ≤ 100000000) (hn2 : ys.length ≤ 100000000) (hbase : base ≤ w.heap.size)
    (h : ∀ v' w', w'.ownsRow base E.t E.size v' (xs.length + ys.length) (E.flat xs ++ E.flat ys) → w.grownBy w' v.ownBlock → (v'.ownBlock = v.ownBlock ∨ v'.ownBlock = some w.heap.size) → K (k.put o.dst v') w') : o.wp Try.prog k w K Q := by
  subst hm
  exact opw_append_es R s x c ho hs hx hown he hn hn2 hbase h
theorem map_take_snoc {α β : Type} {l : List (Lo α)} {f : α → β} {k : Nat} {u : Lo α} (h : l[k]? = some u) : ((l.map Lo.x).take (k + 1)).map f = ((l.map Lo.x).take k).map f ++ [f u.x] := by
  have : (l.map Lo.x)[k]? = some u.x := by rw [List.getElem?_map, h]; rfl
  rw [take_snoc this, List.map_append]
  rfl
/-- Of a row that is new: the slice that it is, of its length's own name. -/
theorem own_form {α : Type} {E : Elem α} {w : World} {base m : Nat} {v : Value} {xs : List α} (h : OwnE E w base v ([] ++ xs)) (hm : xs.length = m) : ∃ A c, v = .slice A m c ∧ m ≤ c ∧ OwnE E w base (.slice A m c) xs := by
  rw [List.nil_append] at h
  obtain ⟨A, c, e, h1, -, -⟩ := h.es
  subst hm e
  exact ⟨A, c, rfl, h1, h⟩
theorem take_cut {α : Type} {l : List α} {k m : Nat} (h : min l.length k = m) : l.take m = l.take k := by
  rcases Nat.le_total l.length k with h1 | h1
  · rw [List.take_of_length_le (by omega), List.take_of_length_le h1]
  · rw [show m = k by omega]
set_option maxRecDepth 100000 in
set_option maxHeartbeats 4000000 in
theorem ou_store {w : World} {g : Nat} {W0 H0 W H : Int} {k0 k : Col} {a1 a2 a3 a4 : Value} (v1 v2 v3 v4 : Value) (h : w.heap[g]? = some (ouB W0 H0 k0 a1 a2 a3 a4)) :
    ((((((((((w.setCell ⟨g, 0, none⟩ (.int .i64 W)).setCell ⟨g, 1, none⟩ (.int .i64 H)).setCell ⟨g, 2, none⟩ (.int .u8 k.r)).setCell ⟨g, 3, none⟩ (.int .u8 k.g)).setCell ⟨g, 4, none⟩ (.int .u8 k.b)).setCell ⟨g, 5, none⟩ (.int .u8 k.a)).setCell ⟨g, 6, none⟩ (v1)).setCell ⟨g, 7, none⟩ (v2)).setCell ⟨g, 8, none⟩ (v3)).setCell ⟨g, 9, none⟩ (v4)).heap[g]? = some (ouB W H k v1 v2 v3 v4) ∧ (∀ B n, g < B → Fx B n w ((((((((((w.setCell ⟨g, 0, none⟩ (.int .i64 W)).setCell ⟨g, 1, none⟩ (.int .i64 H)).setCell ⟨g, 2, none⟩ (.int .u8 k.r)).setCell ⟨g, 3, none⟩ (.int .u8 k.g)).setCell ⟨g, 4, none⟩ (.int .u8 k.b)).setCell ⟨g, 5, none⟩ (.int .u8 k.a)).setCell ⟨g, 6, none⟩ (v1)).setCell ⟨g, 7, none⟩ (v2)).setCell ⟨g, 8, none⟩ (v3)).setCell ⟨g, 9, none⟩ (v4))) ∧ (∀ B w0, B ≤ g → Below B w0 w → Below B w0 ((((((((((w.setCell ⟨g, 0, none⟩ (.int .i64 W)).setCell ⟨g, 1, none⟩ (.int .i64 H)).setCell ⟨g, 2, none⟩ (.int .u8 k.r)).setCell ⟨g, 3, none⟩ (.int .u8 k.g)).setCell ⟨g, 4, none⟩ (.int .u8 k.b)).setCell ⟨g, 5, none⟩ (.int .u8 k.a)).setCell ⟨g, 6, none⟩ (v1)).setCell ⟨g, 7, none⟩ (v2)).setCell ⟨g, 8, none⟩ (v3)).setCell ⟨g, 9, none⟩ (v4))) := by
  unfold ouB at h
  exact ⟨Eq.trans (heap_setCell_same _ _ _ _ _ _ (heap_setCell_same _ _ _ _ _ _ (heap_setCell_same _ _ _ _ _ _ (heap_setCell_same _ _ _ _ _ _ (heap_setCell_same _ _ _ _ _ _ (heap_setCell_same _ _ _ _ _ _ (heap_setCell_same _ _ _ _ _ _ (heap_setCell_same _ _ _ _ _ _ (heap_setCell_same _ _ _ _ _ _ (heap_setCell_same _ _ _ _ _ _ (h))))))))))) (by simp [ouB]), fun B n hg => Fx.set (Fx.set (Fx.set (Fx.set (Fx.set (Fx.set (Fx.set (Fx.set (Fx.set (Fx.set (Fx.refl _ _ _) hg) hg) hg) hg) hg) hg) hg) hg) hg) hg, fun B w0 hg hb => Below.setCell (Below.setCell (Below.setCell (Below.setCell (Below.setCell (Below.setCell (Below.setCell (Below.setCell (Below.setCell (Below.setCell (hb) hg _) hg _) hg _) hg _) hg _) hg _) hg _) hg _) hg _) hg _⟩
/-- The blocks of the scene that came in, of the answer, and of what is under way. -/
structure SmF (w0 : World) (src : Obj) (wr : World) (out : Obj) : Prop where
  s : wr.heap[w0.heap.size]? = some src
  r : wr.heap[w0.heap.size + 1]? = some (ouB 0 0 zC (.slice none 0 0) (.slice none 0 0) (.slice none 0 0) (.slice none 0 0))
  o : wr.heap[w0.heap.size + 1 + 1]? = some out
  b : Below w0.heap.size w0 wr
theorem SmF.z {w0 wr : World} {src out : Obj} (h : SmF w0 src wr out) : w0.heap.size + 3 ≤ wr.heap.size := (Array.getElem?_eq_some_iff.1 h.o).1
theorem SmF.keep {w0 wr w' : World} {src out : Obj} {B : Nat} (h : SmF w0 src wr out) (hb : Below B wr w') (hB : w0.heap.size + 3 ≤ B) : SmF w0 src w' out :=
  ⟨(hb.block _ (by omega)).trans h.s, (hb.block _ (by omega)).trans h.r, (hb.block _ (by omega)).trans h.o, h.b.trans (hb.mono (by omega))⟩
theorem SmF.set {w0 wr : World} {src out out' : Obj} {o : Nat} {u : Value} (h : SmF w0 src wr out) (ho : (wr.setCell ⟨w0.heap.size + 1 + 1, o, none⟩ u).heap[w0.heap.size + 1 + 1]? = some out') : SmF w0 src (wr.setCell ⟨w0.heap.size + 1 + 1, o, none⟩ u) out' :=
  ⟨by rw [heap_setCell_other _ _ _ _ (by simp <;> omega)]; exact h.s, by rw [heap_setCell_other _ _ _ _ (by simp <;> omega)]; exact h.r, ho, h.b.setCell (by simp; omega) _⟩
theorem SmF.other {w0 wr : World} {src out : Obj} {g o : Nat} {u : Value} (h : SmF w0 src wr out) (hg : w0.heap.size + 3 ≤ g) : SmF w0 src (wr.setCell ⟨g, o, none⟩ u) out := h.keep ((Below.refl _ _).setCell (by simp) _) hg
end Go.Proofs.Ytfmmfaeognoleaa
/-
  What the contract of the reference's Fit says.
-/
namespace Go.Proofs.Ytfmmfaeognoleaa
open Go.RowKit
attribute [local go_sem ↓] Go.wp_at_zero Go.wp_at_succ

theorem rmod_bel (n : Int) (b : Nat) (hn : I64 n) (hb : 0 < b) (hb2 : b ≤ 100000) (w : World) :
    Calls Try.prog 22 #[.int .i64 n, .int .i64 b] w fun e w' => e = .returned (.int .i64 (n % b)) ∧ Below w.heap.size w w' :=
  (rmod_any n b hn (by omega) (by omega) w).mono fun e w' h => ⟨h.1, by rw [← h.2]; exact Below.refl _ _⟩
theorem esP_at {α : Type} {E : Elem α} {w : World} {B g : Nat} {xs : List α} {p : Nat → Prop} (h : Es E w B (some ⟨g, 0, none⟩) xs) (hp : p g) : EsP E w p (some ⟨g, 0, none⟩) xs := fun hne => by
  obtain ⟨b, off, e, _, hc⟩ := h hne
  cases e
  exact ⟨_, _, rfl, hp, hc⟩
/-- A row of the call's own between two bounds, what its elements lead to as well. -/
structure OwnB {α β : Type} (E : Elem (Lo α)) (F : Elem β) (inn : α → List β) (w : World) (lo hi : Nat) (v : Value) (ls : List (Lo α)) : Prop where
  own : OwnE E w lo v ls
  blk : ∀ b, v.ownBlock = some b → b < hi
  els : ∀ l ∈ ls, EsP F w (fun b => lo ≤ b ∧ b < hi ∧ v.ownBlock ≠ some b) l.A (inn l.x)
  cap : ∀ l ∈ ls, (inn l.x).length ≤ l.c
section
variable {α β : Type} {E : Elem (Lo α)} {F : Elem β} {inn : α → List β} {w w' : World} {base lo hi : Nat} {v : Value} {ls : List (Lo α)}
theorem OwnN.lid (h : OwnN E F inn w base v ls) : OwnB E F inn w base w.heap.size v ls :=
  ⟨h.own, fun _ e => ownE_lt h.own e, fun l hl => (h.els l hl).imp fun _ hb hlt => ⟨hb.1, hlt, hb.2⟩, h.cap⟩
theorem OwnB.fx {B k : Nat} (h : OwnB E F inn w lo hi v ls) (hf : Fx B k w w') (hB : B ≤ lo) (hk : hi ≤ k) : OwnB E F inn w' lo hi v ls := by
  refine ⟨?_, h.blk, fun l hl => (h.els l hl).keep fun b hb _ => hf b (by omega) (by omega), h.cap⟩
  obtain ⟨hl, h2⟩ := h.own
  refine ⟨hl, ?_⟩
  rcases h2 with h2 | ⟨j, cap, cur, e, hj, hh, hr⟩
  · exact .inl h2
  · have hjh := h.blk j (by rw [e]; rfl)
    exact .inr ⟨j, cap, cur, e, hj, (hf j (by omega) (by omega)).trans hh, hr⟩
end
/-- The blocks of the scene that came in, of the answer, and of what is under way. -/
structure FtF (w0 : World) (src : Obj) (go : Nat) (wr : World) (out : Obj) : Prop where
  s : wr.heap[w0.heap.size]? = some src
  r : wr.heap[w0.heap.size + 1]? = some (ouB 0 0 zC (.slice none 0 0) (.slice none 0 0) (.slice none 0 0) (.slice none 0 0))
  o : wr.heap[go]? = some out
  b : Below w0.heap.size w0 wr
theorem FtF.z {w0 wr : World} {src out : Obj} {go : Nat} (h : FtF w0 src go wr out) : go < wr.heap.size := (Array.getElem?_eq_some_iff.1 h.o).1
theorem FtF.keep {w0 wr w' : World} {src out : Obj} {go B : Nat} (h : FtF w0 src go wr out) (hb : Below B wr w') (hB : go < B) (hg : w0.heap.size + 1 < go) : FtF w0 src go w' out :=
  ⟨(hb.block _ (by omega)).trans h.s, (hb.block _ (by omega)).trans h.r, (hb.block _ (by omega)).trans h.o, h.b.trans (hb.mono (by omega))⟩
theorem FtF.set {w0 wr : World} {src out out' : Obj} {go o : Nat} {u : Value} (h : FtF w0 src go wr out) (hg : w0.heap.size + 1 < go) (ho : (wr.setCell ⟨go, o, none⟩ u).heap[go]? = some out') : FtF w0 src go (wr.setCell ⟨go, o, none⟩ u) out' :=
  ⟨by rw [heap_setCell_other _ _ _ _ (by simp <;> omega)]; exact h.s, by rw [heap_setCell_other _ _ _ _ (by simp <;> omega)]; exact h.r, ho, h.b.setCell (by simp; omega) _⟩
theorem FtF.other {w0 wr : World} {src out : Obj} {go g o : Nat} {u : Value} (h : FtF w0 src go wr out) (hg : go < g) (hg2 : w0.heap.size + 1 < go) : FtF w0 src go (wr.setCell ⟨g, o, none⟩ u) out := h.keep ((Below.refl _ _).setCell (by simp) _) hg hg2
set_option maxRecDepth 100000 in
theorem dx_store {w : World} {g : Nat} {a0 a1 a2 a3 a4 : Value} (v0 v1 v2 v3 v4 : Value) (h : w.heap[g]? = some (.cells #[a0, a1, a2, a3, a4] 52 (0, 0))) :
    (((((w.setCell ⟨g, 0, none⟩ v0).setCell ⟨g, 1, none⟩ v1).setCell ⟨g, 2, none⟩ v2).setCell ⟨g, 3, none⟩ v3).setCell ⟨g, 4, none⟩ v4).heap[g]? = some (.cells #[v0, v1, v2, v3, v4] 52 (0, 0)) ∧ (∀ B w0, B ≤ g → Below B w0 w → Below B w0 (((((w.setCell ⟨g, 0, none⟩ v0).setCell ⟨g, 1, none⟩ v1).setCell ⟨g, 2, none⟩ v2).setCell ⟨g, 3, none⟩ v3).setCell ⟨g, 4, none⟩ v4)) :=
  ⟨Eq.trans (heap_setCell_same _ _ _ _ _ _ (heap_setCell_same _ _ _ _ _ _ (heap_setCell_same _ _ _ _ _ _ (heap_setCell_same _ _ _ _ _ _ (heap_setCell_same _ _ _ _ _ _ (h)))))) (by simp), fun B w0 hg hb => Below.setCell (Below.setCell (Below.setCell (Below.setCell (Below.setCell (hb) hg _) hg _) hg _) hg _) hg _⟩
set_option maxRecDepth 100000 in
theorem tv_store {w : World} {g : Nat} {a0 a1 a2 : Value} (v0 v1 v2 : Value) (h : w.heap[g]? = some (.cells #[a0, a1, a2] 72 (0, 0))) :
    (((w.setCell ⟨g, 0, none⟩ v0).setCell ⟨g, 1, none⟩ v1).setCell ⟨g, 2, none⟩ v2).heap[g]? = some (.cells #[v0, v1, v2] 72 (0, 0)) ∧ (∀ B w0, B ≤ g → Below B w0 w → Below B w0 (((w.setCell ⟨g, 0, none⟩ v0).setCell ⟨g, 1, none⟩ v1).setCell ⟨g, 2, none⟩ v2)) :=
  ⟨Eq.trans (heap_setCell_same _ _ _ _ _ _ (heap_setCell_same _ _ _ _ _ _ (heap_setCell_same _ _ _ _ _ _ (h)))) (by simp), fun B w0 hg hb => Below.setCell (Below.setCell (Below.setCell (hb) hg _) hg _) hg _⟩
/-- What Fit answers. -/
def Fits (s : Sc) (most verts draws tris : Nat) (w : World) (e : Ending) (w' : World) : Prop :=
  ∃ (x : Sc) (h1 h2 h3 : Nat), e = .returned (.agg #[.int .i64 x.w, .int .i64 x.h, .int .u8 x.k.r, .int .u8 x.k.g, .int .u8 x.k.b, .int .u8 x.k.a, .slice x.vA x.vs.length x.vc, .slice x.tA x.ts.length x.tc, .slice x.pA x.ps.length x.pc, .slice x.dA x.ds.length x.dc]) ∧ x.p = fitS s.p most verts draws tris ∧ w.heap.size ≤ h1 ∧ h1 ≤ h2 ∧ h2 ≤ h3 ∧ h3 ≤ w'.heap.size ∧
    OwnE EV w' w.heap.size (.slice x.vA x.vs.length x.vc) x.vs ∧ (∀ b, (Value.slice x.vA x.vs.length x.vc).ownBlock = some b → b < h1) ∧
    OwnB ET EC Tx.px w' h1 h2 (.slice x.tA x.ts.length x.tc) x.ts ∧ OwnB EP C.EI (fun l => l) w' h2 h3 (.slice x.pA x.ps.length x.pc) x.ps ∧ OwnB ED ER Dr.tris w' h3 w'.heap.size (.slice x.dA x.ds.length x.dc) x.ds ∧ Below w.heap.size w w'
end Go.Proofs.Ytfmmfaeognoleaa
