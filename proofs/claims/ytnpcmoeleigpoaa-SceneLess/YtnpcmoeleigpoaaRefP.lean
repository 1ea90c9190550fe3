/-
  Scenes that may not be, each for one reason (pure).
-/
import Derived.Test.YtnpcmoeleigpoaaLawP
namespace Go.Proofs.Ytnpcmoeleigpoaa

/-- The draw that SceneRefuses adds. -/
def d0 : Dr := ⟨9999, 0, -1, false, [⟨1, 0, 0, 0⟩]⟩
/-- What is known of a scene that Fit made for it. -/
structure PS.fit (p : PS) : Prop where
  c : check p = 0
  d : p.ds.length ≤ 6
  v : 1 ≤ p.vs.length ∧ p.vs.length ≤ 21
  t : p.ts.length ≤ 2
  q : 1 ≤ p.ps.length ∧ p.ps.length ≤ 4
  z : p.ps[0]? = some [C.mov]
  n : ∀ d ∈ p.ds, d.tris.length ≤ 10
theorem fitS_fit {p : PS} (hk : p.k.ok) : (fitS p 64 20 6 10).fit := by
  have h1 := fitVs_len (p := p) (verts := 20)
  have h2 := fitTs_len (p := p)
  have h3 := fitPr_len (p := p)
  refine ⟨fitS_check hk (by omega) (by omega) (by omega) (by omega) (by omega), ?_, ⟨h1.1, h1.2⟩, h2, h3, rfl, fun d hd => ?_⟩
  · show ((p.ds.take 6).mapIdx (fitDr (fitVs p 20).length (fitTs p).length (fitPr p).length 10)).length ≤ 6
    rw [List.length_mapIdx]
    exact take_le _ _
  · obtain ⟨i, u, hu, rfl⟩ := mapIdx_get (show d ∈ (p.ds.take 6).mapIdx (fitDr (fitVs p 20).length (fitTs p).length (fitPr p).length 10) from hd)
    show ((u.tris.take 10).mapIdx (fitTri (fitVs p 20).length)).length ≤ 10
    rw [List.length_mapIdx]
    exact take_le _ _
section
variable {p : PS}
theorem head_no {s : PS} {e : Int} (h : headE s = e) (he : e ≠ 0) : check s = e := by
  unfold check
  rw [if_neg (by rw [h]; exact he), h]
theorem ref0 (p : PS) (l : List Dr) : check ⟨p.w, 0, p.k, p.vs, p.ts, p.ps, l⟩ = 20 := by
  refine head_no ?_ (by omega)
  unfold headE
  have : (inB p.w 1 64 && inB 0 1 64) = false := by
    rw [show inB 0 1 64 = false by decide, Bool.and_false]
  exact if_pos this
theorem ref1 (h : p.head) (l : List Dr) : check ⟨p.w, p.h, ⟨2, 0, 0, 1⟩, p.vs, p.ts, p.ps, l⟩ = 1 := by
  refine head_no ?_ (by omega)
  unfold headE
  have h1 : ¬ (inB p.w 1 64 && inB p.h 1 64) = false := by rw [h.s]; simp
  exact (if_neg h1).trans (if_pos (show rightB ⟨2, 0, 0, 1⟩ = false by decide))
theorem ref2 (h : p.head) {l : List Dr} {d : Dr} (hd : d ∈ l) (hn : 32 < d.tris.length) : check (p.wd l) = 26 := by
  refine head_no ?_ (by omega)
  unfold headE
  have h1 : ¬ (inB p.w 1 64 && inB p.h 1 64) = false := by rw [h.s]; simp
  have h2 : ¬ rightB p.k = false := by rw [h.k]; simp
  have h3 : manyB (p.wd l) = true := by
    cases e : manyB (p.wd l)
    · have := (many_no.1 e).2.2 d hd
      omega
    · rfl
  exact (if_neg h1).trans ((if_neg h2).trans (if_pos h3))
theorem ref3 (h : p.head) {l : List Dr} {v : U.V} (hv : p.vs.length ≤ 63) (h8 : l.length ≤ 8) (h32 : ∀ d ∈ l, d.tris.length ≤ 32) (hb : U.rightB v = false) : check ⟨p.w, p.h, p.k, p.vs ++ [v], p.ts, p.ps, l⟩ = 21 := by
  refine head_no ?_ (by omega)
  unfold headE
  have h1 : ¬ (inB p.w 1 64 && inB p.h 1 64) = false := by rw [h.s]; simp
  have h2 : ¬ rightB p.k = false := by rw [h.k]; simp
  have h3 : ¬ manyB ⟨p.w, p.h, p.k, p.vs ++ [v], p.ts, p.ps, l⟩ = true := by
    rw [(many_no (p := ⟨p.w, p.h, p.k, p.vs ++ [v], p.ts, p.ps, l⟩)).2 ⟨⟨by show (p.vs ++ [v]).length ≤ 64; rw [List.length_append]; simp; omega, h.room.t, h.room.p⟩, h8, h32⟩]
    simp
  have h4 : (p.vs ++ [v]).all U.rightB = false := by
    rw [List.all_append]
    simp [hb]
  exact (if_neg h1).trans ((if_neg h2).trans ((if_neg h3).trans (if_pos h4)))
theorem ref4 (h : p.head) {l : List Dr} {t : Tx} (ht : p.ts.length ≤ 3) (h8 : l.length ≤ 8) (h32 : ∀ d ∈ l, d.tris.length ≤ 32) (hb : t.right = false) : check ⟨p.w, p.h, p.k, p.vs, p.ts ++ [t], p.ps, l⟩ = 22 := by
  refine head_no ?_ (by omega)
  unfold headE
  have h1 : ¬ (inB p.w 1 64 && inB p.h 1 64) = false := by rw [h.s]; simp
  have h2 : ¬ rightB p.k = false := by rw [h.k]; simp
  have h3 : ¬ manyB ⟨p.w, p.h, p.k, p.vs, p.ts ++ [t], p.ps, l⟩ = true := by
    rw [(many_no (p := ⟨p.w, p.h, p.k, p.vs, p.ts ++ [t], p.ps, l⟩)).2 ⟨⟨h.room.v, by show (p.ts ++ [t]).length ≤ 4; rw [List.length_append]; simp; omega, h.room.p⟩, h8, h32⟩]
    simp
  have h4 : ¬ p.vs.all U.rightB = false := by rw [h.v]; simp
  have h5 : (p.ts ++ [t]).all Tx.right = false := by
    rw [List.all_append]
    simp [hb]
  exact (if_neg h1).trans ((if_neg h2).trans ((if_neg h3).trans ((if_neg h4).trans (if_pos h5))))
theorem ref5 (h : p.head) {l : List Dr} (hp : 0 < p.ps.length) (h8 : l.length ≤ 8) (h32 : ∀ d ∈ l, d.tris.length ≤ 32) : check ⟨p.w, p.h, p.k, p.vs, p.ts, p.ps.set 0 [], l⟩ = 23 := by
  refine head_no ?_ (by omega)
  unfold headE
  have h1 : ¬ (inB p.w 1 64 && inB p.h 1 64) = false := by rw [h.s]; simp
  have h2 : ¬ rightB p.k = false := by rw [h.k]; simp
  have h3 : ¬ manyB ⟨p.w, p.h, p.k, p.vs, p.ts, p.ps.set 0 [], l⟩ = true := by
    rw [(many_no (p := ⟨p.w, p.h, p.k, p.vs, p.ts, p.ps.set 0 [], l⟩)).2 ⟨⟨h.room.v, h.room.t, by show (p.ps.set 0 []).length ≤ 4; rw [List.length_set]; exact h.room.p⟩, h8, h32⟩]
    simp
  have h4 : ¬ p.vs.all U.rightB = false := by rw [h.v]; simp
  have h5 : ¬ p.ts.all Tx.right = false := by rw [h.t]; simp
  have h6 : (p.ps.set 0 []).all (fun l => decide (C.chk l = 0)) = false := by
    rw [set_split hp, List.all_append, List.all_cons, show decide (C.chk [] = 0) = false by decide]
    simp
  exact (if_neg h1).trans ((if_neg h2).trans ((if_neg h3).trans ((if_neg h4).trans ((if_neg h5).trans (if_pos h6)))))
theorem ref_pts (h : p.fit) {d : Dr} (hn : d.tris.length ≤ 32) (hb : ptsB p d = false) : check (p.wd (p.ds ++ [d])) = 24 := by
  obtain ⟨a, b, c, e⟩ := check_ok.1 h.c
  have h6 := h.d
  refine check_bad a (by rw [List.length_append]; simp; omega) (fun x hx => ?_) c e ?_ (by omega)
  · rcases List.mem_append.1 hx with hx | hx
    · exact (c x hx).n
    · obtain rfl : x = d := by simpa using hx
      exact hn
  · unfold drawE
    exact if_pos hb
theorem fit_head (h : p.fit) : p.head := (check_ok.1 h.c).1
theorem fit_len (h : p.fit) {d : Dr} : (p.ds ++ [d]).length ≤ 8 := by
  have := h.d
  rw [List.length_append]
  simp
  omega
theorem fit_32 (h : p.fit) {d : Dr} (hd : d.tris.length ≤ 32) : ∀ x ∈ p.ds ++ [d], x.tris.length ≤ 32 := fun x hx => by
  rcases List.mem_append.1 hx with hx | hx
  · have := h.n x hx
    omega
  · obtain rfl : x = d := by simpa using hx
    exact hd
theorem out_b {n a b : Int} (h : b < n) : inB n a b = false := decide_eq_false (by omega)
theorem ref6 (h : p.fit) : check (p.wd (p.ds ++ [⟨9999, p.ps.length, -1, false, [⟨1, 0, 0, 0⟩]⟩])) = 24 := by
  refine ref_pts h (by simp) ?_
  unfold ptsB
  rw [out_b (n := ((p.ps.length : Nat) : Int)) (by omega)]
  simp
theorem ref7 (h : p.fit) : check (p.wd (p.ds ++ [⟨9999, 0, p.ts.length, false, [⟨1, 0, 0, 0⟩]⟩])) = 24 := by
  refine ref_pts h (by simp) ?_
  unfold ptsB
  have : texB p ⟨9999, 0, p.ts.length, false, [⟨1, 0, 0, 0⟩]⟩ = false := by
    unfold texB
    exact (if_neg (show ¬ ((p.ts.length : Nat) : Int) = -1 by omega)).trans (out_b (show ((p.ts.length : Nat) : Int) - 1 < ((p.ts.length : Nat) : Int) by omega))
  rw [this]
  simp
theorem ref8 (h : p.fit) : check (p.wd (p.ds ++ [⟨9999, 0, -1, false, [⟨1, 0, 0, p.vs.length⟩]⟩])) = 24 := by
  refine ref_pts h (by simp) ?_
  unfold ptsB
  have : ([(⟨1, 0, 0, p.vs.length⟩ : Tr)].all (triB p.vs.length)) = false := by
    rw [List.all_cons, List.all_nil, Bool.and_true]
    unfold triB
    simp only [List.all_cons, List.all_nil]
    rw [out_b (n := ((p.vs.length : Nat) : Int)) (by omega)]
    simp
  rw [this]
  simp
theorem ref9 (h : p.fit) : check (p.wd (p.ds ++ [⟨10000, 0, -1, false, [⟨1, 0, 0, 0⟩]⟩])) = 24 := by
  refine ref_pts h (by simp) ?_
  unfold ptsB
  rw [show inB 10000 0 9999 = false by decide]
  rfl
end
end Go.Proofs.Ytnpcmoeleigpoaa
