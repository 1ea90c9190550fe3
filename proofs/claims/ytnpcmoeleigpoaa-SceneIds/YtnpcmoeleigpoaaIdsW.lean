/-
  The walk of SceneIds.
-/
import Derived.Test.YtnpcmoeleigpoaaIdsP
import Derived.Test.YtnpcmoeleigpoaaShown
import Derived.Test.YtnpcmoeleigpoaaApp
namespace Go.Proofs.Ytnpcmoeleigpoaa
open Go.RowKit
attribute [local go_sem ↓] Go.wp_at_zero Go.wp_at_succ

/-- The scene of SceneIds: where its rows lie. -/
def idS (gv gp gi : Nat) (ls : List (Lo Dr)) (dA : Option Addr) (dc : Nat) : Sc :=
  ⟨1, 1, zC, [⟨0, 0, 0, 1, 0, 0, 0, 0⟩], some ⟨gv, 0, none⟩, 1, [], none, 0, [⟨[⟨1, 0, 0, 0, 0⟩], some ⟨gi, 0, none⟩, 1⟩], some ⟨gp, 0, none⟩, 1, ls, dA, dc⟩
theorem idS_p (gv gp gi : Nat) (ls : List (Lo Dr)) (dA : Option Addr) (dc : Nat) : (idS gv gp gi ls dA dc).p = idP (ls.map Lo.x) := rfl
/-- What of it lies ahead of its draws. -/
structure IdF (gv gp gi : Nat) (w : World) : Prop where
  v : w.heap[gv]? = some (.cells #[.int .i64 0, .int .i64 0, .int .i64 0, .int .i64 1, .int .i64 0, .int .i64 0, .int .i64 0, .int .i64 0] 50 (0, 0))
  p : w.heap[gp]? = some (.cells #[.slice (some ⟨gi, 0, none⟩) 1 1] 54 (0, 0))
  i : w.heap[gi]? = some (.cells #[.int .u8 1, .int .u8 0, .int .u8 0, .int .u8 0, .int .i64 0] 57 (0, 0))
theorem IdF.keep {gv gp gi B : Nat} {w w' : World} (h : IdF gv gp gi w) (hb : Below B w w') (h1 : gv < B) (h2 : gp < B) (h3 : gi < B) : IdF gv gp gi w' :=
  ⟨(hb.block _ h1).trans h.v, (hb.block _ h2).trans h.p, (hb.block _ h3).trans h.i⟩
theorem idS_at {gv gp gi dc : Nat} {ls : List (Lo Dr)} {dA : Option Addr} {w : World} (h : IdF gv gp gi w) (hd : Es ED w w.heap.size dA ls) (hx : ∀ l ∈ ls, Es ER w w.heap.size l.A l.x.tris) : (idS gv gp gi ls dA dc).at w w.heap.size :=
  ⟨es_one (E := EV) (x := ⟨0, 0, 0, 1, 0, 0, 0, 0⟩) rfl h.v, Es.none_, fun l hl => (by cases hl), es_one (E := EP) (x := ⟨[⟨1, 0, 0, 0, 0⟩], some ⟨gi, 0, none⟩, 1⟩) rfl h.p, fun l hl => by
    have hl : l ∈ [(⟨[⟨1, 0, 0, 0, 0⟩], some ⟨gi, 0, none⟩, 1⟩ : Lo (List C.In))] := hl
    obtain rfl : l = ⟨[⟨1, 0, 0, 0, 0⟩], some ⟨gi, 0, none⟩, 1⟩ := by simpa using hl
    exact es_one (E := C.EI) (x := ⟨1, 0, 0, 0, 0⟩) rfl h.i, hd, hx⟩
theorem idT_ok {i j : Int} (hi : I64 i) (hj : I64 j) : ∀ t ∈ idT i j, t.ok := by
  intro t ht
  unfold idT at ht
  simp only [List.mem_cons, List.not_mem_nil, or_false] at ht
  have z : I64 0 := by unfold I64; omega
  rcases ht with rfl | rfl
  · exact ⟨hi, z, z, z⟩
  · exact ⟨hj, z, z, z⟩
theorem idD_ok {id i j : Int} (h : I64 id) (hi : I64 i) (hj : I64 j) : (idD id i j).ok := ⟨h, by unfold I64 idD; dsimp only; omega, by unfold I64 idD; dsimp only; omega, idT_ok hi hj⟩
theorem idS_ok {gv gp gi dc : Nat} {ls : List (Lo Dr)} {dA : Option Addr} (hl : ∀ l ∈ ls, l.x.ok ∧ l.x.tris.length ≤ l.c) (hc : ls.length ≤ dc) : (idS gv gp gi ls dA dc).ok := by
  refine ⟨by unfold I64 idS; dsimp only; omega, by unfold I64 idS; dsimp only; omega, zC_ok, fun v hv => ?_, fun l hl => (by cases hl), fun l hl => ?_, hl, Nat.le_refl _, Nat.le_refl _, Nat.le_refl _, hc⟩
  · have hv : v ∈ [(⟨0, 0, 0, 1, 0, 0, 0, 0⟩ : U.V)] := hv
    obtain rfl : v = ⟨0, 0, 0, 1, 0, 0, 0, 0⟩ := by simpa using hv
    constructor <;> dsimp only <;> omega
  · have hl : l ∈ [(⟨[⟨1, 0, 0, 0, 0⟩], some ⟨gi, 0, none⟩, 1⟩ : Lo (List C.In))] := hl
    obtain rfl : l = ⟨[⟨1, 0, 0, 0, 0⟩], some ⟨gi, 0, none⟩, 1⟩ := by simpa using hl
    refine ⟨fun x hx => ?_, Nat.le_refl _⟩
    obtain rfl : x = ⟨1, 0, 0, 0, 0⟩ := by simpa using hx
    constructor <;> dsimp only <;> omega
theorem idS_few {gv gp gi dc : Nat} {ls : List (Lo Dr)} {dA : Option Addr} (hl : ∀ l ∈ ls, l.x.tris.length ≤ 1000) (hc : ls.length ≤ 1000) : (idS gv gp gi ls dA dc).few := by
  refine ⟨by show 1 ≤ 1000; omega, by show 0 ≤ 1000; omega, fun l hl => (by cases hl), by show 1 ≤ 1000; omega, fun l hl => ?_, hc, hl⟩
  have hl : l ∈ [(⟨[⟨1, 0, 0, 0, 0⟩], some ⟨gi, 0, none⟩, 1⟩ : Lo (List C.In))] := hl
  obtain rfl : l = ⟨[⟨1, 0, 0, 0, 0⟩], some ⟨gi, 0, none⟩, 1⟩ := by simpa using hl
  show 1 ≤ 1000
  omega
theorem idS_three {gv gp gi gd dc m base : Nat} {ls : List (Lo Dr)} {L : List Dr} {W : World} (h : IdF gv gp gi W) (ho : OwnN ED ER Dr.tris W base (.slice (some ⟨gd, 0, none⟩) m dc) ls) (hx : ls.map Lo.x = L) (hok : ∀ d ∈ L, d.ok) (h2 : ∀ d ∈ L, d.tris.length ≤ 1000) (hm : m ≤ 8) :
    ls.length = m ∧ (idS gv gp gi ls (some ⟨gd, 0, none⟩) dc).at W W.heap.size ∧ (idS gv gp gi ls (some ⟨gd, 0, none⟩) dc).ok ∧ (idS gv gp gi ls (some ⟨gd, 0, none⟩) dc).few := by
  obtain ⟨e1, e2, e3⟩ := ownE_es ho.own
  have hl : ∀ l ∈ ls, l.x ∈ L := fun l hl => by rw [← hx]; exact List.mem_map.2 ⟨l, hl, rfl⟩
  exact ⟨e1.symm, idS_at h e3 ho.es, idS_ok (fun l q => ⟨hok _ (hl l q), ho.cap l q⟩) e2, idS_few (fun l q => h2 _ (hl l q)) (by omega)⟩
theorem ids_check {gv gp gi gd dc m base : Nat} {ls : List (Lo Dr)} {L : List Dr} {W : World} (h : IdF gv gp gi W) (ho : OwnN ED ER Dr.tris W base (.slice (some ⟨gd, 0, none⟩) m dc) ls) (hx : ls.map Lo.x = L) (hok : ∀ d ∈ L, d.ok) (h2 : ∀ d ∈ L, d.tris.length ≤ 1000) (hm : m ≤ 8) :
    Calls Try.prog 12 #[.agg #[.int .i64 1, .int .i64 1, .int .u8 0, .int .u8 0, .int .u8 0, .int .u8 0, .slice (some ⟨gv, 0, none⟩) 1 1, .slice none 0 0, .slice (some ⟨gp, 0, none⟩) 1 1, .slice (some ⟨gd, 0, none⟩) m dc]] W fun e w' => e = .returned (.int .i64 (check (idP L))) ∧ Below W.heap.size W w' := by
  obtain ⟨e1, e2, e3, e4⟩ := idS_three h ho hx hok h2 hm
  have h := check_scene (idS gv gp gi ls (some ⟨gd, 0, none⟩) dc) W e2 e3 e4
  rw [idS_p, hx] at h
  rw [← e1]
  exact h
theorem ids_count {gv gp gi gd dc m base : Nat} {ls : List (Lo Dr)} {L : List Dr} {W : World} (h : IdF gv gp gi W) (ho : OwnN ED ER Dr.tris W base (.slice (some ⟨gd, 0, none⟩) m dc) ls) (hx : ls.map Lo.x = L) (hok : ∀ d ∈ L, d.ok) (h2 : ∀ d ∈ L, d.tris.length ≤ 1000) (hm : m ≤ 8) :
    Calls Try.prog 14 #[.agg #[.int .i64 1, .int .i64 1, .int .u8 0, .int .u8 0, .int .u8 0, .int .u8 0, .slice (some ⟨gv, 0, none⟩) 1 1, .slice none 0 0, .slice (some ⟨gp, 0, none⟩) 1 1, .slice (some ⟨gd, 0, none⟩) m dc]] W fun e w' => e = .returned (.int .i64 (count (idP L))) ∧ Below W.heap.size W w' := by
  obtain ⟨e1, e2, e3, e4⟩ := idS_three h ho hx hok h2 hm
  have h := count_any (idS gv gp gi ls (some ⟨gd, 0, none⟩) dc) e4 W e2.d
  rw [idS_p, hx] at h
  rw [← e1]
  exact h
/-- The first draw's id written over; the row of triangles that it leads to stays. -/
theorem OwnN.id0 {gd m dc base : Nat} {ls : List (Lo Dr)} {L : List Dr} {W : World} {d : Dr} {id : Int} (ho : OwnN ED ER Dr.tris W base (.slice (some ⟨gd, 0, none⟩) m dc) ls) (hx : ls.map Lo.x = L) (hd : L[0]? = some d) :
    ∃ ls', OwnN ED ER Dr.tris (W.setCell ⟨gd, 0, none⟩ (.int .i64 id)) base (.slice (some ⟨gd, 0, none⟩) m dc) ls' ∧ ls'.map Lo.x = L.set 0 { d with id := id } ∧ (ls'[0]?).map Lo.A = (ls[0]?).map Lo.A := by
  subst hx
  rw [List.getElem?_map] at hd
  obtain ⟨u, hu, rfl⟩ : ∃ u, ls[0]? = some u ∧ u.x = d := by
    cases e : ls[0]? with
    | none => rw [e] at hd; cases hd
    | some u => rw [e] at hd; exact ⟨u, rfl, by simpa using hd⟩
  refine ⟨ls.set 0 ⟨{ u.x with id := id }, u.A, u.c⟩, ⟨?_, fun l hl => ?_, fun l hl => ?_⟩, by rw [List.map_set], ?_⟩
  · have := ownE_set ho.own (k := 0) (r := 0) (u' := ⟨{ u.x with id := id }, u.A, u.c⟩) (x := .int .i64 id) hu (by decide) rfl
    simpa using this
  · have : EsP ER W (fun b => base ≤ b ∧ Value.ownBlock (.slice (some ⟨gd, 0, none⟩) m dc) ≠ some b) l.A l.x.tris := by
      rcases List.mem_or_eq_of_mem_set hl with hl | rfl
      · exact ho.els l hl
      · exact ho.els u (List.mem_of_getElem? hu)
    exact this.keep fun b hb _ => heap_setCell_other _ _ _ _ (by have := hb.2; simp [Value.ownBlock] at this; simpa using fun e => this e.symm)
  · rcases List.mem_or_eq_of_mem_set hl with hl | rfl
    · exact ho.cap l hl
    · exact ho.cap u (List.mem_of_getElem? hu)
  · rw [List.getElem?_set_self (by have := (List.getElem?_eq_some_iff.1 hu).1; exact this), hu]
    rfl
def idB (j : Int) : Obj := .cells #[.int .i64 7, .int .i64 0, .int .i64 0, .int .i64 0, .int .i64 j, .int .i64 0, .int .i64 0, .int .i64 0] 47 (0, 0)
theorem es_idB {w : World} {g : Nat} {j : Int} (h : w.heap[g]? = some (idB j)) : EsP ER w (fun b => b = g) (some ⟨g, 0, none⟩) (idT 7 j) := fun _ => by
  refine ⟨g, 0, rfl, rfl, fun k u hk => ?_⟩
  have hc := fun (i : Nat) => cell_of_row w g i _ 47 (0, 0) (show w.heap[g]? = some (.cells #[.int .i64 7, .int .i64 0, .int .i64 0, .int .i64 0, .int .i64 j, .int .i64 0, .int .i64 0, .int .i64 0] 47 (0, 0)) from h)
  rcases (show k = 0 ∨ k = 1 ∨ 2 ≤ k by omega) with rfl | rfl | h2
  · obtain rfl : (⟨7, 0, 0, 0⟩ : Tr) = u := by simpa [idT] using hk
    intro i y hy
    rw [hc]
    rcases (show i = 0 ∨ i = 1 ∨ i = 2 ∨ i = 3 ∨ 4 ≤ i by omega) with rfl | rfl | rfl | rfl | h4
    · exact hy
    · exact hy
    · exact hy
    · exact hy
    · rw [List.getElem?_eq_none (by simp [ER]; omega)] at hy; cases hy
  · obtain rfl : (⟨j, 0, 0, 0⟩ : Tr) = u := by simpa [idT] using hk
    intro i y hy
    rw [hc]
    rcases (show i = 0 ∨ i = 1 ∨ i = 2 ∨ i = 3 ∨ 4 ≤ i by omega) with rfl | rfl | rfl | rfl | h4
    · exact hy
    · exact hy
    · exact hy
    · exact hy
    · rw [List.getElem?_eq_none (by simp [ER]; omega)] at hy; cases hy
  · rw [List.getElem?_eq_none (by simp [idT]; omega)] at hk; cases hk
theorem idB_not {w : World} {b0 off i : Nat} (hi : 1 ≤ i) (hb : w.heap[b0]? = some (idB 8)) (h : AtE ER w b0 (off + 1 * ER.size) ⟨i + 8, 0, 0, 0⟩) : False := by
  have h0 := (atR h).1
  rw [cell_of_row w b0 _ _ 47 (0, 0) (show w.heap[b0]? = some (.cells #[.int .i64 7, .int .i64 0, .int .i64 0, .int .i64 0, .int .i64 8, .int .i64 0, .int .i64 0, .int .i64 0] 47 (0, 0)) from hb)] at h0
  generalize off + 1 * ER.size = k at h0
  rcases (show k = 0 ∨ k = 1 ∨ k = 2 ∨ k = 3 ∨ k = 4 ∨ k = 5 ∨ k = 6 ∨ k = 7 ∨ 8 ≤ k by omega) with rfl | rfl | rfl | rfl | rfl | rfl | rfl | rfl | h8
  case inr.inr.inr.inr.inr.inr.inr.inr => rw [Array.getElem?_eq_none (by simpa using h8)] at h0; cases h0
  all_goals
    simp at h0
    omega
/-- The last number of the first draw's row written over. -/
theorem OwnN.tri0 {gd m dc base b0 : Nat} {ls : List (Lo Dr)} {W : World} {b : Int} (hm : 0 < m) (ho : OwnN ED ER Dr.tris W base (.slice (some ⟨gd, 0, none⟩) m dc) ls) (hx : ls.map Lo.x = idL m) (hA : (ls[0]?).map Lo.A = some (some ⟨b0, 0, none⟩)) (hbb : base ≤ b0) (hne : gd ≠ b0) (hB : W.heap[b0]? = some (idB 8)) :
    ∃ ls', OwnN ED ER Dr.tris (W.setCell ⟨b0, 4, none⟩ (.int .i64 b)) base (.slice (some ⟨gd, 0, none⟩) m dc) ls' ∧ ls'.map Lo.x = idF m (idD 0 7 b) := by
  have hW : (W.setCell ⟨b0, 4, none⟩ (.int .i64 b)).heap[b0]? = some (idB b) := by
    unfold idB at hB ⊢
    rw [heap_setCell_same _ _ _ _ _ _ hB]
    simp
  cases hl0 : ls[0]? with
  | none => rw [hl0] at hA; cases hA
  | some u =>
    rw [hl0] at hA
    have hA : u.A = some ⟨b0, 0, none⟩ := by simpa using hA
    have hu : u.x = idN 0 := by
      have := congrArg (fun l => l[0]?) hx
      simp only [List.getElem?_map, hl0, idL_get hm] at this
      simpa using this
    have hown : OwnE ED (W.setCell ⟨b0, 4, none⟩ (.int .i64 b)) base (.slice (some ⟨gd, 0, none⟩) m dc) ls := by
      obtain ⟨h1, ⟨h0, _⟩ | ⟨g', cap, cur, e', hg, hh, hr⟩⟩ := ho.own
      · cases h0
      · cases e'
        exact ⟨h1, .inr ⟨gd, dc, cur, rfl, hg, by rw [heap_setCell_other _ _ _ _ (by simpa using hne)]; exact hh, hr⟩⟩
    have hrow : OwnE ED (W.setCell ⟨b0, 4, none⟩ (.int .i64 b)) base (.slice (some ⟨gd, 0, none⟩) m dc) (ls.set 0 ⟨idD 0 7 b, u.A, u.c⟩) := by
      unfold OwnE at hown ⊢
      have e : ED.flat (ls.set 0 ⟨idD 0 7 b, u.A, u.c⟩) = ED.flat ls := by
        cases ls with
        | nil => cases hl0
        | cons x l =>
          obtain rfl : x = u := by simpa using hl0
          show ED.cells _ ++ ED.flat l = ED.cells x ++ ED.flat l
          congr 1
          show [Value.int .i64 0, .int .i64 0, .int .i64 (-1), .bool false, .slice x.A 2 x.c] = [.int .i64 x.x.id, .int .i64 x.x.prog, .int .i64 x.x.tex, .bool x.x.op, .slice x.A x.x.tris.length x.c]
          rw [hu]
          rfl
      rw [e, List.length_set]
      exact hown
    refine ⟨ls.set 0 ⟨idD 0 7 b, u.A, u.c⟩, ⟨hrow, fun l hl => ?_, fun l hl => ?_⟩, ?_⟩
    · obtain ⟨k, hk⟩ := List.mem_iff_getElem?.1 hl
      rw [List.getElem?_set] at hk
      split at hk
      · rename_i e
        subst e
        split at hk
        · cases hk
          show EsP ER _ _ u.A (idT 7 b)
          rw [hA]
          refine (es_idB hW).imp fun x hx _ => ?_
          subst hx
          exact ⟨hbb, by simpa [Value.ownBlock] using hne⟩
        · cases hk
      · rename_i hk0
        have hlx : l.x = idN k := by
          have hkm : k < m := by
            have h1 := (List.getElem?_eq_some_iff.1 hk).1
            have h2 := congrArg List.length hx
            rw [List.length_map, idL_len] at h2
            omega
          have := congrArg (fun l => l[k]?) hx
          simp only [List.getElem?_map, hk, idL_get hkm] at this
          simpa using this
        have h1 := ho.els l (List.mem_of_getElem? hk)
        intro hne2
        obtain ⟨bb, off, e1, e2, e3⟩ := h1 hne2
        have hbb0 : bb ≠ b0 := by
          intro e
          subst e
          have := e3 1 ⟨k + 8, 0, 0, 0⟩ (by rw [hlx]; rfl)
          exact idB_not (by omega) hB this
        exact ⟨bb, off, e1, e2, fun j x hj => (e3 j x hj).same (heap_setCell_other _ _ _ _ (by simpa using hbb0))⟩
    · rcases List.mem_or_eq_of_mem_set hl with hl | rfl
      · exact ho.cap l hl
      · have := ho.cap u (List.mem_of_getElem? hl0)
        rw [hu] at this
        exact this
    · rw [List.map_set, hx]
      rfl
set_option maxRecDepth 100000 in
set_option maxHeartbeats 8000000 in
theorem ids_walk (a b n : Int) (ha : I64 a) (hb : I64 b) (hn : 0 ≤ n ∧ n ≤ 255) (w : World) :
    Calls Try.prog 8 #[.agg #[.int .i64 a, .int .i64 b], .int .u8 n] w fun e w' => e = .returned (.bool true) ∧ Below w.heap.size w w' := by
  obtain ⟨R⟩ := rowD
  obtain ⟨m, hm⟩ : ∃ m : Nat, 1 + n % 8 = m := ⟨(1 + n % 8).toNat, by omega⟩
  have hm0 : 0 < m := by omega
  have hm8 : m ≤ 8 := by omega
  have HM := Lib.hid hm
  have HAB := Lib.hid (And.intro ha hb)
  clear hm ha hb
  obtain ⟨n0, n1⟩ := hn
  go_enter Try.func8, Try.ntmps8
  go_wp2_with fail
  with_reducible refine (shown_any _).mono ?_
  rintro e w1 ⟨rfl, hb⟩
  have B1 := Lib.hid (bstep (new_below w (.cells #[.int .i64 a, .int .i64 b] 43)) (by simp) hb)
  have D1 := Lib.hid (show w1.heap[w.heap.size]? = some (.cells #[.int .i64 a, .int .i64 b] 43 (0, 0)) from (hb.block _ (by simp)).trans (heap_alloc_new _ _))
  clear hb
  go_wp2_with fail
  rw [HM.out]
  have B4 : Below w1.heap.size w1 ((((w1.alloc (.cells #[.int .i64 0, .int .i64 0, .int .i64 0, .int .i64 1, .int .i64 0, .int .i64 0, .int .i64 0, .int .i64 0] 50)).alloc (.cells #[.int .u8 1, .int .u8 0, .int .u8 0, .int .u8 0, .int .i64 0] 57)).alloc (.cells #[.slice (some ⟨w1.heap.size + 1, 0, none⟩) 1 1] 54)).alloc (.cells #[.int .i64 1, .int .i64 1, .int .u8 0, .int .u8 0, .int .u8 0, .int .u8 0, .slice (some ⟨w1.heap.size, 0, none⟩) 1 1, .slice none 0 0, .slice (some ⟨w1.heap.size + 1 + 1, 0, none⟩) 1 1, .slice none 0 0] 29)) := by
    repeat (first | exact Below.refl _ _ | refine Below.alloc ?_ (by simp <;> omega) _)
  have F4 : IdF (w1.heap.size) (w1.heap.size + 1 + 1) (w1.heap.size + 1) ((((w1.alloc (.cells #[.int .i64 0, .int .i64 0, .int .i64 0, .int .i64 1, .int .i64 0, .int .i64 0, .int .i64 0, .int .i64 0] 50)).alloc (.cells #[.int .u8 1, .int .u8 0, .int .u8 0, .int .u8 0, .int .i64 0] 57)).alloc (.cells #[.slice (some ⟨w1.heap.size + 1, 0, none⟩) 1 1] 54)).alloc (.cells #[.int .i64 1, .int .i64 1, .int .u8 0, .int .u8 0, .int .u8 0, .int .u8 0, .slice (some ⟨w1.heap.size, 0, none⟩) 1 1, .slice none 0 0, .slice (some ⟨w1.heap.size + 1 + 1, 0, none⟩) 1 1, .slice none 0 0] 29)) := by
    refine ⟨?_, ?_, ?_⟩
    · rw [Below.heap_alloc _ _ _ (by simp <;> omega), Below.heap_alloc _ _ _ (by simp <;> omega), Below.heap_alloc _ _ _ (by simp)]
      exact heap_alloc_new _ _
    · rw [Below.heap_alloc _ _ _ (by simp)]
      have h := heap_alloc_new (((w1.alloc (.cells #[.int .i64 0, .int .i64 0, .int .i64 0, .int .i64 1, .int .i64 0, .int .i64 0, .int .i64 0, .int .i64 0] 50)).alloc (.cells #[.int .u8 1, .int .u8 0, .int .u8 0, .int .u8 0, .int .i64 0] 57))) (.cells #[.slice (some ⟨w1.heap.size + 1, 0, none⟩) 1 1] 54)
      simp only [World.size_alloc] at h
      exact h
    · rw [Below.heap_alloc _ _ _ (by simp <;> omega), Below.heap_alloc _ _ _ (by simp)]
      have h := heap_alloc_new ((w1.alloc (.cells #[.int .i64 0, .int .i64 0, .int .i64 0, .int .i64 1, .int .i64 0, .int .i64 0, .int .i64 0, .int .i64 0] 50))) (.cells #[.int .u8 1, .int .u8 0, .int .u8 0, .int .u8 0, .int .i64 0] 57)
      simp only [World.size_alloc] at h
      exact h
  have O4 : ((((w1.alloc (.cells #[.int .i64 0, .int .i64 0, .int .i64 0, .int .i64 1, .int .i64 0, .int .i64 0, .int .i64 0, .int .i64 0] 50)).alloc (.cells #[.int .u8 1, .int .u8 0, .int .u8 0, .int .u8 0, .int .i64 0] 57)).alloc (.cells #[.slice (some ⟨w1.heap.size + 1, 0, none⟩) 1 1] 54)).alloc (.cells #[.int .i64 1, .int .i64 1, .int .u8 0, .int .u8 0, .int .u8 0, .int .u8 0, .slice (some ⟨w1.heap.size, 0, none⟩) 1 1, .slice none 0 0, .slice (some ⟨w1.heap.size + 1 + 1, 0, none⟩) 1 1, .slice none 0 0] 29)).heap[w1.heap.size + 1 + 1 + 1]? = some (ouB 1 1 zC (.slice (some ⟨w1.heap.size, 0, none⟩) 1 1) (.slice none 0 0) (.slice (some ⟨w1.heap.size + 1 + 1, 0, none⟩) 1 1) (.slice none 0 0)) := by
    have h := heap_alloc_new ((((w1.alloc (.cells #[.int .i64 0, .int .i64 0, .int .i64 0, .int .i64 1, .int .i64 0, .int .i64 0, .int .i64 0, .int .i64 0] 50)).alloc (.cells #[.int .u8 1, .int .u8 0, .int .u8 0, .int .u8 0, .int .i64 0] 57)).alloc (.cells #[.slice (some ⟨w1.heap.size + 1, 0, none⟩) 1 1] 54))) (.cells #[.int .i64 1, .int .i64 1, .int .u8 0, .int .u8 0, .int .u8 0, .int .u8 0, .slice (some ⟨w1.heap.size, 0, none⟩) 1 1, .slice none 0 0, .slice (some ⟨w1.heap.size + 1 + 1, 0, none⟩) 1 1, .slice none 0 0] 29)
    simp only [World.size_alloc] at h
    exact h
  have S4 : ((((w1.alloc (.cells #[.int .i64 0, .int .i64 0, .int .i64 0, .int .i64 1, .int .i64 0, .int .i64 0, .int .i64 0, .int .i64 0] 50)).alloc (.cells #[.int .u8 1, .int .u8 0, .int .u8 0, .int .u8 0, .int .i64 0] 57)).alloc (.cells #[.slice (some ⟨w1.heap.size + 1, 0, none⟩) 1 1] 54)).alloc (.cells #[.int .i64 1, .int .i64 1, .int .u8 0, .int .u8 0, .int .u8 0, .int .u8 0, .slice (some ⟨w1.heap.size, 0, none⟩) 1 1, .slice none 0 0, .slice (some ⟨w1.heap.size + 1 + 1, 0, none⟩) 1 1, .slice none 0 0] 29)).heap.size = w1.heap.size + 4 := by simp
  generalize ((((w1.alloc (.cells #[.int .i64 0, .int .i64 0, .int .i64 0, .int .i64 1, .int .i64 0, .int .i64 0, .int .i64 0, .int .i64 0] 50)).alloc (.cells #[.int .u8 1, .int .u8 0, .int .u8 0, .int .u8 0, .int .i64 0] 57)).alloc (.cells #[.slice (some ⟨w1.heap.size + 1, 0, none⟩) 1 1] 54)).alloc (.cells #[.int .i64 1, .int .i64 1, .int .u8 0, .int .u8 0, .int .u8 0, .int .u8 0, .slice (some ⟨w1.heap.size, 0, none⟩) 1 1, .slice none 0 0, .slice (some ⟨w1.heap.size + 1 + 1, 0, none⟩) 1 1, .slice none 0 0] 29)) = X at *
  have hd0 : w.heap.size < w1.heap.size := (Array.getElem?_eq_some_iff.1 D1.out).1
  have BX := Lib.hid (bstep B1.out B1.out.size B4)
  have DX := Lib.hid ((B4.block _ hd0).trans D1.out)
  have FX := Lib.hid F4
  have OX := Lib.hid O4
  clear F4 O4 B4 D1 B1
  go_loopw [8] (fun i wr => ∃ (j : Nat) (v : Value) (ls : List (Lo Dr)), j ≤ m ∧ i = .int .i64 j ∧ ls.map Lo.x = idL j ∧ OwnN ED ER Dr.tris wr (w1.heap.size + 4) v ls ∧ (∀ l, ls[0]? = some l → ∃ b0, l.A = some ⟨b0, 0, none⟩ ∧ (w1.heap.size + 4) ≤ b0 ∧ v.ownBlock ≠ some b0 ∧ wr.heap[b0]? = some (idB 8)) ∧ Below w.heap.size w wr ∧ X.heap.size ≤ wr.heap.size ∧ IdF (w1.heap.size) (w1.heap.size + 1 + 1) (w1.heap.size + 1) wr ∧ wr.heap[w1.heap.size + 1 + 1 + 1]? = some (ouB 1 1 zC (.slice (some ⟨w1.heap.size, 0, none⟩) 1 1) (.slice none 0 0) (.slice (some ⟨w1.heap.size + 1 + 1, 0, none⟩) 1 1) v) ∧ wr.heap[w.heap.size]? = some (.cells #[.int .i64 a, .int .i64 b] 43 (0, 0))) (fun i _ => m - (intOf i).toNat)
  case atStart => exact ⟨0, _, [], Nat.zero_le _, rfl, rfl, OwnN.nil _ _, fun l hl => (by cases hl), BX.out, Nat.le_refl _, FX.out, OX.out, DX.out⟩
  case round =>
    obtain ⟨j, v, ls, hj, rfl, hx, ho, hz, hb, hs, hF, hO, hD⟩ := hrel
    have HB := Lib.hid hb
    have HX := Lib.hid hx
    have HN := Lib.hid ho
    have HZ := Lib.hid hz
    have HF := Lib.hid hF
    have HO := Lib.hid hO
    have HD := Lib.hid hD
    have hll : ls.length = j := by have := congrArg List.length hx; rwa [List.length_map, idL_len] at this
    obtain ⟨q0, q1, q2, q3, q4, q5, q6, q7, q8, q9⟩ := ouB_cell hO
    change _ = some (Value.int .u8 0) at q2 q3 q4 q5
    have q10 := ouB_free hO 9
    have hgw := ouB_lt hO
    have hdw : w.heap.size < wr.heap.size := (Array.getElem?_eq_some_iff.1 hD).1
    have hbase : w1.heap.size + 4 ≤ wr.heap.size := by omega
    clear hb hx ho hz hF hO hD
    by_cases hlt : j < m
    · replace hll := Lib.hid hll
      have hw8 : IntKind.i64.wrap ((j : Int) + 8) = j + 8 := by rw [IntKind.wrap_i64]; omega
      have OT := Lib.hid (show ((wr.alloc (.cells #[.int .i64 7, .int .i64 0, .int .i64 0, .int .i64 0, .int .i64 (j + 8), .int .i64 0, .int .i64 0, .int .i64 0] 47)).alloc (.cells #[.int .i64 j, .int .i64 0, .int .i64 (-1), .bool false, .slice (some ⟨wr.heap.size, 0, none⟩) 2 2] 42)).heap[wr.heap.size]? = some (idB (j + 8)) from new_at20 _ _ _)
      have ON := Lib.hid ((HN.out.own.alloc (.cells #[.int .i64 7, .int .i64 0, .int .i64 0, .int .i64 0, .int .i64 (j + 8), .int .i64 0, .int .i64 0, .int .i64 0] 47)).alloc (.cells #[.int .i64 j, .int .i64 0, .int .i64 (-1), .bool false, .slice (some ⟨wr.heap.size, 0, none⟩) 2 2] 42))
      have OE := Lib.hid (es_one (E := ED) (x := ⟨idN j, some ⟨wr.heap.size, 0, none⟩, 2⟩) (cs := #[.int .i64 j, .int .i64 0, .int .i64 (-1), .bool false, .slice (some ⟨wr.heap.size, 0, none⟩) 2 2]) rfl (new_at2 wr (.cells #[.int .i64 7, .int .i64 0, .int .i64 0, .int .i64 0, .int .i64 (j + 8), .int .i64 0, .int .i64 0, .int .i64 0] 47) (.cells #[.int .i64 j, .int .i64 0, .int .i64 (-1), .bool false, .slice (some ⟨wr.heap.size, 0, none⟩) 2 2] 42)))
      have OB := Lib.hid ((new_below wr (.cells #[.int .i64 7, .int .i64 0, .int .i64 0, .int .i64 0, .int .i64 (j + 8), .int .i64 0, .int .i64 0, .int .i64 0] 47)).alloc (by simp) (.cells #[.int .i64 j, .int .i64 0, .int .i64 (-1), .bool false, .slice (some ⟨wr.heap.size, 0, none⟩) 2 2] 42))
      go_wp2_with (at_builtin; refine wpList_append_es rfl R _ _ 1 rfl rfl rfl ON.out OE.out (by have := hll.out; omega) (by simp) (by simp; omega) ?_; intro v' w4 h1 h2 h3; obtain ⟨g', cap', rfl⟩ := ownsRow_succ h1; obtain ⟨hN4, hB4⟩ := HN.out.app OB.out hbase h1 h2 h3 (by
        refine ((es_idB OT.out).imp fun x hx _ => ?_ : EsP ER _ _ (some ⟨wr.heap.size, 0, none⟩) (idT 7 (j + 8)))
        subst hx
        exact ⟨hbase, fun e => by have := ownE_lt HN.out.own e; omega⟩) (Nat.le_refl 2); have N4 := Lib.hid hN4; have B4 := Lib.hid hB4; have T4 := Lib.hid h2; have A4 := Lib.hid h3; have q11 := ouB_free (ouB_keep HO.out hB4 (by omega)) 9; have hg4 := ouB_lt (ouB_keep HO.out hB4 (by omega)); have q12 := (ouB_cell (ouB_keep HO.out hB4 (by omega))).2.2.2.2.2.2.2.2.2; clear h1 h2 h3 hN4 hB4)
      go_roundw
      case rel =>
        refine ⟨j + 1, _, ls ++ [⟨idN j, some ⟨wr.heap.size, 0, none⟩, 2⟩], by omega, by go_num, ?_, N4.out.set (by omega), ?_, ?_, ?_, ?_, ouB_set9 _ (ouB_keep HO.out B4.out (by omega)), ?_⟩
        · rw [List.map_append, HX.out]
          unfold idL
          rw [List.range_succ, List.map_append]
          rfl
        · intro l hl
          have keepB : ∀ b0, b0 < wr.heap.size + 2 → v.ownBlock ≠ some b0 → ∀ o, ((wr.alloc (.cells #[.int .i64 7, .int .i64 0, .int .i64 0, .int .i64 0, .int .i64 (j + 8), .int .i64 0, .int .i64 0, .int .i64 0] 47)).alloc (.cells #[.int .i64 j, .int .i64 0, .int .i64 (-1), .bool false, .slice (some ⟨wr.heap.size, 0, none⟩) 2 2] 42)).heap[b0]? = some o → (w1.heap.size + 4) ≤ b0 → Value.ownBlock (.slice (some ⟨g', 0, none⟩) (ls.length + 1) cap') ≠ some b0 ∧ (w4.setCell ⟨w1.heap.size + 1 + 1 + 1, 9, none⟩ (.slice (some ⟨g', 0, none⟩) (ls.length + 1) cap')).heap[b0]? = some o := by
            intro b0 hb0 hne o ho hbb
            refine ⟨?_, ?_⟩
            · rcases A4.out with e | e
              · rw [e]; exact hne
              · rw [e]
                intro e2
                simp at e2
                omega
            · rw [heap_setCell_other _ _ _ _ (by simp; omega), T4.out.block _ (Array.getElem?_eq_some_iff.1 ho).1 (fun e => hne e.symm)]
              exact ho
          cases ls with
          | nil =>
            have hl : some (⟨idN j, some ⟨wr.heap.size, 0, none⟩, 2⟩ : Lo Dr) = some l := by simpa using hl
            cases hl
            have hj0 : j = 0 := by have := hll.out; simpa using this.symm
            obtain ⟨h5, h6⟩ := keepB wr.heap.size (by omega) (fun e => by have := ownE_lt HN.out.own e; omega) _ OT.out hbase
            exact ⟨_, rfl, hbase, h5, by rw [h6, hj0]; rfl⟩
          | cons l0 ls0 =>
            have hl : some l0 = some l := by simpa using hl
            cases hl
            obtain ⟨b0, e1, e2, e3, e4⟩ := HZ.out _ rfl
            have hb0 := (Array.getElem?_eq_some_iff.1 e4).1
            obtain ⟨h5, h6⟩ := keepB b0 (by omega) e3 _ ((OB.out.block b0 hb0).trans e4) e2
            exact ⟨b0, e1, e2, h5, h6⟩
        · exact (HB.out.trans (B4.out.mono (by have := HB.out.size; have := BX.out.size; omega))).setCell (by simp; omega) _
        · have := B4.out.size
          simp
          omega
        · have hf := HF.out.keep B4.out (by omega) (by omega) (by omega)
          exact ⟨by rw [heap_setCell_other _ _ _ _ (by simp <;> omega)]; exact hf.v, by rw [heap_setCell_other _ _ _ _ (by simp <;> omega)]; exact hf.p, by rw [heap_setCell_other _ _ _ _ (by simp <;> omega)]; exact hf.i⟩
        · rw [heap_setCell_other _ _ _ _ (by simp; omega)]
          exact (B4.out.block _ (by omega)).trans HD.out
      case measure => simp [intOf]; omega
    · have hjm : j = m := by omega
      rw [hjm] at HX hll
      have hne : ls ≠ [] := by
        intro e
        subst e
        simp at hll
        omega
      obtain ⟨gd, dc, hv, hgd1, hgd2⟩ := ownE_at0 HN.out.own hne
      rw [hll] at hv
      subst hv
      obtain ⟨l0, hl0⟩ := get_lt (l := ls) (k := 0) (by omega)
      obtain ⟨b0, hb1, hb2, hb3, hb4⟩ := HZ.out l0 hl0
      have hne0 : gd ≠ b0 := by
        intro e
        exact hb3 (by rw [e]; rfl)
      have hb0w : b0 < wr.heap.size := (Array.getElem?_eq_some_iff.1 hb4).1
      have HA0 := Lib.hid (show (ls[0]?).map Lo.A = some (some ⟨b0, 0, none⟩) by rw [hl0, ← hb1]; rfl)
      have HB4 := Lib.hid hb4
      have hok : ∀ id i j : Int, I64 id → I64 i → I64 j → ∀ d ∈ idF m (idD id i j), d.ok ∧ d.tris.length ≤ 1000 := by
        intro id i j h1 h2 h3 d hd
        rcases List.mem_or_eq_of_mem_set hd with hd | rfl
        · unfold idL at hd
          obtain ⟨q, hq, rfl⟩ := List.mem_map.1 hd
          have hq := List.mem_range.1 hq
          exact ⟨idD_ok (by unfold I64; omega) (by unfold I64; omega) (by unfold I64; omega), by show 2 ≤ 1000; omega⟩
        · exact ⟨idD_ok h1 h2 h3, by show 2 ≤ 1000; omega⟩
      have z0 : I64 0 := by unfold I64; omega
      have z7 : I64 7 := by unfold I64; omega
      have z8 : I64 8 := by unfold I64; omega
      have CK := Lib.hid (fun (id i j : Int) (h1 : I64 id) (h2 : I64 i) (h3 : I64 j) (W : World) (ls' : List (Lo Dr)) (hF : IdF (w1.heap.size) (w1.heap.size + 1 + 1) (w1.heap.size + 1) W) (ho : OwnN ED ER Dr.tris W (w1.heap.size + 4) (.slice (some ⟨gd, 0, none⟩) m dc) ls') (hx : ls'.map Lo.x = idF m (idD id i j)) => ids_check hF ho hx (fun d hd => (hok id i j h1 h2 h3 d hd).1) (fun d hd => (hok id i j h1 h2 h3 d hd).2) hm8)
      have CC := Lib.hid (fun (W : World) (hF : IdF (w1.heap.size) (w1.heap.size + 1 + 1) (w1.heap.size + 1) W) (ho : OwnN ED ER Dr.tris W (w1.heap.size + 4) (.slice (some ⟨gd, 0, none⟩) m dc) ls) => ids_count hF ho (show ls.map Lo.x = idF m (idD 0 7 8) by rw [idF_self]; exact HX.out) (fun d hd => (hok 0 7 8 z0 z7 z8 d hd).1) (fun d hd => (hok 0 7 8 z0 z7 z8 d hd).2) hm8)
      rw [idF_count] at CC
      have C1 := Lib.hid (CK.out 0 7 8 z0 z7 z8 wr ls HF.out HN.out (by rw [idF_self]; exact HX.out))
      rw [ids_zero hm0 hm8] at C1
      have hw1 : IntKind.i64.wrap (2 * (m : Int)) = ((2 * m : Nat) : Int) := by rw [IntKind.wrap_i64]; omega
      have hw2 : wrap64 (2 * (m : Int)) = ((2 * m : Nat) : Int) := by unfold wrap64; omega
      have dlt : decide ((j : Int) < m) = false := by simp; omega
      replace hok := Lib.hid hok
      clear hne hb1 hb3 hb4 hl0
      go_wp2_with fail
      with_reducible refine (C1.out).mono ?_
      rintro e w5 ⟨rfl, hb⟩
      have B5 := Lib.hid (bstep HB.out HB.out.size hb)
      have S5 := Lib.hid (show wr.heap.size ≤ w5.heap.size from hb.size)
      have F5 := Lib.hid (HF.out.keep hb (by omega) (by omega) (by omega))
      have N5 := Lib.hid (HN.out.keep hb)
      have O5 := Lib.hid (ouB_keep HO.out hb (ouB_lt HO.out))
      have D5 := Lib.hid ((hb.block _ (Array.getElem?_eq_some_iff.1 HD.out).1).trans HD.out)
      have K5 := Lib.hid ((hb.block _ (Array.getElem?_eq_some_iff.1 HB4.out).1).trans HB4.out)
      clear q0 q1 q2 q3 q4 q5 q6 q7 q8 q9 q10 hgw hdw C1 hb
      obtain ⟨q0, q1, q2, q3, q4, q5, q6, q7, q8, q9⟩ := ouB_cell O5.out
      change _ = some (Value.int .u8 0) at q2 q3 q4 q5
      have q10 := ouB_free O5.out 9
      have hgw := ouB_lt O5.out
      go_wp2_with fail
      with_reducible refine (CC.out _ F5.out N5.out).mono ?_
      rintro e w6 ⟨rfl, hb⟩
      have B6 := Lib.hid (bstep B5.out B5.out.size hb)
      have S6 := Lib.hid (show wr.heap.size ≤ w6.heap.size from (Nat.le_trans S5.out hb.size))
      have F6 := Lib.hid (F5.out.keep hb (by have := S5.out; omega) (by have := S5.out; omega) (by have := S5.out; omega))
      have N6 := Lib.hid (N5.out.keep hb)
      have O6 := Lib.hid (ouB_keep O5.out hb (ouB_lt O5.out))
      have D6 := Lib.hid ((hb.block _ (Array.getElem?_eq_some_iff.1 D5.out).1).trans D5.out)
      have K6 := Lib.hid ((hb.block _ (Array.getElem?_eq_some_iff.1 K5.out).1).trans K5.out)
      clear q0 q1 q2 q3 q4 q5 q6 q7 q8 q9 q10 hgw CC hb
      obtain ⟨q0, q1, q2, q3, q4, q5, q6, q7, q8, q9⟩ := ouB_cell O6.out
      change _ = some (Value.int .u8 0) at q2 q3 q4 q5
      have q10 := ouB_free O6.out 9
      have hgw := ouB_lt O6.out
      have i0 : w6.cell? ⟨w.heap.size, 0, none⟩ = some (.int .i64 a) := Joins.cell_of_block D6.out 0
      have i1 : w6.cell? ⟨w.heap.size, 1, none⟩ = some (.int .i64 b) := Joins.cell_of_block D6.out 1
      obtain ⟨u6, hu6⟩ := get_lt (l := ls) (k := 0) (by omega)
      obtain ⟨bb, off, hbb, -, hat⟩ := (ownE_es N6.out.own).2.2.at hu6
      cases hbb
      have r0 : w6.cell? ⟨gd, 0, none⟩ = some (.int .i64 u6.x.id) := by have := (atD hat).1; simpa using this
      have r1 := ownE_free N6.out.own 0
      have hgd6 : gd < w6.heap.size := by have := S6.out; omega
      have hd6 : w.heap.size < w6.heap.size := (Array.getElem?_eq_some_iff.1 D6.out).1
      clear hat
      obtain ⟨ls7, N7', P7', A7'⟩ := N6.out.id0 (id := a) HX.out (idL_get hm0)
      have N7 := Lib.hid N7'
      have P7 := Lib.hid (show ls7.map Lo.x = idF m (idD a 7 8) from P7')
      have A7 := Lib.hid (A7'.trans HA0.out)
      have hbg : w1.heap.size + 4 ≤ gd := hgd1
      have F7 := Lib.hid (show IdF (w1.heap.size) (w1.heap.size + 1 + 1) (w1.heap.size + 1) (w6.setCell ⟨gd, 0, none⟩ (.int .i64 a)) from ⟨by rw [heap_setCell_other _ _ _ _ (by simp <;> omega)]; exact F6.out.v, by rw [heap_setCell_other _ _ _ _ (by simp <;> omega)]; exact F6.out.p, by rw [heap_setCell_other _ _ _ _ (by simp <;> omega)]; exact F6.out.i⟩)
      have O7 := Lib.hid (ouB_other (o := 0) (.int .i64 a) O6.out (show w1.heap.size + 1 + 1 + 1 ≠ gd by omega))
      have D7 := Lib.hid (show (w6.setCell ⟨gd, 0, none⟩ (.int .i64 a)).heap[w.heap.size]? = some (.cells #[.int .i64 a, .int .i64 b] 43 (0, 0)) by rw [heap_setCell_other _ _ _ _ (by simp; omega)]; exact D6.out)
      have K7 := Lib.hid (show (w6.setCell ⟨gd, 0, none⟩ (.int .i64 a)).heap[b0]? = some (idB 8) by rw [heap_setCell_other _ _ _ _ (by simp; exact fun e => hne0 e.symm)]; exact K6.out)
      have B7 := Lib.hid (B6.out.setCell (p := ⟨gd, 0, none⟩) (by simp; omega) (.int .i64 a))
      have S7 := Lib.hid (show wr.heap.size ≤ (w6.setCell ⟨gd, 0, none⟩ (.int .i64 a)).heap.size by have := S6.out; simpa using this)
      have C7 := Lib.hid (CK.out a 7 8 HAB.out.1 z7 z8 _ ls7 F7.out N7.out P7.out)
      rw [ids_first hm0 hm8] at C7
      clear N7' P7' A7'
      by_cases AW0 : a < 0
      · have x1 : ¬ 0 ≤ a := by omega
        have hw : want0 m a = 24 := by unfold want0; first | rw [if_neg (by omega)] | rw [if_pos (by omega), if_pos (by omega)] | rw [if_pos (by omega), if_neg (by omega)]
        rw [hw] at C7
        clear hw
        go_wp2_with fail
        with_reducible refine (C7.out).mono ?_
        rintro e w8 ⟨rfl, hb⟩
        have B8 := Lib.hid (bstep B7.out B7.out.size hb)
        have S8 := Lib.hid (show wr.heap.size ≤ w8.heap.size from (Nat.le_trans S7.out hb.size))
        have F8 := Lib.hid (F7.out.keep hb (by have := S7.out; omega) (by have := S7.out; omega) (by have := S7.out; omega))
        have N8 := Lib.hid (N7.out.keep hb)
        have O8 := Lib.hid (ouB_keep O7.out hb (ouB_lt O7.out))
        have D8 := Lib.hid ((hb.block _ (Array.getElem?_eq_some_iff.1 D7.out).1).trans D7.out)
        have K8 := Lib.hid ((hb.block _ (Array.getElem?_eq_some_iff.1 K7.out).1).trans K7.out)
        clear q0 q1 q2 q3 q4 q5 q6 q7 q8 q9 q10 hgw C7 hb i0 i1 r0 r1 hgd6 hd6
        obtain ⟨q0, q1, q2, q3, q4, q5, q6, q7, q8, q9⟩ := ouB_cell O8.out
        change _ = some (Value.int .u8 0) at q2 q3 q4 q5
        have hgw := ouB_lt O8.out
        obtain ⟨u8, hu8⟩ := get_lt (l := ls7) (k := 0) (by have := congrArg List.length P7.out; rw [List.length_map, idF_len] at this; omega)
        obtain ⟨bb, off, hbb, -, hat⟩ := (ownE_es N8.out.own).2.2.at hu8
        cases hbb
        have r0 : w8.cell? ⟨gd, 0, none⟩ = some (.int .i64 u8.x.id) := by have := (atD hat).1; simpa using this
        have r1 := ownE_free N8.out.own 0
        have hgd8 : gd < w8.heap.size := by have := S8.out; omega
        have hd8 : w.heap.size < w8.heap.size := (Array.getElem?_eq_some_iff.1 D8.out).1
        clear hat
        have hP7 : (idF m (idD a 7 8))[0]? = some (idD a 7 8) := by have := idF_get (d := idD a 7 8) hm0; simpa using this
        obtain ⟨ls9, N9', P9', A9'⟩ := N8.out.id0 (id := 0) P7.out hP7
        have N9 := Lib.hid N9'
        have P9 := Lib.hid (show ls9.map Lo.x = idL m by rw [P9', ← idF_self m]; unfold idF; rw [List.set_set]; rfl)
        have A9 := Lib.hid (A9'.trans A7.out)
        have F9 := Lib.hid (show IdF (w1.heap.size) (w1.heap.size + 1 + 1) (w1.heap.size + 1) (w8.setCell ⟨gd, 0, none⟩ (.int .i64 0)) from ⟨by rw [heap_setCell_other _ _ _ _ (by simp <;> omega)]; exact F8.out.v, by rw [heap_setCell_other _ _ _ _ (by simp <;> omega)]; exact F8.out.p, by rw [heap_setCell_other _ _ _ _ (by simp <;> omega)]; exact F8.out.i⟩)
        have O9 := Lib.hid (ouB_other (o := 0) (.int .i64 0) O8.out (show w1.heap.size + 1 + 1 + 1 ≠ gd by omega))
        have D9 := Lib.hid (show (w8.setCell ⟨gd, 0, none⟩ (.int .i64 0)).heap[w.heap.size]? = some (.cells #[.int .i64 a, .int .i64 b] 43 (0, 0)) by rw [heap_setCell_other _ _ _ _ (by simp; omega)]; exact D8.out)
        have K9 := Lib.hid (show (w8.setCell ⟨gd, 0, none⟩ (.int .i64 0)).heap[b0]? = some (idB 8) by rw [heap_setCell_other _ _ _ _ (by simp; exact fun e => hne0 e.symm)]; exact K8.out)
        have B9 := Lib.hid (B8.out.setCell (p := ⟨gd, 0, none⟩) (by simp; omega) (.int .i64 0))
        clear N9' P9' A9' hP7
        go_wp2_with fail
        generalize w8.setCell ⟨gd, 0, none⟩ (.int .i64 0) = X9 at *
        clear q0 q1 q2 q3 q4 q5 q6 q7 q8 q9 r0 r1 hgw hd8
        obtain ⟨q0, q1, q2, q3, q4, q5, q6, q7, q8, q9⟩ := ouB_cell O9.out
        change _ = some (Value.int .u8 0) at q2 q3 q4 q5
        have hgw := ouB_lt O9.out
        have hd9 : w.heap.size < X9.heap.size := (Array.getElem?_eq_some_iff.1 D9.out).1
        have hb9 : b0 < X9.heap.size := (Array.getElem?_eq_some_iff.1 K9.out).1
        have i0 : X9.cell? ⟨w.heap.size, 0, none⟩ = some (.int .i64 a) := Joins.cell_of_block D9.out 0
        have i1 : X9.cell? ⟨w.heap.size, 1, none⟩ = some (.int .i64 b) := Joins.cell_of_block D9.out 1
        obtain ⟨u9, hu9⟩ := get_lt (l := ls9) (k := 0) (by have := congrArg List.length P9.out; rw [List.length_map, idL_len] at this; omega)
        obtain ⟨bb, off, hbb, hgd9, hat⟩ := (ownE_es N9.out.own).2.2.at hu9
        cases hbb
        have hA9 := A9.out
        rw [hu9] at hA9
        have hA9 : u9.A = some ⟨b0, 0, none⟩ := by simpa using hA9
        have hx9 : u9.x = idN 0 := by
          have := congrArg (fun l => l[0]?) P9.out
          simp only [List.getElem?_map, hu9, idL_get hm0] at this
          simpa using this
        have r4 : X9.cell? ⟨gd, 4, none⟩ = some (.slice (some ⟨b0, 0, none⟩) 2 u9.c) := by
          have := (atD hat).2.2.2.2
          rw [hA9, hx9] at this
          simpa using (show _ = some (Value.slice (some ⟨b0, 0, none⟩) 2 u9.c) from this)
        have k4 : X9.cell? ⟨b0, 4, none⟩ = some (.int .i64 8) := Joins.cell_of_block (show X9.heap[b0]? = some (.cells #[.int .i64 7, .int .i64 0, .int .i64 0, .int .i64 0, .int .i64 8, .int .i64 0, .int .i64 0, .int .i64 0] 47 (0, 0)) from K9.out) 4
        have k5 : X9.frozen? ⟨b0, 4, none⟩ = false := by
          have := K9.out
          unfold idB at this
          simp [World.frozen?, this]
        clear hat hA9 hx9 hu9
        go_still_tail 9, (by kernel_rfl)
        obtain ⟨ls10, N10', P10⟩ := OwnN.tri0 (b := b) hm0 N9.out P9.out A9.out hb2 hne0 K9.out
        have N10 := Lib.hid (show OwnN ED ER Dr.tris ((X9.setCell ⟨b0, 4, none⟩ (.int .i64 b)).drew) (w1.heap.size + 4) (.slice (some ⟨gd, 0, none⟩) m dc) ls10 from ⟨N10'.own, N10'.els, N10'.cap⟩)
        have F10 := Lib.hid (show IdF (w1.heap.size) (w1.heap.size + 1 + 1) (w1.heap.size + 1) ((X9.setCell ⟨b0, 4, none⟩ (.int .i64 b)).drew) from ⟨(heap_setCell_other _ _ _ _ (by simp <;> omega)).trans F9.out.v, (heap_setCell_other _ _ _ _ (by simp <;> omega)).trans F9.out.p, (heap_setCell_other _ _ _ _ (by simp <;> omega)).trans F9.out.i⟩)
        have O10 := Lib.hid (show ((X9.setCell ⟨b0, 4, none⟩ (.int .i64 b)).drew).heap[w1.heap.size + 1 + 1 + 1]? = _ from ouB_other (o := 4) (.int .i64 b) O9.out (by omega))
        have B10 := Lib.hid (show Below w.heap.size w ((X9.setCell ⟨b0, 4, none⟩ (.int .i64 b)).drew) from (B9.out.setCell (p := ⟨b0, 4, none⟩) (by simp; omega) (.int .i64 b)).drew)
        have C10 := Lib.hid (CK.out 0 7 b z0 z7 HAB.out.2 _ ls10 F10.out N10.out P10)
        rw [ids_second hm0 hm8] at C10
        clear N10'
        by_cases BW0 : b < 0
        · have hw : want1 b = 24 := by unfold want1; first | rw [if_pos (by omega)] | rw [if_neg (by omega), if_neg (by omega)]
          rw [hw] at C10
          clear hw
          go_wp2_with fail
          with_reducible refine (C10.out).mono ?_
          rintro e w11 ⟨rfl, hb⟩
          have B11 := Lib.hid (bstep B10.out B10.out.size hb)
          clear hb
          go_wp2_with fail
          go_ret
          exact ⟨rfl, B11.out⟩
        by_cases BW1 : 9999 < b
        · have hw : want1 b = 24 := by unfold want1; first | rw [if_pos (by omega)] | rw [if_neg (by omega), if_neg (by omega)]
          rw [hw] at C10
          clear hw
          go_wp2_with fail
          with_reducible refine (C10.out).mono ?_
          rintro e w11 ⟨rfl, hb⟩
          have B11 := Lib.hid (bstep B10.out B10.out.size hb)
          clear hb
          go_wp2_with fail
          go_ret
          exact ⟨rfl, B11.out⟩
        by_cases BW2 : b = 7
        · subst BW2
          have hw : want1 7 = 25 := by rfl
          rw [hw] at C10
          clear hw
          go_wp2_with fail
          with_reducible refine (C10.out).mono ?_
          rintro e w11 ⟨rfl, hb⟩
          have B11 := Lib.hid (bstep B10.out B10.out.size hb)
          clear hb
          go_wp2_with fail
          go_ret
          exact ⟨rfl, B11.out⟩
        have y3 : (b == 7) = false := by simpa using BW2
        have y4 : decide (b = 7) = false := by simpa using BW2
        have hw : want1 b = 0 := by unfold want1; first | rw [if_pos (by omega)] | rw [if_neg (by omega), if_neg (by omega)]
        rw [hw] at C10
        clear hw
        go_wp2_with fail
        with_reducible refine (C10.out).mono ?_
        rintro e w11 ⟨rfl, hb⟩
        have B11 := Lib.hid (bstep B10.out B10.out.size hb)
        clear hb
        go_wp2_with fail
        go_ret
        exact ⟨rfl, B11.out⟩
      by_cases AW1 : 9999 < a
      · have x1 : 0 ≤ a := by omega
        have x2 : ¬ a ≤ 9999 := by omega
        have x5 : decide (a ≤ 9999) = false := by simp; omega
        have hw : want0 m a = 24 := by unfold want0; first | rw [if_neg (by omega)] | rw [if_pos (by omega), if_pos (by omega)] | rw [if_pos (by omega), if_neg (by omega)]
        rw [hw] at C7
        clear hw
        go_wp2_with fail
        with_reducible refine (C7.out).mono ?_
        rintro e w8 ⟨rfl, hb⟩
        have B8 := Lib.hid (bstep B7.out B7.out.size hb)
        have S8 := Lib.hid (show wr.heap.size ≤ w8.heap.size from (Nat.le_trans S7.out hb.size))
        have F8 := Lib.hid (F7.out.keep hb (by have := S7.out; omega) (by have := S7.out; omega) (by have := S7.out; omega))
        have N8 := Lib.hid (N7.out.keep hb)
        have O8 := Lib.hid (ouB_keep O7.out hb (ouB_lt O7.out))
        have D8 := Lib.hid ((hb.block _ (Array.getElem?_eq_some_iff.1 D7.out).1).trans D7.out)
        have K8 := Lib.hid ((hb.block _ (Array.getElem?_eq_some_iff.1 K7.out).1).trans K7.out)
        clear q0 q1 q2 q3 q4 q5 q6 q7 q8 q9 q10 hgw C7 hb i0 i1 r0 r1 hgd6 hd6
        obtain ⟨q0, q1, q2, q3, q4, q5, q6, q7, q8, q9⟩ := ouB_cell O8.out
        change _ = some (Value.int .u8 0) at q2 q3 q4 q5
        have hgw := ouB_lt O8.out
        obtain ⟨u8, hu8⟩ := get_lt (l := ls7) (k := 0) (by have := congrArg List.length P7.out; rw [List.length_map, idF_len] at this; omega)
        obtain ⟨bb, off, hbb, -, hat⟩ := (ownE_es N8.out.own).2.2.at hu8
        cases hbb
        have r0 : w8.cell? ⟨gd, 0, none⟩ = some (.int .i64 u8.x.id) := by have := (atD hat).1; simpa using this
        have r1 := ownE_free N8.out.own 0
        have hgd8 : gd < w8.heap.size := by have := S8.out; omega
        have hd8 : w.heap.size < w8.heap.size := (Array.getElem?_eq_some_iff.1 D8.out).1
        clear hat
        have hP7 : (idF m (idD a 7 8))[0]? = some (idD a 7 8) := by have := idF_get (d := idD a 7 8) hm0; simpa using this
        obtain ⟨ls9, N9', P9', A9'⟩ := N8.out.id0 (id := 0) P7.out hP7
        have N9 := Lib.hid N9'
        have P9 := Lib.hid (show ls9.map Lo.x = idL m by rw [P9', ← idF_self m]; unfold idF; rw [List.set_set]; rfl)
        have A9 := Lib.hid (A9'.trans A7.out)
        have F9 := Lib.hid (show IdF (w1.heap.size) (w1.heap.size + 1 + 1) (w1.heap.size + 1) (w8.setCell ⟨gd, 0, none⟩ (.int .i64 0)) from ⟨by rw [heap_setCell_other _ _ _ _ (by simp <;> omega)]; exact F8.out.v, by rw [heap_setCell_other _ _ _ _ (by simp <;> omega)]; exact F8.out.p, by rw [heap_setCell_other _ _ _ _ (by simp <;> omega)]; exact F8.out.i⟩)
        have O9 := Lib.hid (ouB_other (o := 0) (.int .i64 0) O8.out (show w1.heap.size + 1 + 1 + 1 ≠ gd by omega))
        have D9 := Lib.hid (show (w8.setCell ⟨gd, 0, none⟩ (.int .i64 0)).heap[w.heap.size]? = some (.cells #[.int .i64 a, .int .i64 b] 43 (0, 0)) by rw [heap_setCell_other _ _ _ _ (by simp; omega)]; exact D8.out)
        have K9 := Lib.hid (show (w8.setCell ⟨gd, 0, none⟩ (.int .i64 0)).heap[b0]? = some (idB 8) by rw [heap_setCell_other _ _ _ _ (by simp; exact fun e => hne0 e.symm)]; exact K8.out)
        have B9 := Lib.hid (B8.out.setCell (p := ⟨gd, 0, none⟩) (by simp; omega) (.int .i64 0))
        clear N9' P9' A9' hP7
        go_wp2_with fail
        generalize w8.setCell ⟨gd, 0, none⟩ (.int .i64 0) = X9 at *
        clear q0 q1 q2 q3 q4 q5 q6 q7 q8 q9 r0 r1 hgw hd8
        obtain ⟨q0, q1, q2, q3, q4, q5, q6, q7, q8, q9⟩ := ouB_cell O9.out
        change _ = some (Value.int .u8 0) at q2 q3 q4 q5
        have hgw := ouB_lt O9.out
        have hd9 : w.heap.size < X9.heap.size := (Array.getElem?_eq_some_iff.1 D9.out).1
        have hb9 : b0 < X9.heap.size := (Array.getElem?_eq_some_iff.1 K9.out).1
        have i0 : X9.cell? ⟨w.heap.size, 0, none⟩ = some (.int .i64 a) := Joins.cell_of_block D9.out 0
        have i1 : X9.cell? ⟨w.heap.size, 1, none⟩ = some (.int .i64 b) := Joins.cell_of_block D9.out 1
        obtain ⟨u9, hu9⟩ := get_lt (l := ls9) (k := 0) (by have := congrArg List.length P9.out; rw [List.length_map, idL_len] at this; omega)
        obtain ⟨bb, off, hbb, hgd9, hat⟩ := (ownE_es N9.out.own).2.2.at hu9
        cases hbb
        have hA9 := A9.out
        rw [hu9] at hA9
        have hA9 : u9.A = some ⟨b0, 0, none⟩ := by simpa using hA9
        have hx9 : u9.x = idN 0 := by
          have := congrArg (fun l => l[0]?) P9.out
          simp only [List.getElem?_map, hu9, idL_get hm0] at this
          simpa using this
        have r4 : X9.cell? ⟨gd, 4, none⟩ = some (.slice (some ⟨b0, 0, none⟩) 2 u9.c) := by
          have := (atD hat).2.2.2.2
          rw [hA9, hx9] at this
          simpa using (show _ = some (Value.slice (some ⟨b0, 0, none⟩) 2 u9.c) from this)
        have k4 : X9.cell? ⟨b0, 4, none⟩ = some (.int .i64 8) := Joins.cell_of_block (show X9.heap[b0]? = some (.cells #[.int .i64 7, .int .i64 0, .int .i64 0, .int .i64 0, .int .i64 8, .int .i64 0, .int .i64 0, .int .i64 0] 47 (0, 0)) from K9.out) 4
        have k5 : X9.frozen? ⟨b0, 4, none⟩ = false := by
          have := K9.out
          unfold idB at this
          simp [World.frozen?, this]
        clear hat hA9 hx9 hu9
        go_still_tail 9, (by kernel_rfl)
        obtain ⟨ls10, N10', P10⟩ := OwnN.tri0 (b := b) hm0 N9.out P9.out A9.out hb2 hne0 K9.out
        have N10 := Lib.hid (show OwnN ED ER Dr.tris ((X9.setCell ⟨b0, 4, none⟩ (.int .i64 b)).drew) (w1.heap.size + 4) (.slice (some ⟨gd, 0, none⟩) m dc) ls10 from ⟨N10'.own, N10'.els, N10'.cap⟩)
        have F10 := Lib.hid (show IdF (w1.heap.size) (w1.heap.size + 1 + 1) (w1.heap.size + 1) ((X9.setCell ⟨b0, 4, none⟩ (.int .i64 b)).drew) from ⟨(heap_setCell_other _ _ _ _ (by simp <;> omega)).trans F9.out.v, (heap_setCell_other _ _ _ _ (by simp <;> omega)).trans F9.out.p, (heap_setCell_other _ _ _ _ (by simp <;> omega)).trans F9.out.i⟩)
        have O10 := Lib.hid (show ((X9.setCell ⟨b0, 4, none⟩ (.int .i64 b)).drew).heap[w1.heap.size + 1 + 1 + 1]? = _ from ouB_other (o := 4) (.int .i64 b) O9.out (by omega))
        have B10 := Lib.hid (show Below w.heap.size w ((X9.setCell ⟨b0, 4, none⟩ (.int .i64 b)).drew) from (B9.out.setCell (p := ⟨b0, 4, none⟩) (by simp; omega) (.int .i64 b)).drew)
        have C10 := Lib.hid (CK.out 0 7 b z0 z7 HAB.out.2 _ ls10 F10.out N10.out P10)
        rw [ids_second hm0 hm8] at C10
        clear N10'
        by_cases BW0 : b < 0
        · have hw : want1 b = 24 := by unfold want1; first | rw [if_pos (by omega)] | rw [if_neg (by omega), if_neg (by omega)]
          rw [hw] at C10
          clear hw
          go_wp2_with fail
          with_reducible refine (C10.out).mono ?_
          rintro e w11 ⟨rfl, hb⟩
          have B11 := Lib.hid (bstep B10.out B10.out.size hb)
          clear hb
          go_wp2_with fail
          go_ret
          exact ⟨rfl, B11.out⟩
        by_cases BW1 : 9999 < b
        · have hw : want1 b = 24 := by unfold want1; first | rw [if_pos (by omega)] | rw [if_neg (by omega), if_neg (by omega)]
          rw [hw] at C10
          clear hw
          go_wp2_with fail
          with_reducible refine (C10.out).mono ?_
          rintro e w11 ⟨rfl, hb⟩
          have B11 := Lib.hid (bstep B10.out B10.out.size hb)
          clear hb
          go_wp2_with fail
          go_ret
          exact ⟨rfl, B11.out⟩
        by_cases BW2 : b = 7
        · subst BW2
          have hw : want1 7 = 25 := by rfl
          rw [hw] at C10
          clear hw
          go_wp2_with fail
          with_reducible refine (C10.out).mono ?_
          rintro e w11 ⟨rfl, hb⟩
          have B11 := Lib.hid (bstep B10.out B10.out.size hb)
          clear hb
          go_wp2_with fail
          go_ret
          exact ⟨rfl, B11.out⟩
        have y3 : (b == 7) = false := by simpa using BW2
        have y4 : decide (b = 7) = false := by simpa using BW2
        have hw : want1 b = 0 := by unfold want1; first | rw [if_pos (by omega)] | rw [if_neg (by omega), if_neg (by omega)]
        rw [hw] at C10
        clear hw
        go_wp2_with fail
        with_reducible refine (C10.out).mono ?_
        rintro e w11 ⟨rfl, hb⟩
        have B11 := Lib.hid (bstep B10.out B10.out.size hb)
        clear hb
        go_wp2_with fail
        go_ret
        exact ⟨rfl, B11.out⟩
      by_cases AW2 : 0 < a ∧ a < m
      · have x1 : 0 ≤ a := by omega
        have x2 : a ≤ 9999 := by omega
        have x3 : 0 < a := by omega
        have x4 : a < m := by omega
        have hw : want0 m a = 25 := by unfold want0; first | rw [if_neg (by omega)] | rw [if_pos (by omega), if_pos (by omega)] | rw [if_pos (by omega), if_neg (by omega)]
        rw [hw] at C7
        clear hw
        go_wp2_with fail
        with_reducible refine (C7.out).mono ?_
        rintro e w8 ⟨rfl, hb⟩
        have B8 := Lib.hid (bstep B7.out B7.out.size hb)
        have S8 := Lib.hid (show wr.heap.size ≤ w8.heap.size from (Nat.le_trans S7.out hb.size))
        have F8 := Lib.hid (F7.out.keep hb (by have := S7.out; omega) (by have := S7.out; omega) (by have := S7.out; omega))
        have N8 := Lib.hid (N7.out.keep hb)
        have O8 := Lib.hid (ouB_keep O7.out hb (ouB_lt O7.out))
        have D8 := Lib.hid ((hb.block _ (Array.getElem?_eq_some_iff.1 D7.out).1).trans D7.out)
        have K8 := Lib.hid ((hb.block _ (Array.getElem?_eq_some_iff.1 K7.out).1).trans K7.out)
        clear q0 q1 q2 q3 q4 q5 q6 q7 q8 q9 q10 hgw C7 hb i0 i1 r0 r1 hgd6 hd6
        obtain ⟨q0, q1, q2, q3, q4, q5, q6, q7, q8, q9⟩ := ouB_cell O8.out
        change _ = some (Value.int .u8 0) at q2 q3 q4 q5
        have hgw := ouB_lt O8.out
        obtain ⟨u8, hu8⟩ := get_lt (l := ls7) (k := 0) (by have := congrArg List.length P7.out; rw [List.length_map, idF_len] at this; omega)
        obtain ⟨bb, off, hbb, -, hat⟩ := (ownE_es N8.out.own).2.2.at hu8
        cases hbb
        have r0 : w8.cell? ⟨gd, 0, none⟩ = some (.int .i64 u8.x.id) := by have := (atD hat).1; simpa using this
        have r1 := ownE_free N8.out.own 0
        have hgd8 : gd < w8.heap.size := by have := S8.out; omega
        have hd8 : w.heap.size < w8.heap.size := (Array.getElem?_eq_some_iff.1 D8.out).1
        clear hat
        have hP7 : (idF m (idD a 7 8))[0]? = some (idD a 7 8) := by have := idF_get (d := idD a 7 8) hm0; simpa using this
        obtain ⟨ls9, N9', P9', A9'⟩ := N8.out.id0 (id := 0) P7.out hP7
        have N9 := Lib.hid N9'
        have P9 := Lib.hid (show ls9.map Lo.x = idL m by rw [P9', ← idF_self m]; unfold idF; rw [List.set_set]; rfl)
        have A9 := Lib.hid (A9'.trans A7.out)
        have F9 := Lib.hid (show IdF (w1.heap.size) (w1.heap.size + 1 + 1) (w1.heap.size + 1) (w8.setCell ⟨gd, 0, none⟩ (.int .i64 0)) from ⟨by rw [heap_setCell_other _ _ _ _ (by simp <;> omega)]; exact F8.out.v, by rw [heap_setCell_other _ _ _ _ (by simp <;> omega)]; exact F8.out.p, by rw [heap_setCell_other _ _ _ _ (by simp <;> omega)]; exact F8.out.i⟩)
        have O9 := Lib.hid (ouB_other (o := 0) (.int .i64 0) O8.out (show w1.heap.size + 1 + 1 + 1 ≠ gd by omega))
        have D9 := Lib.hid (show (w8.setCell ⟨gd, 0, none⟩ (.int .i64 0)).heap[w.heap.size]? = some (.cells #[.int .i64 a, .int .i64 b] 43 (0, 0)) by rw [heap_setCell_other _ _ _ _ (by simp; omega)]; exact D8.out)
        have K9 := Lib.hid (show (w8.setCell ⟨gd, 0, none⟩ (.int .i64 0)).heap[b0]? = some (idB 8) by rw [heap_setCell_other _ _ _ _ (by simp; exact fun e => hne0 e.symm)]; exact K8.out)
        have B9 := Lib.hid (B8.out.setCell (p := ⟨gd, 0, none⟩) (by simp; omega) (.int .i64 0))
        clear N9' P9' A9' hP7
        go_wp2_with fail
        generalize w8.setCell ⟨gd, 0, none⟩ (.int .i64 0) = X9 at *
        clear q0 q1 q2 q3 q4 q5 q6 q7 q8 q9 r0 r1 hgw hd8
        obtain ⟨q0, q1, q2, q3, q4, q5, q6, q7, q8, q9⟩ := ouB_cell O9.out
        change _ = some (Value.int .u8 0) at q2 q3 q4 q5
        have hgw := ouB_lt O9.out
        have hd9 : w.heap.size < X9.heap.size := (Array.getElem?_eq_some_iff.1 D9.out).1
        have hb9 : b0 < X9.heap.size := (Array.getElem?_eq_some_iff.1 K9.out).1
        have i0 : X9.cell? ⟨w.heap.size, 0, none⟩ = some (.int .i64 a) := Joins.cell_of_block D9.out 0
        have i1 : X9.cell? ⟨w.heap.size, 1, none⟩ = some (.int .i64 b) := Joins.cell_of_block D9.out 1
        obtain ⟨u9, hu9⟩ := get_lt (l := ls9) (k := 0) (by have := congrArg List.length P9.out; rw [List.length_map, idL_len] at this; omega)
        obtain ⟨bb, off, hbb, hgd9, hat⟩ := (ownE_es N9.out.own).2.2.at hu9
        cases hbb
        have hA9 := A9.out
        rw [hu9] at hA9
        have hA9 : u9.A = some ⟨b0, 0, none⟩ := by simpa using hA9
        have hx9 : u9.x = idN 0 := by
          have := congrArg (fun l => l[0]?) P9.out
          simp only [List.getElem?_map, hu9, idL_get hm0] at this
          simpa using this
        have r4 : X9.cell? ⟨gd, 4, none⟩ = some (.slice (some ⟨b0, 0, none⟩) 2 u9.c) := by
          have := (atD hat).2.2.2.2
          rw [hA9, hx9] at this
          simpa using (show _ = some (Value.slice (some ⟨b0, 0, none⟩) 2 u9.c) from this)
        have k4 : X9.cell? ⟨b0, 4, none⟩ = some (.int .i64 8) := Joins.cell_of_block (show X9.heap[b0]? = some (.cells #[.int .i64 7, .int .i64 0, .int .i64 0, .int .i64 0, .int .i64 8, .int .i64 0, .int .i64 0, .int .i64 0] 47 (0, 0)) from K9.out) 4
        have k5 : X9.frozen? ⟨b0, 4, none⟩ = false := by
          have := K9.out
          unfold idB at this
          simp [World.frozen?, this]
        clear hat hA9 hx9 hu9
        go_still_tail 9, (by kernel_rfl)
        obtain ⟨ls10, N10', P10⟩ := OwnN.tri0 (b := b) hm0 N9.out P9.out A9.out hb2 hne0 K9.out
        have N10 := Lib.hid (show OwnN ED ER Dr.tris ((X9.setCell ⟨b0, 4, none⟩ (.int .i64 b)).drew) (w1.heap.size + 4) (.slice (some ⟨gd, 0, none⟩) m dc) ls10 from ⟨N10'.own, N10'.els, N10'.cap⟩)
        have F10 := Lib.hid (show IdF (w1.heap.size) (w1.heap.size + 1 + 1) (w1.heap.size + 1) ((X9.setCell ⟨b0, 4, none⟩ (.int .i64 b)).drew) from ⟨(heap_setCell_other _ _ _ _ (by simp <;> omega)).trans F9.out.v, (heap_setCell_other _ _ _ _ (by simp <;> omega)).trans F9.out.p, (heap_setCell_other _ _ _ _ (by simp <;> omega)).trans F9.out.i⟩)
        have O10 := Lib.hid (show ((X9.setCell ⟨b0, 4, none⟩ (.int .i64 b)).drew).heap[w1.heap.size + 1 + 1 + 1]? = _ from ouB_other (o := 4) (.int .i64 b) O9.out (by omega))
        have B10 := Lib.hid (show Below w.heap.size w ((X9.setCell ⟨b0, 4, none⟩ (.int .i64 b)).drew) from (B9.out.setCell (p := ⟨b0, 4, none⟩) (by simp; omega) (.int .i64 b)).drew)
        have C10 := Lib.hid (CK.out 0 7 b z0 z7 HAB.out.2 _ ls10 F10.out N10.out P10)
        rw [ids_second hm0 hm8] at C10
        clear N10'
        by_cases BW0 : b < 0
        · have hw : want1 b = 24 := by unfold want1; first | rw [if_pos (by omega)] | rw [if_neg (by omega), if_neg (by omega)]
          rw [hw] at C10
          clear hw
          go_wp2_with fail
          with_reducible refine (C10.out).mono ?_
          rintro e w11 ⟨rfl, hb⟩
          have B11 := Lib.hid (bstep B10.out B10.out.size hb)
          clear hb
          go_wp2_with fail
          go_ret
          exact ⟨rfl, B11.out⟩
        by_cases BW1 : 9999 < b
        · have hw : want1 b = 24 := by unfold want1; first | rw [if_pos (by omega)] | rw [if_neg (by omega), if_neg (by omega)]
          rw [hw] at C10
          clear hw
          go_wp2_with fail
          with_reducible refine (C10.out).mono ?_
          rintro e w11 ⟨rfl, hb⟩
          have B11 := Lib.hid (bstep B10.out B10.out.size hb)
          clear hb
          go_wp2_with fail
          go_ret
          exact ⟨rfl, B11.out⟩
        by_cases BW2 : b = 7
        · subst BW2
          have hw : want1 7 = 25 := by rfl
          rw [hw] at C10
          clear hw
          go_wp2_with fail
          with_reducible refine (C10.out).mono ?_
          rintro e w11 ⟨rfl, hb⟩
          have B11 := Lib.hid (bstep B10.out B10.out.size hb)
          clear hb
          go_wp2_with fail
          go_ret
          exact ⟨rfl, B11.out⟩
        have y3 : (b == 7) = false := by simpa using BW2
        have y4 : decide (b = 7) = false := by simpa using BW2
        have hw : want1 b = 0 := by unfold want1; first | rw [if_pos (by omega)] | rw [if_neg (by omega), if_neg (by omega)]
        rw [hw] at C10
        clear hw
        go_wp2_with fail
        with_reducible refine (C10.out).mono ?_
        rintro e w11 ⟨rfl, hb⟩
        have B11 := Lib.hid (bstep B10.out B10.out.size hb)
        clear hb
        go_wp2_with fail
        go_ret
        exact ⟨rfl, B11.out⟩
      by_cases AW3 : 0 < a
      · have x1 : 0 ≤ a := by omega
        have x2 : a ≤ 9999 := by omega
        have x4 : ¬ a < m := by omega
        have x5 : decide (a < (m : Int)) = false := by simp; omega
        have hw : want0 m a = 0 := by unfold want0; first | rw [if_neg (by omega)] | rw [if_pos (by omega), if_pos (by omega)] | rw [if_pos (by omega), if_neg (by omega)]
        rw [hw] at C7
        clear hw
        go_wp2_with fail
        with_reducible refine (C7.out).mono ?_
        rintro e w8 ⟨rfl, hb⟩
        have B8 := Lib.hid (bstep B7.out B7.out.size hb)
        have S8 := Lib.hid (show wr.heap.size ≤ w8.heap.size from (Nat.le_trans S7.out hb.size))
        have F8 := Lib.hid (F7.out.keep hb (by have := S7.out; omega) (by have := S7.out; omega) (by have := S7.out; omega))
        have N8 := Lib.hid (N7.out.keep hb)
        have O8 := Lib.hid (ouB_keep O7.out hb (ouB_lt O7.out))
        have D8 := Lib.hid ((hb.block _ (Array.getElem?_eq_some_iff.1 D7.out).1).trans D7.out)
        have K8 := Lib.hid ((hb.block _ (Array.getElem?_eq_some_iff.1 K7.out).1).trans K7.out)
        clear q0 q1 q2 q3 q4 q5 q6 q7 q8 q9 q10 hgw C7 hb i0 i1 r0 r1 hgd6 hd6
        obtain ⟨q0, q1, q2, q3, q4, q5, q6, q7, q8, q9⟩ := ouB_cell O8.out
        change _ = some (Value.int .u8 0) at q2 q3 q4 q5
        have hgw := ouB_lt O8.out
        obtain ⟨u8, hu8⟩ := get_lt (l := ls7) (k := 0) (by have := congrArg List.length P7.out; rw [List.length_map, idF_len] at this; omega)
        obtain ⟨bb, off, hbb, -, hat⟩ := (ownE_es N8.out.own).2.2.at hu8
        cases hbb
        have r0 : w8.cell? ⟨gd, 0, none⟩ = some (.int .i64 u8.x.id) := by have := (atD hat).1; simpa using this
        have r1 := ownE_free N8.out.own 0
        have hgd8 : gd < w8.heap.size := by have := S8.out; omega
        have hd8 : w.heap.size < w8.heap.size := (Array.getElem?_eq_some_iff.1 D8.out).1
        clear hat
        have hP7 : (idF m (idD a 7 8))[0]? = some (idD a 7 8) := by have := idF_get (d := idD a 7 8) hm0; simpa using this
        obtain ⟨ls9, N9', P9', A9'⟩ := N8.out.id0 (id := 0) P7.out hP7
        have N9 := Lib.hid N9'
        have P9 := Lib.hid (show ls9.map Lo.x = idL m by rw [P9', ← idF_self m]; unfold idF; rw [List.set_set]; rfl)
        have A9 := Lib.hid (A9'.trans A7.out)
        have F9 := Lib.hid (show IdF (w1.heap.size) (w1.heap.size + 1 + 1) (w1.heap.size + 1) (w8.setCell ⟨gd, 0, none⟩ (.int .i64 0)) from ⟨by rw [heap_setCell_other _ _ _ _ (by simp <;> omega)]; exact F8.out.v, by rw [heap_setCell_other _ _ _ _ (by simp <;> omega)]; exact F8.out.p, by rw [heap_setCell_other _ _ _ _ (by simp <;> omega)]; exact F8.out.i⟩)
        have O9 := Lib.hid (ouB_other (o := 0) (.int .i64 0) O8.out (show w1.heap.size + 1 + 1 + 1 ≠ gd by omega))
        have D9 := Lib.hid (show (w8.setCell ⟨gd, 0, none⟩ (.int .i64 0)).heap[w.heap.size]? = some (.cells #[.int .i64 a, .int .i64 b] 43 (0, 0)) by rw [heap_setCell_other _ _ _ _ (by simp; omega)]; exact D8.out)
        have K9 := Lib.hid (show (w8.setCell ⟨gd, 0, none⟩ (.int .i64 0)).heap[b0]? = some (idB 8) by rw [heap_setCell_other _ _ _ _ (by simp; exact fun e => hne0 e.symm)]; exact K8.out)
        have B9 := Lib.hid (B8.out.setCell (p := ⟨gd, 0, none⟩) (by simp; omega) (.int .i64 0))
        clear N9' P9' A9' hP7
        go_wp2_with fail
        generalize w8.setCell ⟨gd, 0, none⟩ (.int .i64 0) = X9 at *
        clear q0 q1 q2 q3 q4 q5 q6 q7 q8 q9 r0 r1 hgw hd8
        obtain ⟨q0, q1, q2, q3, q4, q5, q6, q7, q8, q9⟩ := ouB_cell O9.out
        change _ = some (Value.int .u8 0) at q2 q3 q4 q5
        have hgw := ouB_lt O9.out
        have hd9 : w.heap.size < X9.heap.size := (Array.getElem?_eq_some_iff.1 D9.out).1
        have hb9 : b0 < X9.heap.size := (Array.getElem?_eq_some_iff.1 K9.out).1
        have i0 : X9.cell? ⟨w.heap.size, 0, none⟩ = some (.int .i64 a) := Joins.cell_of_block D9.out 0
        have i1 : X9.cell? ⟨w.heap.size, 1, none⟩ = some (.int .i64 b) := Joins.cell_of_block D9.out 1
        obtain ⟨u9, hu9⟩ := get_lt (l := ls9) (k := 0) (by have := congrArg List.length P9.out; rw [List.length_map, idL_len] at this; omega)
        obtain ⟨bb, off, hbb, hgd9, hat⟩ := (ownE_es N9.out.own).2.2.at hu9
        cases hbb
        have hA9 := A9.out
        rw [hu9] at hA9
        have hA9 : u9.A = some ⟨b0, 0, none⟩ := by simpa using hA9
        have hx9 : u9.x = idN 0 := by
          have := congrArg (fun l => l[0]?) P9.out
          simp only [List.getElem?_map, hu9, idL_get hm0] at this
          simpa using this
        have r4 : X9.cell? ⟨gd, 4, none⟩ = some (.slice (some ⟨b0, 0, none⟩) 2 u9.c) := by
          have := (atD hat).2.2.2.2
          rw [hA9, hx9] at this
          simpa using (show _ = some (Value.slice (some ⟨b0, 0, none⟩) 2 u9.c) from this)
        have k4 : X9.cell? ⟨b0, 4, none⟩ = some (.int .i64 8) := Joins.cell_of_block (show X9.heap[b0]? = some (.cells #[.int .i64 7, .int .i64 0, .int .i64 0, .int .i64 0, .int .i64 8, .int .i64 0, .int .i64 0, .int .i64 0] 47 (0, 0)) from K9.out) 4
        have k5 : X9.frozen? ⟨b0, 4, none⟩ = false := by
          have := K9.out
          unfold idB at this
          simp [World.frozen?, this]
        clear hat hA9 hx9 hu9
        go_still_tail 9, (by kernel_rfl)
        obtain ⟨ls10, N10', P10⟩ := OwnN.tri0 (b := b) hm0 N9.out P9.out A9.out hb2 hne0 K9.out
        have N10 := Lib.hid (show OwnN ED ER Dr.tris ((X9.setCell ⟨b0, 4, none⟩ (.int .i64 b)).drew) (w1.heap.size + 4) (.slice (some ⟨gd, 0, none⟩) m dc) ls10 from ⟨N10'.own, N10'.els, N10'.cap⟩)
        have F10 := Lib.hid (show IdF (w1.heap.size) (w1.heap.size + 1 + 1) (w1.heap.size + 1) ((X9.setCell ⟨b0, 4, none⟩ (.int .i64 b)).drew) from ⟨(heap_setCell_other _ _ _ _ (by simp <;> omega)).trans F9.out.v, (heap_setCell_other _ _ _ _ (by simp <;> omega)).trans F9.out.p, (heap_setCell_other _ _ _ _ (by simp <;> omega)).trans F9.out.i⟩)
        have O10 := Lib.hid (show ((X9.setCell ⟨b0, 4, none⟩ (.int .i64 b)).drew).heap[w1.heap.size + 1 + 1 + 1]? = _ from ouB_other (o := 4) (.int .i64 b) O9.out (by omega))
        have B10 := Lib.hid (show Below w.heap.size w ((X9.setCell ⟨b0, 4, none⟩ (.int .i64 b)).drew) from (B9.out.setCell (p := ⟨b0, 4, none⟩) (by simp; omega) (.int .i64 b)).drew)
        have C10 := Lib.hid (CK.out 0 7 b z0 z7 HAB.out.2 _ ls10 F10.out N10.out P10)
        rw [ids_second hm0 hm8] at C10
        clear N10'
        by_cases BW0 : b < 0
        · have hw : want1 b = 24 := by unfold want1; first | rw [if_pos (by omega)] | rw [if_neg (by omega), if_neg (by omega)]
          rw [hw] at C10
          clear hw
          go_wp2_with fail
          with_reducible refine (C10.out).mono ?_
          rintro e w11 ⟨rfl, hb⟩
          have B11 := Lib.hid (bstep B10.out B10.out.size hb)
          clear hb
          go_wp2_with fail
          go_ret
          exact ⟨rfl, B11.out⟩
        by_cases BW1 : 9999 < b
        · have hw : want1 b = 24 := by unfold want1; first | rw [if_pos (by omega)] | rw [if_neg (by omega), if_neg (by omega)]
          rw [hw] at C10
          clear hw
          go_wp2_with fail
          with_reducible refine (C10.out).mono ?_
          rintro e w11 ⟨rfl, hb⟩
          have B11 := Lib.hid (bstep B10.out B10.out.size hb)
          clear hb
          go_wp2_with fail
          go_ret
          exact ⟨rfl, B11.out⟩
        by_cases BW2 : b = 7
        · subst BW2
          have hw : want1 7 = 25 := by rfl
          rw [hw] at C10
          clear hw
          go_wp2_with fail
          with_reducible refine (C10.out).mono ?_
          rintro e w11 ⟨rfl, hb⟩
          have B11 := Lib.hid (bstep B10.out B10.out.size hb)
          clear hb
          go_wp2_with fail
          go_ret
          exact ⟨rfl, B11.out⟩
        have y3 : (b == 7) = false := by simpa using BW2
        have y4 : decide (b = 7) = false := by simpa using BW2
        have hw : want1 b = 0 := by unfold want1; first | rw [if_pos (by omega)] | rw [if_neg (by omega), if_neg (by omega)]
        rw [hw] at C10
        clear hw
        go_wp2_with fail
        with_reducible refine (C10.out).mono ?_
        rintro e w11 ⟨rfl, hb⟩
        have B11 := Lib.hid (bstep B10.out B10.out.size hb)
        clear hb
        go_wp2_with fail
        go_ret
        exact ⟨rfl, B11.out⟩
      have x1 : 0 ≤ a := by omega
      have x2 : a ≤ 9999 := by omega
      have x3 : ¬ 0 < a := by omega
      have hw : want0 m a = 0 := by unfold want0; first | rw [if_neg (by omega)] | rw [if_pos (by omega), if_pos (by omega)] | rw [if_pos (by omega), if_neg (by omega)]
      rw [hw] at C7
      clear hw
      go_wp2_with fail
      with_reducible refine (C7.out).mono ?_
      rintro e w8 ⟨rfl, hb⟩
      have B8 := Lib.hid (bstep B7.out B7.out.size hb)
      have S8 := Lib.hid (show wr.heap.size ≤ w8.heap.size from (Nat.le_trans S7.out hb.size))
      have F8 := Lib.hid (F7.out.keep hb (by have := S7.out; omega) (by have := S7.out; omega) (by have := S7.out; omega))
      have N8 := Lib.hid (N7.out.keep hb)
      have O8 := Lib.hid (ouB_keep O7.out hb (ouB_lt O7.out))
      have D8 := Lib.hid ((hb.block _ (Array.getElem?_eq_some_iff.1 D7.out).1).trans D7.out)
      have K8 := Lib.hid ((hb.block _ (Array.getElem?_eq_some_iff.1 K7.out).1).trans K7.out)
      clear q0 q1 q2 q3 q4 q5 q6 q7 q8 q9 q10 hgw C7 hb i0 i1 r0 r1 hgd6 hd6
      obtain ⟨q0, q1, q2, q3, q4, q5, q6, q7, q8, q9⟩ := ouB_cell O8.out
      change _ = some (Value.int .u8 0) at q2 q3 q4 q5
      have hgw := ouB_lt O8.out
      obtain ⟨u8, hu8⟩ := get_lt (l := ls7) (k := 0) (by have := congrArg List.length P7.out; rw [List.length_map, idF_len] at this; omega)
      obtain ⟨bb, off, hbb, -, hat⟩ := (ownE_es N8.out.own).2.2.at hu8
      cases hbb
      have r0 : w8.cell? ⟨gd, 0, none⟩ = some (.int .i64 u8.x.id) := by have := (atD hat).1; simpa using this
      have r1 := ownE_free N8.out.own 0
      have hgd8 : gd < w8.heap.size := by have := S8.out; omega
      have hd8 : w.heap.size < w8.heap.size := (Array.getElem?_eq_some_iff.1 D8.out).1
      clear hat
      have hP7 : (idF m (idD a 7 8))[0]? = some (idD a 7 8) := by have := idF_get (d := idD a 7 8) hm0; simpa using this
      obtain ⟨ls9, N9', P9', A9'⟩ := N8.out.id0 (id := 0) P7.out hP7
      have N9 := Lib.hid N9'
      have P9 := Lib.hid (show ls9.map Lo.x = idL m by rw [P9', ← idF_self m]; unfold idF; rw [List.set_set]; rfl)
      have A9 := Lib.hid (A9'.trans A7.out)
      have F9 := Lib.hid (show IdF (w1.heap.size) (w1.heap.size + 1 + 1) (w1.heap.size + 1) (w8.setCell ⟨gd, 0, none⟩ (.int .i64 0)) from ⟨by rw [heap_setCell_other _ _ _ _ (by simp <;> omega)]; exact F8.out.v, by rw [heap_setCell_other _ _ _ _ (by simp <;> omega)]; exact F8.out.p, by rw [heap_setCell_other _ _ _ _ (by simp <;> omega)]; exact F8.out.i⟩)
      have O9 := Lib.hid (ouB_other (o := 0) (.int .i64 0) O8.out (show w1.heap.size + 1 + 1 + 1 ≠ gd by omega))
      have D9 := Lib.hid (show (w8.setCell ⟨gd, 0, none⟩ (.int .i64 0)).heap[w.heap.size]? = some (.cells #[.int .i64 a, .int .i64 b] 43 (0, 0)) by rw [heap_setCell_other _ _ _ _ (by simp; omega)]; exact D8.out)
      have K9 := Lib.hid (show (w8.setCell ⟨gd, 0, none⟩ (.int .i64 0)).heap[b0]? = some (idB 8) by rw [heap_setCell_other _ _ _ _ (by simp; exact fun e => hne0 e.symm)]; exact K8.out)
      have B9 := Lib.hid (B8.out.setCell (p := ⟨gd, 0, none⟩) (by simp; omega) (.int .i64 0))
      clear N9' P9' A9' hP7
      go_wp2_with fail
      generalize w8.setCell ⟨gd, 0, none⟩ (.int .i64 0) = X9 at *
      clear q0 q1 q2 q3 q4 q5 q6 q7 q8 q9 r0 r1 hgw hd8
      obtain ⟨q0, q1, q2, q3, q4, q5, q6, q7, q8, q9⟩ := ouB_cell O9.out
      change _ = some (Value.int .u8 0) at q2 q3 q4 q5
      have hgw := ouB_lt O9.out
      have hd9 : w.heap.size < X9.heap.size := (Array.getElem?_eq_some_iff.1 D9.out).1
      have hb9 : b0 < X9.heap.size := (Array.getElem?_eq_some_iff.1 K9.out).1
      have i0 : X9.cell? ⟨w.heap.size, 0, none⟩ = some (.int .i64 a) := Joins.cell_of_block D9.out 0
      have i1 : X9.cell? ⟨w.heap.size, 1, none⟩ = some (.int .i64 b) := Joins.cell_of_block D9.out 1
      obtain ⟨u9, hu9⟩ := get_lt (l := ls9) (k := 0) (by have := congrArg List.length P9.out; rw [List.length_map, idL_len] at this; omega)
      obtain ⟨bb, off, hbb, hgd9, hat⟩ := (ownE_es N9.out.own).2.2.at hu9
      cases hbb
      have hA9 := A9.out
      rw [hu9] at hA9
      have hA9 : u9.A = some ⟨b0, 0, none⟩ := by simpa using hA9
      have hx9 : u9.x = idN 0 := by
        have := congrArg (fun l => l[0]?) P9.out
        simp only [List.getElem?_map, hu9, idL_get hm0] at this
        simpa using this
      have r4 : X9.cell? ⟨gd, 4, none⟩ = some (.slice (some ⟨b0, 0, none⟩) 2 u9.c) := by
        have := (atD hat).2.2.2.2
        rw [hA9, hx9] at this
        simpa using (show _ = some (Value.slice (some ⟨b0, 0, none⟩) 2 u9.c) from this)
      have k4 : X9.cell? ⟨b0, 4, none⟩ = some (.int .i64 8) := Joins.cell_of_block (show X9.heap[b0]? = some (.cells #[.int .i64 7, .int .i64 0, .int .i64 0, .int .i64 0, .int .i64 8, .int .i64 0, .int .i64 0, .int .i64 0] 47 (0, 0)) from K9.out) 4
      have k5 : X9.frozen? ⟨b0, 4, none⟩ = false := by
        have := K9.out
        unfold idB at this
        simp [World.frozen?, this]
      clear hat hA9 hx9 hu9
      go_still_tail 9, (by kernel_rfl)
      obtain ⟨ls10, N10', P10⟩ := OwnN.tri0 (b := b) hm0 N9.out P9.out A9.out hb2 hne0 K9.out
      have N10 := Lib.hid (show OwnN ED ER Dr.tris ((X9.setCell ⟨b0, 4, none⟩ (.int .i64 b)).drew) (w1.heap.size + 4) (.slice (some ⟨gd, 0, none⟩) m dc) ls10 from ⟨N10'.own, N10'.els, N10'.cap⟩)
      have F10 := Lib.hid (show IdF (w1.heap.size) (w1.heap.size + 1 + 1) (w1.heap.size + 1) ((X9.setCell ⟨b0, 4, none⟩ (.int .i64 b)).drew) from ⟨(heap_setCell_other _ _ _ _ (by simp <;> omega)).trans F9.out.v, (heap_setCell_other _ _ _ _ (by simp <;> omega)).trans F9.out.p, (heap_setCell_other _ _ _ _ (by simp <;> omega)).trans F9.out.i⟩)
      have O10 := Lib.hid (show ((X9.setCell ⟨b0, 4, none⟩ (.int .i64 b)).drew).heap[w1.heap.size + 1 + 1 + 1]? = _ from ouB_other (o := 4) (.int .i64 b) O9.out (by omega))
      have B10 := Lib.hid (show Below w.heap.size w ((X9.setCell ⟨b0, 4, none⟩ (.int .i64 b)).drew) from (B9.out.setCell (p := ⟨b0, 4, none⟩) (by simp; omega) (.int .i64 b)).drew)
      have C10 := Lib.hid (CK.out 0 7 b z0 z7 HAB.out.2 _ ls10 F10.out N10.out P10)
      rw [ids_second hm0 hm8] at C10
      clear N10'
      by_cases BW0 : b < 0
      · have hw : want1 b = 24 := by unfold want1; first | rw [if_pos (by omega)] | rw [if_neg (by omega), if_neg (by omega)]
        rw [hw] at C10
        clear hw
        go_wp2_with fail
        with_reducible refine (C10.out).mono ?_
        rintro e w11 ⟨rfl, hb⟩
        have B11 := Lib.hid (bstep B10.out B10.out.size hb)
        clear hb
        go_wp2_with fail
        go_ret
        exact ⟨rfl, B11.out⟩
      by_cases BW1 : 9999 < b
      · have hw : want1 b = 24 := by unfold want1; first | rw [if_pos (by omega)] | rw [if_neg (by omega), if_neg (by omega)]
        rw [hw] at C10
        clear hw
        go_wp2_with fail
        with_reducible refine (C10.out).mono ?_
        rintro e w11 ⟨rfl, hb⟩
        have B11 := Lib.hid (bstep B10.out B10.out.size hb)
        clear hb
        go_wp2_with fail
        go_ret
        exact ⟨rfl, B11.out⟩
      by_cases BW2 : b = 7
      · subst BW2
        have hw : want1 7 = 25 := by rfl
        rw [hw] at C10
        clear hw
        go_wp2_with fail
        with_reducible refine (C10.out).mono ?_
        rintro e w11 ⟨rfl, hb⟩
        have B11 := Lib.hid (bstep B10.out B10.out.size hb)
        clear hb
        go_wp2_with fail
        go_ret
        exact ⟨rfl, B11.out⟩
      have y3 : (b == 7) = false := by simpa using BW2
      have y4 : decide (b = 7) = false := by simpa using BW2
      have hw : want1 b = 0 := by unfold want1; first | rw [if_pos (by omega)] | rw [if_neg (by omega), if_neg (by omega)]
      rw [hw] at C10
      clear hw
      go_wp2_with fail
      with_reducible refine (C10.out).mono ?_
      rintro e w11 ⟨rfl, hb⟩
      have B11 := Lib.hid (bstep B10.out B10.out.size hb)
      clear hb
      go_wp2_with fail
      go_ret
      exact ⟨rfl, B11.out⟩
end Go.Proofs.Ytnpcmoeleigpoaa
