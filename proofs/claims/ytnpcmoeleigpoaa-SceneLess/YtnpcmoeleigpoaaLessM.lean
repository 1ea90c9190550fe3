/-
  What SceneLess makes.
-/
import Derived.Test.YtnpcmoeleigpoaaOrdM
import Derived.Laws.Slices
namespace Go.Proofs.Ytnpcmoeleigpoaa
open Go.RowKit

theorem addr_add (b o j : Nat) : (⟨b, o, none⟩ : Addr).add j = ⟨b, o + j, none⟩ := by unfold Addr.add; split <;> simp_all
theorem cutD_low {b off n c m : Nat} (hm : m ≤ n) (hn : n ≤ c) : ∃ A', (∀ w, (Instr.sliceAt 27 (.slice (some ⟨b, off, none⟩) n c) (some (.int .i64 (m : Int))) none none).run Try.prog w = .ok (.slice A' (n - m) (c - m)) w) ∧
    ∀ w B (xs : List (Lo Dr)), xs.length = n → Es ED w B (some ⟨b, off, none⟩) xs → Es ED w B A' (xs.drop m) := by
  have h1 : (0 : Int) ≤ (m : Int) := by omega
  have h2 : (m : Int) ≤ (n : Int) := by omega
  have hu : Try.prog.underlying 27 = some (.slice (Try.prog.elem 27)) := by kernel_rfl
  refine ⟨if c = m then some ⟨b, off, none⟩ else some ⟨b, off + m * 5, none⟩, fun w => ?_, fun w B xs hl h => ?_⟩
  · rw [run_sliceAt_slice w 27 _ _ _ _ hu, run_slice_l w 27 _ _ _ hu .i64 (m : Int) h1 h2]
    have hs : (sizeOf (Try.prog.elem 27)).run Try.prog w = .ok 5 w := by kernel_rfl
    rw [hs, Result.andThen_ok]
    by_cases e : c = m
    · simp [sliced, e]
    · simp [sliced, e, addr_add]
  · by_cases e : c = m
    · rw [if_pos e]
      intro hne
      exact absurd (List.drop_of_length_le (by omega)) hne
    · rw [if_neg e]
      intro hne
      obtain ⟨b', o, e2, hB, hc⟩ := h (by rintro rfl; simp at hne)
      cases e2
      refine ⟨b, off + m * 5, rfl, hB, fun j u hj => ?_⟩
      rw [List.getElem?_drop] at hj
      have := hc _ _ hj
      have e3 : off + m * 5 + j * ED.size = off + (m + j) * ED.size := by
        show off + m * 5 + j * 5 = off + (m + j) * 5
        omega
      rw [e3]
      exact this
/-- The program that nobody names. -/
def nearP : List C.In := [⟨13, 0, 0, 0, 0⟩]
def v1 : U.V := ⟨0, 0, 0, 1, 0, 0, 0, 0⟩
/-- A scene with other vertices and programs. -/
def Sc.mo (f : Sc) (vs : List U.V) (vA : Option Addr) (vc : Nat) (ps : List (Lo (List C.In))) (pA : Option Addr) (pc : Nat) : Sc := ⟨f.w, f.h, f.k, vs, vA, vc, f.ts, f.tA, f.tc, ps, pA, pc, f.ds, f.dA, f.dc⟩
theorem mo_p (f : Sc) (v : U.V) (l : List (List C.In)) (ps : List (Lo (List C.In))) (vA pA : Option Addr) (vc pc : Nat) (h : ps.map Lo.x = f.p.ps ++ l) : (f.mo (f.vs ++ [v]) vA vc ps pA pc).p = f.p.mo [v] l := by
  show PS.mk f.w f.h f.k (f.vs ++ [v]) (f.ts.map Lo.x) (ps.map Lo.x) (f.ds.map Lo.x) = PS.mk f.w f.h f.k (f.vs ++ [v]) (f.ts.map Lo.x) (f.p.ps ++ l) (f.ds.map Lo.x)
  rw [h]
section
variable {X : World} {B : Nat} {f : Sc}
theorem kn_mo (h : Kn X B f) (hf : f.p.fit) (hB : B ≤ X.heap.size) {vA pA : Option Addr} {vc pc b1 b2 : Nat} {ps : List (Lo (List C.In))} {l : List (List C.In)} (hv : OwnE EV X b1 (.slice vA (f.vs.length + 1) vc) (f.vs ++ [v1])) (hp : OwnE EP X b2 (.slice pA ps.length pc) ps)
    (hx : ∀ l ∈ ps, Es C.EI X X.heap.size l.A l.x) (hc : ∀ l ∈ ps, l.x.length ≤ l.c) (hl : ps.map Lo.x = f.p.ps ++ l) (hl2 : l = [] ∨ l = [nearP] ∧ f.p.ps.length < 4) :
    Kn X X.heap.size (f.mo (f.vs ++ [v1]) vA vc ps pA pc) ∧ check (f.mo (f.vs ++ [v1]) vA vc ps pA pc).p = 0 := by
  have h' := h.more hB
  have e := mo_p f v1 l ps vA pA vc pc hl
  have hq := hf.q
  have hv2 := hf.v
  have hv' : OwnE EV X b1 (.slice vA (f.vs ++ [v1]).length vc) (f.vs ++ [v1]) := by simpa using hv
  have hll : l.length ≤ 1 ∧ (f.p.ps ++ l).length ≤ 4 := by
    rcases hl2 with rfl | ⟨rfl, h4⟩
    · simp
      omega
    · simp
      omega
  have hvl : (f.p.vs ++ [v1]).length ≤ 64 := by
    rw [List.length_append]
    simp
    omega
  have hlok : ∀ p ∈ l, ∀ x ∈ p, x.ok := fun p hp x hx => by
    rcases hl2 with rfl | ⟨rfl, -⟩
    · cases hp
    · obtain rfl : p = nearP := by simpa using hp
      obtain rfl : x = ⟨13, 0, 0, 0, 0⟩ := by simpa [nearP] using hx
      constructor <;> dsimp only <;> first | omega | exact i64s (by decide) (by decide)
  have hlfew : ∀ p ∈ l, p.length ≤ 1000 := fun p hp => by
    rcases hl2 with rfl | ⟨rfl, -⟩
    · cases hp
    · obtain rfl : p = nearP := by simpa using hp
      show 1 ≤ 1000
      omega
  have hlc : l.all (fun l => decide (C.chk l = 0)) = true := by
    rcases hl2 with rfl | ⟨rfl, -⟩
    · rfl
    · decide
  refine ⟨⟨⟨(ownE_es hv').2.2, h'.at'.t, h'.at'.tx, (ownE_es hp).2.2, hx, h'.at'.d, h'.at'.dx⟩, ⟨(ownE_es hv').2.1, h.cap.t, h.cap.tx, (ownE_es hp).2.1, hc, h.cap.d, h.cap.dx⟩, ?_, ?_⟩, ?_⟩
  · rw [e]
    refine ⟨h.ok.w, h.ok.h, h.ok.k, fun x hx => ?_, h.ok.ts, fun x hx => ?_, h.ok.ds⟩
    · rcases List.mem_append.1 (show x ∈ f.p.vs ++ [v1] from hx) with hx | hx
      · exact h.ok.vs x hx
      · obtain rfl : x = v1 := by simpa using hx
        constructor <;> exact i64s (by decide) (by decide)
    · rcases List.mem_append.1 (show x ∈ f.p.ps ++ l from hx) with hx | hx
      · exact h.ok.ps x hx
      · exact hlok x hx
  · rw [e]
    refine ⟨?_, h.few.ts, h.few.tx, ?_, fun x hx => ?_, h.few.ds, h.few.dx⟩
    · show (f.p.vs ++ [v1]).length ≤ 1000
      omega
    · show (f.p.ps ++ l).length ≤ 1000
      omega
    · rcases List.mem_append.1 (show x ∈ f.p.ps ++ l from hx) with hx | hx
      · exact h.few.px x hx
      · exact hlfew x hx
  · rw [e]
    exact check_more hf.c (by decide) hvl hlc hll.2
theorem count_le {p : PS} (h : p.fit) : count p ≤ 60 := by
  unfold count
  have key : ∀ l : List Nat, (∀ x ∈ l, x ≤ 10) → l.sum ≤ l.length * 10 := by
    intro l
    induction l with
    | nil => simp
    | cons a l ih =>
      intro h
      have h1 := ih fun x hx => h x (List.mem_cons_of_mem _ hx)
      have h2 := h a (by simp)
      rw [List.sum_cons, List.length_cons]
      omega
  have := key (p.ds.map fun d => d.tris.length) (fun x hx => by
    obtain ⟨d, hd, rfl⟩ := List.mem_map.1 hx
    exact h.n d hd)
  rw [List.length_map] at this
  have := h.d
  omega
end
end Go.Proofs.Ytnpcmoeleigpoaa
