/-
  The contracts of pointsRight, with its closures, and of texRight.
-/
import Derived.Test.YtnpcmoeleigpoaaPure
namespace Go.Proofs.Ytnpcmoeleigpoaa
open Go.RowKit
attribute [local go_sem ↓] Go.wp_at_zero Go.wp_at_succ

theorem mk_func (fn : Fn) (first cap : Array Value) (w : World) : (Instr.makeFunc fn first cap).run Try.prog w = .ok (.func fn first cap) w := rfl
theorem enters62 (args : Array Value) (w : World) : (callFunc 62 args).run Try.prog w = .ok (.enter 62 args) w := by
  go_simp
theorem enters61 (args : Array Value) (w : World) : (callFunc 61 args).run Try.prog w = .ok (.enter 61 args) w := by
  go_simp
theorem onVerts_any (s : Sc) (g : Nat) (v : Int) (hm : s.vs.length ≤ 1000) (w : World) (hg : w.heap[g]? = some (scB s)) :
    Calls Try.prog 62 #[.int .i64 v, .pointer (some ⟨g, 0, none⟩)] w fun e w' => e = .returned (.bool (inB v 0 (s.vs.length - 1))) ∧ Below w.heap.size w w' := by
  have HP := Lib.hid (isPlace63 v s.vA s.vs.length s.vc hm)
  obtain ⟨c0, c1, c2, c3, c4, c5, c6, c7, c8, c9⟩ := scB_cell hg
  generalize inB v 0 (s.vs.length - 1) = r at *
  clear hg c0 c1 c2 c3 c4 c5 c7 c8 c9
  go_enter Try.func62, Try.ntmps62
  go_wp2_with fail
  with_reducible refine (HP.out _).mono ?_
  rintro e w' ⟨rfl, rfl⟩
  go_wp2
  go_ret
  exact ⟨rfl, Below.refl _ _⟩
def trB (t : Tr) : Obj := .cells #[.int .i64 t.i, .int .i64 t.a, .int .i64 t.b, .int .i64 t.c] 47 (0, 0)
theorem trB_cell {w : World} {g : Nat} {t : Tr} (h : w.heap[g]? = some (trB t)) : w.cell? ⟨g, 0, none⟩ = some (.int .i64 t.i) ∧ w.cell? ⟨g, 1, none⟩ = some (.int .i64 t.a) ∧ w.cell? ⟨g, 2, none⟩ = some (.int .i64 t.b) ∧ w.cell? ⟨g, 3, none⟩ = some (.int .i64 t.c) := by
  unfold trB at h
  exact ⟨Joins.cell_of_block h 0, Joins.cell_of_block h 1, Joins.cell_of_block h 2, Joins.cell_of_block h 3⟩
theorem three_es {w : World} {g : Nat} {t : Tr} (h : w.heap[g]? = some (trB t)) : Es EN w w.heap.size (some ⟨g, 1, none⟩) [t.a, t.b, t.c] := fun _ => by
  obtain ⟨c0, c1, c2, c3⟩ := trB_cell h
  refine ⟨g, 1, rfl, (Array.getElem?_eq_some_iff.1 h).1, fun j u hj i v hv => ?_⟩
  have hi : i = 0 := by
    rcases Nat.eq_zero_or_pos i with h | h
    · exact h
    · rw [List.getElem?_eq_none (by simp [EN]; omega)] at hv; cases hv
  subst hi
  obtain rfl : Value.int .i64 u = v := by simpa [EN] using hv
  rcases (show j = 0 ∨ j = 1 ∨ j = 2 ∨ 3 ≤ j by omega) with rfl | rfl | rfl | h3
  · obtain rfl : t.a = u := by simpa using hj
    exact c1
  · obtain rfl : t.b = u := by simpa using hj
    exact c2
  · obtain rfl : t.c = u := by simpa using hj
    exact c3
  · rw [List.getElem?_eq_none (by simpa using h3)] at hj; cases hj
set_option maxRecDepth 100000 in
set_option maxHeartbeats 2000000 in
theorem triRight_any (s : Sc) (g : Nat) (t : Tr) (hm : s.vs.length ≤ 1000) (w : World) (hg : w.heap[g]? = some (scB s)) :
    Calls Try.prog 61 #[.agg #[.int .i64 t.i, .int .i64 t.a, .int .i64 t.b, .int .i64 t.c], .pointer (some ⟨g, 0, none⟩)] w fun e w' => e = .returned (.bool (triB s.vs.length t)) ∧ Below w.heap.size w w' := by
  have hmf := mk_func
  have HI := Lib.hid (isId_any t.i)
  have HV := Lib.hid (fun v W (hb : Below w.heap.size w W) => onVerts_any s g v hm W (scB_keep hg hb (scB_lt hg)))
  have HA := Lib.hid (show ∀ W, Below w.heap.size w W → W.heap[w.heap.size]? = some (trB t) → Calls Try.prog 65 #[.slice (some ⟨w.heap.size, 1, none⟩) 3 3, .func (.func 62) #[] #[.pointer (some ⟨g, 0, none⟩)]] W fun e w' => e = .returned (.bool ([t.a, t.b, t.c].all (fun v => inB v 0 (s.vs.length - 1)))) ∧ Below W.heap.size W w' from fun W (hb : Below w.heap.size w W) (hW : W.heap[w.heap.size]? = some (trB t)) => all65_any (fun v => inB v 0 (s.vs.length - 1)) 62 #[.pointer (some ⟨g, 0, none⟩)] enters62 [t.a, t.b, t.c] (some ⟨w.heap.size, 1, none⟩) 3 (by simp) W (three_es hW) (fun x _ W2 h2 => HV.out x W2 (hb.trans (h2.mono hb.size))))
  have HB := Lib.hid (new_below w (.cells #[.int .i64 t.i, .int .i64 t.a, .int .i64 t.b, .int .i64 t.c] 47))
  have HT := Lib.hid (show (w.alloc (.cells #[.int .i64 t.i, .int .i64 t.a, .int .i64 t.b, .int .i64 t.c] 47)).heap[w.heap.size]? = some (trB t) from heap_alloc_new _ _)
  have hgw := scB_lt hg
  unfold triB
  generalize ([t.a, t.b, t.c].all fun v => inB v 0 (s.vs.length - 1)) = r at *
  cases hi : inB t.i 0 9999
  · rw [hi] at HI
    clear hi hg HA HV
    go_enter Try.func61, Try.ntmps61
    go_wp2_with fail
    with_reducible refine (HI.out _).mono ?_
    rintro e w' ⟨rfl, rfl⟩
    go_wp2
    go_ret
    exact ⟨rfl, HB.out⟩
  · rw [hi] at HI
    clear hi hg HV
    go_enter Try.func61, Try.ntmps61
    go_wp2_with fail
    with_reducible refine (HI.out _).mono ?_
    rintro e w' ⟨rfl, rfl⟩
    go_wp2_with fail
    with_reducible refine (HA.out _ HB.out HT.out).mono ?_
    rintro e w2 ⟨rfl, hb⟩
    have B2 := Lib.hid (bstep HB.out HB.out.size hb)
    clear hb
    go_wp2
    go_ret
    exact ⟨by simp, B2.out⟩
set_option maxRecDepth 100000 in
set_option maxHeartbeats 2000000 in
theorem texRight_any (s : Sc) (l : Lo Dr) (w : World) (ha : s.at w w.heap.size) (hok : s.ok) (hf : s.few) (h0 : 0 ≤ l.x.prog) (h1 : l.x.prog ≤ s.ps.length - 1) :
    Calls Try.prog 67 #[.agg #[.int .i64 s.w, .int .i64 s.h, .int .u8 s.k.r, .int .u8 s.k.g, .int .u8 s.k.b, .int .u8 s.k.a, .slice s.vA s.vs.length s.vc, .slice s.tA s.ts.length s.tc, .slice s.pA s.ps.length s.pc, .slice s.dA s.ds.length s.dc], .agg #[.int .i64 l.x.id, .int .i64 l.x.prog, .int .i64 l.x.tex, .bool l.x.op, .slice l.A l.x.tris.length l.c]] w fun e w' => e = .returned (.bool (texB s.p l.x)) ∧ Below w.heap.size w w' := by
  have hk : l.x.prog.toNat < s.ps.length := by omega
  obtain ⟨u, hu⟩ := get_lt hk
  obtain ⟨b, off, hA, hbB, hat⟩ := ha.p.at hu
  have hc := atP hat
  have hmu := List.mem_of_getElem? hu
  have HP := Lib.hid (isPlace74 l.x.tex s.tA s.ts.length s.tc hf.ts)
  have HK := Lib.hid (fun o o' => bstep (new_below w o) (by simp) (new_below _ o'))
  have HS := Lib.hid (fun W (hb : Below w.heap.size w W) => C.samples_any u.x u.A u.c (hf.px u hmu) (hok.ps u hmu).1 W (((ha.px u hmu).below hb).sharp))
  have e1 : texB s.p l.x = if l.x.tex = -1 then !(u.x.any C.tex) else inB l.x.tex 0 (s.ts.length - 1) := by
    unfold texB Sc.p
    dsimp only
    rw [List.length_map, List.getD_eq_getElem?_getD, List.getElem?_map, hu]
    rfl
  rw [e1]
  obtain ⟨j, hj⟩ : ∃ j, l.x.prog.toNat = j := ⟨_, rfl⟩
  rw [hj] at hk hc
  have hp : l.x.prog = j := by omega
  have c0 : w.cell? ⟨b, off + j, none⟩ = some (.slice u.A u.x.length u.c) := by simpa [EP] using hc
  rw [hA, hp]
  generalize s.ps.length = n at *
  have hjn : (j : Int) < n := by omega
  clear ha hok hf e1 hu hat hc hmu h0 h1 hj hp hA
  by_cases ht : l.x.tex = -1
  · rw [if_pos ht]
    have d1 : (l.x.tex == -1) = true := by simp [ht]
    have d2 : decide (l.x.tex = -1) = true := by simp [ht]
    clear ht HP
    go_enter Try.func67, Try.ntmps67
    go_wp2_with fail
    with_reducible refine (HS.out _ (HK.out _ _)).mono ?_
    rintro e w2 ⟨rfl, hb⟩
    have B3 := Lib.hid (bstep (HK.out _ _) (HK.out _ _).size hb)
    clear hb
    go_wp2
    go_ret
    exact ⟨rfl, B3.out⟩
  · rw [if_neg ht]
    have d1 : (l.x.tex == -1) = false := by simp [ht]
    have d2 : decide (l.x.tex = -1) = false := by simp [ht]
    clear ht HS
    go_enter Try.func67, Try.ntmps67
    go_wp2_with fail
    with_reducible refine (HP.out _).mono ?_
    rintro e w2 ⟨rfl, rfl⟩
    go_wp2
    go_ret
    exact ⟨rfl, HK.out _ _⟩
end Go.Proofs.Ytnpcmoeleigpoaa
