/-
  The reference's numbers of a colour, a vertex, a draw; a row under way beside a block.
-/
import Derived.Test.YtfmmfaeognoleaaGreatM7
import Derived.Test.YtfmmfaeognoleaaGreatM10
import Derived.Deep.Draws
import Derived.Test.YtfmmfaeognoleaaGreatM9
import Derived.Test.YtfmmfaeognoleaaGreatM6
import Derived.Deep.RegionHeld3
import Derived.BigQuiet
namespace Go.Proofs.YtfmmfaeognoleaaGreat
open Go.RowKit
attribute [local go_sem ↓] Go.wp_at_zero Go.wp_at_succ

/-- The row v of numbers is the call's own, behind a block that holds O. -/
structure RB (w : World) (O : Obj) (acc : List Int) (v : Value) (W : World) : Prop where
  b : Below w.heap.size w W
  g : W.heap[w.heap.size]? = some O
  o : OwnE EN W (w.heap.size + 1) v acc
section
variable {w t w1 W W' : World} {O : Obj} {acc acc' ys : List Int} {v v' : Value} {A : Option Addr} {B c m : Nat}
theorem RB.lt (h : RB w O acc v W) : w.heap.size < W.heap.size := (Array.getElem?_eq_some_iff.1 h.g).1
theorem RB.keep (h : RB w O acc v W) (hb : Below W.heap.size W W') : RB w O acc v W' := ⟨bstep h.b h.b.size hb, (hb.block _ h.lt).trans h.g, h.o.keep hb⟩
theorem RB.alloc (h : RB w O acc v W) (o : Obj) : RB w O acc v (W.alloc o) := h.keep (new_below W o)
theorem RB.app (h : RB w O acc v t) (e : acc ++ ys = acc') (h1 : w1.ownsRow (w.heap.size + 1) EN.t EN.size v' (acc.length + ys.length) (EN.flat acc ++ EN.flat ys)) (h2 : t.grownBy w1 v.ownBlock) : RB w O acc' v' w1 := by
  subst e
  obtain ⟨ho, hb⟩ := ownE_app h.o h1 h2 h.lt
  exact ⟨h.b.trans (hb.mono (Nat.le_succ _)), (hb.block _ (Nat.lt_succ_self _)).trans h.g, ho⟩
theorem wpl_rb {ops : Array Oper} {rest : List Oper} {o : Oper} {k : Act} {Q : Exit → Act → World → Prop} (hgd : o.guard = none) (RN : Row EN 54) (h : RB w O acc v t) (s x : Operand) (c m n : Nat) (hm : ys.length = m)
    (ho : o.op = .call { callee := .builtin .append, args := #[s, x], argTypes := #[54, 54] }) (hs : k.eval s = v) (hx : k.eval x = .slice A m c)
    (he : Es EN t B A ys) (e : acc ++ ys = acc') (hn : acc'.length = n) (hl : n ≤ 100000000)
    (hK : ∀ A' c' w', RB w O acc' (.slice A' n c') w' → wpList Tryz.prog ops Q rest (k.put o.dst (.slice A' n c')) w') : wpList Tryz.prog ops Q (o :: rest) k t := by
  have hz := congrArg List.length e
  rw [List.length_append] at hz
  refine wpList_append_ln hgd RN s x c m hm ho hs hx h.o he (by omega) (by omega) h.lt fun v' w' h1 h2 _ => ?_
  have hR := h.app e h1 h2
  obtain ⟨A', c', rfl, -, -, -⟩ := hR.o.es
  rw [hn] at hR ⊢
  exact hK A' c' w' hR
theorem opw_rb {o : Oper} {k : Act} {K : Act → World → Prop} {Q : Exit → Act → World → Prop} (RN : Row EN 54) (h : RB w O acc v t) (s x : Operand) (c m n : Nat) (hm : ys.length = m)
    (ho : o.op = .call { callee := .builtin .append, args := #[s, x], argTypes := #[54, 54] }) (hs : k.eval s = v) (hx : k.eval x = .slice A m c)
    (he : Es EN t B A ys) (e : acc ++ ys = acc') (hn : acc'.length = n) (hl : n ≤ 100000000)
    (hK : ∀ A' c' w', RB w O acc' (.slice A' n c') w' → t.grownBy w' v.ownBlock → K (k.put o.dst (.slice A' n c')) w') : o.wp Tryz.prog k t K Q := by
  have hz := congrArg List.length e
  rw [List.length_append] at hz
  subst hm
  refine opw_append_es RN s x c ho hs hx h.o he (by omega) (by omega) h.lt fun v' w' h1 h2 _ => ?_
  have hR := h.app e h1 h2
  obtain ⟨A', c', rfl, -, -, -⟩ := hR.o.es
  rw [hn] at hR ⊢
  exact hK A' c' w' hR h2
/-- What a list of numbers in the text makes. -/
theorem es_ints (t : World) (ys : List Int) (cs : Array Value) (h : cs.toList = EN.flat ys) (hl : ys.length ≤ 100000000) : Es EN (t.alloc (.cells cs 3)) (t.alloc (.cells cs 3)).heap.size (some ⟨t.heap.size, 0, none⟩) ys := (ownE_es (own_new (E := EN) t ys cs h hl)).2.2
end
theorem w64u {a : Int} (h : 0 ≤ a ∧ a ≤ 255) : IntKind.i64.wrap a = a := by rw [IntKind.wrap_i64]; omega
set_option maxRecDepth 100000 in
set_option maxHeartbeats 1000000 in
theorem parts15_any (c : Col) (hc : c.ok) (w : World) : Calls Tryz.prog 27 #[.agg #[.int .u8 c.r, .int .u8 c.g, .int .u8 c.b, .int .u8 c.a]] w (MadeE EN w.heap.size w (nC c)) := by
  have h1 := w64u hc.1
  have h2 := w64u hc.2.1
  have h3 := w64u hc.2.2.1
  have h4 := w64u hc.2.2.2
  have HO := Lib.hid (show OwnE EN ((w.alloc (.cells #[.int .u8 c.r, .int .u8 c.g, .int .u8 c.b, .int .u8 c.a] 23)).alloc (.cells #[.int .i64 c.r, .int .i64 c.g, .int .i64 c.b, .int .i64 c.a] 3)) w.heap.size (.slice (some ⟨w.heap.size + 1, 0, none⟩) 4 4) (nC c) from by
    have h := own_new (E := EN) (w.alloc (.cells #[.int .u8 c.r, .int .u8 c.g, .int .u8 c.b, .int .u8 c.a] 23)) (nC c) #[.int .i64 c.r, .int .i64 c.g, .int .i64 c.b, .int .i64 c.a] rfl (by simp [nC])
    rw [World.size_alloc] at h
    exact h.less (Nat.le_succ _))
  have HB := Lib.hid (bstep (new_below w (.cells #[.int .u8 c.r, .int .u8 c.g, .int .u8 c.b, .int .u8 c.a] 23)) (by simp) (new_below (w.alloc (.cells #[.int .u8 c.r, .int .u8 c.g, .int .u8 c.b, .int .u8 c.a] 23)) (.cells #[.int .i64 c.r, .int .i64 c.g, .int .i64 c.b, .int .i64 c.a] 3)))
  clear hc
  go_enter Tryz.func27, Tryz.ntmps27
  go_wp2
  go_ret
  exact ⟨.slice (some ⟨w.heap.size + 1, 0, none⟩) 4 4, rfl, HO.out, HB.out⟩
set_option maxRecDepth 100000 in
set_option maxHeartbeats 1000000 in
theorem vert15_any (v : U.V) (w : World) : Calls Tryz.prog 28 #[.agg #[.int .i64 v.x, .int .i64 v.y, .int .i64 v.z, .int .i64 v.w, .int .i64 v.a, .int .i64 v.b, .int .i64 v.c, .int .i64 v.d]] w (MadeE EN w.heap.size w (nV v)) := by
  have HO := Lib.hid (show OwnE EN ((w.alloc (.cells #[.int .i64 v.x, .int .i64 v.y, .int .i64 v.z, .int .i64 v.w, .int .i64 v.a, .int .i64 v.b, .int .i64 v.c, .int .i64 v.d] 74)).alloc (.cells #[.int .i64 v.x, .int .i64 v.y, .int .i64 v.z, .int .i64 v.w, .int .i64 v.a, .int .i64 v.b, .int .i64 v.c, .int .i64 v.d] 3)) w.heap.size (.slice (some ⟨w.heap.size + 1, 0, none⟩) 8 8) (nV v) from by
    have h := own_new (E := EN) (w.alloc (.cells #[.int .i64 v.x, .int .i64 v.y, .int .i64 v.z, .int .i64 v.w, .int .i64 v.a, .int .i64 v.b, .int .i64 v.c, .int .i64 v.d] 74)) (nV v) #[.int .i64 v.x, .int .i64 v.y, .int .i64 v.z, .int .i64 v.w, .int .i64 v.a, .int .i64 v.b, .int .i64 v.c, .int .i64 v.d] rfl (by simp [nV])
    rw [World.size_alloc] at h
    exact h.less (Nat.le_succ _))
  have HB := Lib.hid (bstep (new_below w (.cells #[.int .i64 v.x, .int .i64 v.y, .int .i64 v.z, .int .i64 v.w, .int .i64 v.a, .int .i64 v.b, .int .i64 v.c, .int .i64 v.d] 74)) (by simp) (new_below (w.alloc (.cells #[.int .i64 v.x, .int .i64 v.y, .int .i64 v.z, .int .i64 v.w, .int .i64 v.a, .int .i64 v.b, .int .i64 v.c, .int .i64 v.d] 74)) (.cells #[.int .i64 v.x, .int .i64 v.y, .int .i64 v.z, .int .i64 v.w, .int .i64 v.a, .int .i64 v.b, .int .i64 v.c, .int .i64 v.d] 3)))
  go_enter Tryz.func28, Tryz.ntmps28
  go_wp2
  go_ret
  exact ⟨.slice (some ⟨w.heap.size + 1, 0, none⟩) 8 8, rfl, HO.out, HB.out⟩
set_option maxRecDepth 100000 in
set_option maxHeartbeats 4000000 in
theorem draw15_false (id prog tex : Int) (tris : List Tr) (A : Option Addr) (c : Nat) (hu : tris.length ≤ 100000) (w : World) (ha : Es ER w w.heap.size A tris) :
    Calls Tryz.prog 29 #[.agg #[.int .i64 id, .int .i64 prog, .int .i64 tex, .bool false, .slice A tris.length c]] w (MadeE EN w.heap.size w (nD ⟨id, prog, tex, false, tris⟩)) := by
  obtain ⟨RN⟩ := rowN
  obtain ⟨Y, y0, yn, ys, y1⟩ := said_steps [id, prog, tex, 0] nR tris (N := 100000000) (by
    have := many_le (g := nR) (K := 4) (l := tris) fun _ _ => Nat.le_refl 4
    simp only [List.length_cons, List.length_nil]
    omega)
  have hnD : nD ⟨id, prog, tex, false, tris⟩ = Y tris.length := yn.symm
  rw [hnD]
  obtain ⟨OB, hOB⟩ : ∃ o, (drB ⟨⟨id, prog, tex, false, tris⟩, A, c⟩ : Obj) = o := ⟨_, rfl⟩
  have hnew : (w.alloc (.cells #[.int .i64 id, .int .i64 prog, .int .i64 tex, .bool false, .slice A tris.length c] 51)).heap[w.heap.size]? = some OB := by rw [← hOB]; exact heap_alloc_new _ _
  have HI := Lib.hid (own_new (E := EN) (w.alloc (.cells #[.int .i64 id, .int .i64 prog, .int .i64 tex, .bool false, .slice A tris.length c] 51)) (Y 0) #[.int .i64 id, .int .i64 prog, .int .i64 tex, .int .i64 0, .int .i64 tris.length] (by rw [y0]; rfl) (by rw [y0]; simp))
  have HI0 := Lib.hid (show RB w OB (Y 0) (.slice (some ⟨w.heap.size + 1, 0, none⟩) 5 5) ((w.alloc (.cells #[.int .i64 id, .int .i64 prog, .int .i64 tex, .bool false, .slice A tris.length c] 51)).alloc (.cells #[.int .i64 id, .int .i64 prog, .int .i64 tex, .int .i64 0, .int .i64 tris.length] 3)) from
    ⟨bstep (new_below w _) (by simp) (new_below (w.alloc (.cells #[.int .i64 id, .int .i64 prog, .int .i64 tex, .bool false, .slice A tris.length c] 51)) _), (heap_alloc_old _ _ (by simp)).trans hnew, by
      have h := HI.out
      rw [World.size_alloc, y0] at h
      rw [y0]
      exact h⟩)
  have HL := Lib.hid (fun (k : Nat) (h : k < tris.length) => get_lt h)
  have HE := Lib.hid ha
  have HY := Lib.hid ys
  have hc0 : ∀ W : World, W.heap[w.heap.size]? = some OB → W.cell? ⟨w.heap.size, 4, none⟩ = some (.slice A tris.length c) := fun W h => by
    rw [← hOB] at h
    exact (drB_cell h).2.2.2.2
  have HC0 := Lib.hid hc0
  have hy0 : (Y 0).length = 5 := by rw [y0]; rfl
  replace hy0 := Lib.hid hy0
  obtain ⟨n, hn⟩ : ∃ n, tris.length = n := ⟨_, rfl⟩
  rw [hn] at HL HI0 hu HC0 ⊢
  clear hnD y0 yn ys y1 ha hOB hnew hc0 HI
  have hn' := Lib.hid hn
  clear hn
  go_enter Tryz.func29, Tryz.ntmps29
  go_wp2_with fail
  go_loopw [4, 5] (fun v i wr => ∃ (j : Nat) (A' : Option Addr) (c' : Nat), j ≤ n ∧ i = .int .i64 j ∧ v = .slice A' (Y j).length c' ∧ RB w OB (Y j) (.slice A' (Y j).length c') wr) (fun _ i _ => n - (intOf i).toNat)
  case atStart => exact ⟨0, _, _, Nat.zero_le _, rfl, by rw [hy0.out], by rw [hy0.out]; exact HI0.out⟩
  case round =>
    obtain ⟨j, A1, c1, hj, rfl, rfl, hR⟩ := hrel
    have HR := Lib.hid hR
    have k4 := HC0.out wr hR.g
    have gl := hR.lt
    have HBl := Lib.hid hR.b
    clear hR HI0
    by_cases hlt : j < n
    · obtain ⟨u, hu⟩ := HL.out j hlt
      obtain ⟨b, off, rfl, hbB, hat⟩ := HE.out.at hu
      obtain ⟨r0, r1, r2, r3⟩ := atR (show AtE ER wr b (off + j * 4) u from hat.below HBl.out hbB)
      have hy := HY.out j u hu
      have hbw : b < wr.heap.size := by omega
      have hjn : (j : Int) < n := by omega
      have HYl := Lib.hid hy
      clear hat hy
      go_upto_region 9 with fail
      have hS : (wr.alloc (.cells #[.int .i64 u.i, .int .i64 u.a, .int .i64 u.b, .int .i64 u.c] 86)).heap[wr.heap.size]? = some (.cells #[.int .i64 u.i, .int .i64 u.a, .int .i64 u.b, .int .i64 u.c] 86 (0, 0)) := heap_alloc_new _ _
      have hB : Below wr.heap.size wr (wr.alloc (.cells #[.int .i64 u.i, .int .i64 u.a, .int .i64 u.b, .int .i64 u.c] 86)) := new_below _ _
      obtain ⟨V, hT⟩ : ∃ T, (wr.alloc (.cells #[.int .i64 u.i, .int .i64 u.a, .int .i64 u.b, .int .i64 u.c] 86)) = T := ⟨_, rfl⟩
      rw [hT] at hS hB
      rw [hT]
      clear hT
      have t0 := Joins.cell_of_block hS 0
      have t1 := Joins.cell_of_block hS 1
      have t2 := Joins.cell_of_block hS 2
      have t3 := Joins.cell_of_block hS 3
      have hv : wr.heap.size < V.heap.size := (Array.getElem?_eq_some_iff.1 hS).1
      have HR2 := Lib.hid ((HR.out.keep hB).alloc (.cells #[.int .i64 u.i, .int .i64 u.a, .int .i64 u.b, .int .i64 u.c] 3))
      have HE2 := Lib.hid (es_ints V (nR u) #[.int .i64 u.i, .int .i64 u.a, .int .i64 u.b, .int .i64 u.c] rfl (by simp [nR]))
      clear hS hB k4 r0 r1 r2 r3
      go_wp2_with (at_builtin; refine wpl_rb (ys := nR u) (acc' := Y (j + 1)) rfl RN HR2.out _ _ 4 4 _ rfl rfl rfl rfl HE2.out HYl.out.1.symm rfl (by have := congrArg List.length HYl.out.1; have h2 := HYl.out.2; rw [List.length_append] at this; omega) ?_; intro A' c' w3 hR3)
      go_roundw
      case rel => exact ⟨j + 1, A', c', by omega, by go_num, rfl, hR3⟩
      case measure => simp [intOf]; omega
    · obtain rfl : j = n := by omega
      go_wp2_with fail
      go_ret
      exact ⟨_, rfl, HR.out.o.less (Nat.le_succ _), HR.out.b⟩
set_option maxRecDepth 100000 in
set_option maxHeartbeats 4000000 in
theorem draw15_true (id prog tex : Int) (tris : List Tr) (A : Option Addr) (c : Nat) (hu : tris.length ≤ 100000) (w : World) (ha : Es ER w w.heap.size A tris) :
    Calls Tryz.prog 29 #[.agg #[.int .i64 id, .int .i64 prog, .int .i64 tex, .bool true, .slice A tris.length c]] w (MadeE EN w.heap.size w (nD ⟨id, prog, tex, true, tris⟩)) := by
  obtain ⟨RN⟩ := rowN
  obtain ⟨Y, y0, yn, ys, y1⟩ := said_steps [id, prog, tex, 1] nR tris (N := 100000000) (by
    have := many_le (g := nR) (K := 4) (l := tris) fun _ _ => Nat.le_refl 4
    simp only [List.length_cons, List.length_nil]
    omega)
  have hnD : nD ⟨id, prog, tex, true, tris⟩ = Y tris.length := yn.symm
  rw [hnD]
  obtain ⟨OB, hOB⟩ : ∃ o, (drB ⟨⟨id, prog, tex, true, tris⟩, A, c⟩ : Obj) = o := ⟨_, rfl⟩
  have hnew : (w.alloc (.cells #[.int .i64 id, .int .i64 prog, .int .i64 tex, .bool true, .slice A tris.length c] 51)).heap[w.heap.size]? = some OB := by rw [← hOB]; exact heap_alloc_new _ _
  have HI := Lib.hid (own_new (E := EN) (w.alloc (.cells #[.int .i64 id, .int .i64 prog, .int .i64 tex, .bool true, .slice A tris.length c] 51)) (Y 0) #[.int .i64 id, .int .i64 prog, .int .i64 tex, .int .i64 1, .int .i64 tris.length] (by rw [y0]; rfl) (by rw [y0]; simp))
  have HI0 := Lib.hid (show RB w OB (Y 0) (.slice (some ⟨w.heap.size + 1, 0, none⟩) 5 5) ((w.alloc (.cells #[.int .i64 id, .int .i64 prog, .int .i64 tex, .bool true, .slice A tris.length c] 51)).alloc (.cells #[.int .i64 id, .int .i64 prog, .int .i64 tex, .int .i64 1, .int .i64 tris.length] 3)) from
    ⟨bstep (new_below w _) (by simp) (new_below (w.alloc (.cells #[.int .i64 id, .int .i64 prog, .int .i64 tex, .bool true, .slice A tris.length c] 51)) _), (heap_alloc_old _ _ (by simp)).trans hnew, by
      have h := HI.out
      rw [World.size_alloc, y0] at h
      rw [y0]
      exact h⟩)
  have HL := Lib.hid (fun (k : Nat) (h : k < tris.length) => get_lt h)
  have HE := Lib.hid ha
  have HY := Lib.hid ys
  have hc0 : ∀ W : World, W.heap[w.heap.size]? = some OB → W.cell? ⟨w.heap.size, 4, none⟩ = some (.slice A tris.length c) := fun W h => by
    rw [← hOB] at h
    exact (drB_cell h).2.2.2.2
  have HC0 := Lib.hid hc0
  have hy0 : (Y 0).length = 5 := by rw [y0]; rfl
  replace hy0 := Lib.hid hy0
  obtain ⟨n, hn⟩ : ∃ n, tris.length = n := ⟨_, rfl⟩
  rw [hn] at HL HI0 hu HC0 ⊢
  clear hnD y0 yn ys y1 ha hOB hnew hc0 HI
  have hn' := Lib.hid hn
  clear hn
  go_enter Tryz.func29, Tryz.ntmps29
  go_wp2_with fail
  go_loopw [4, 5] (fun v i wr => ∃ (j : Nat) (A' : Option Addr) (c' : Nat), j ≤ n ∧ i = .int .i64 j ∧ v = .slice A' (Y j).length c' ∧ RB w OB (Y j) (.slice A' (Y j).length c') wr) (fun _ i _ => n - (intOf i).toNat)
  case atStart => exact ⟨0, _, _, Nat.zero_le _, rfl, by rw [hy0.out], by rw [hy0.out]; exact HI0.out⟩
  case round =>
    obtain ⟨j, A1, c1, hj, rfl, rfl, hR⟩ := hrel
    have HR := Lib.hid hR
    have k4 := HC0.out wr hR.g
    have gl := hR.lt
    have HBl := Lib.hid hR.b
    clear hR HI0
    by_cases hlt : j < n
    · obtain ⟨u, hu⟩ := HL.out j hlt
      obtain ⟨b, off, rfl, hbB, hat⟩ := HE.out.at hu
      obtain ⟨r0, r1, r2, r3⟩ := atR (show AtE ER wr b (off + j * 4) u from hat.below HBl.out hbB)
      have hy := HY.out j u hu
      have hbw : b < wr.heap.size := by omega
      have hjn : (j : Int) < n := by omega
      have HYl := Lib.hid hy
      clear hat hy
      go_upto_region 9 with fail
      have hS : (wr.alloc (.cells #[.int .i64 u.i, .int .i64 u.a, .int .i64 u.b, .int .i64 u.c] 86)).heap[wr.heap.size]? = some (.cells #[.int .i64 u.i, .int .i64 u.a, .int .i64 u.b, .int .i64 u.c] 86 (0, 0)) := heap_alloc_new _ _
      have hB : Below wr.heap.size wr (wr.alloc (.cells #[.int .i64 u.i, .int .i64 u.a, .int .i64 u.b, .int .i64 u.c] 86)) := new_below _ _
      obtain ⟨V, hT⟩ : ∃ T, (wr.alloc (.cells #[.int .i64 u.i, .int .i64 u.a, .int .i64 u.b, .int .i64 u.c] 86)) = T := ⟨_, rfl⟩
      rw [hT] at hS hB
      rw [hT]
      clear hT
      have t0 := Joins.cell_of_block hS 0
      have t1 := Joins.cell_of_block hS 1
      have t2 := Joins.cell_of_block hS 2
      have t3 := Joins.cell_of_block hS 3
      have hv : wr.heap.size < V.heap.size := (Array.getElem?_eq_some_iff.1 hS).1
      have HR2 := Lib.hid ((HR.out.keep hB).alloc (.cells #[.int .i64 u.i, .int .i64 u.a, .int .i64 u.b, .int .i64 u.c] 3))
      have HE2 := Lib.hid (es_ints V (nR u) #[.int .i64 u.i, .int .i64 u.a, .int .i64 u.b, .int .i64 u.c] rfl (by simp [nR]))
      clear hS hB k4 r0 r1 r2 r3
      go_wp2_with (at_builtin; refine wpl_rb (ys := nR u) (acc' := Y (j + 1)) rfl RN HR2.out _ _ 4 4 _ rfl rfl rfl rfl HE2.out HYl.out.1.symm rfl (by have := congrArg List.length HYl.out.1; have h2 := HYl.out.2; rw [List.length_append] at this; omega) ?_; intro A' c' w3 hR3)
      go_roundw
      case rel => exact ⟨j + 1, A', c', by omega, by go_num, rfl, hR3⟩
      case measure => simp [intOf]; omega
    · obtain rfl : j = n := by omega
      go_wp2_with fail
      go_ret
      exact ⟨_, rfl, HR.out.o.less (Nat.le_succ _), HR.out.b⟩
theorem draw15_any (u : Lo Dr) (hu : u.x.tris.length ≤ 100000) (w : World) (ha : Es ER w w.heap.size u.A u.x.tris) : Calls Tryz.prog 29 #[.agg #[.int .i64 u.x.id, .int .i64 u.x.prog, .int .i64 u.x.tex, .bool u.x.op, .slice u.A u.x.tris.length u.c]] w (MadeE EN w.heap.size w (nD u.x)) := by
  obtain ⟨⟨id, prog, tex, op, tris⟩, A, c⟩ := u
  cases op
  · exact draw15_false id prog tex tris A c hu w ha
  · exact draw15_true id prog tex tris A c hu w ha
end Go.Proofs.YtfmmfaeognoleaaGreat
/-
  What a scene says, list by list (pure).
-/
namespace Go.Proofs.YtfmmfaeognoleaaGreat
open Go.RowKit

/-- What is said of a list, element by element. -/
structure Stp {α : Type} (xs : List Int) (G : α → List Int) (l : List α) (N : Nat) (Y : Nat → List Int) : Prop where
  zero : Y 0 = xs ++ [(l.length : Int)]
  last : Y l.length = xs ++ nAll G l
  step : ∀ j u, l[j]? = some u → Y (j + 1) = Y j ++ G u ∧ (Y (j + 1)).length ≤ N
  len : (Y 0).length ≤ N
theorem stp {α : Type} (xs : List Int) (G : α → List Int) (l : List α) {N : Nat} (hn : xs.length + (nAll G l).length ≤ N) : ∃ Y, Stp xs G l N Y := by
  obtain ⟨Y, h1, h2, h3, h4⟩ := said_steps xs G l hn
  refine ⟨Y, h1, h2, fun j u hu => ?_, by rw [h1, List.length_append]; exact h4⟩
  obtain ⟨h5, h6⟩ := h3 j u hu
  exact ⟨h5, by rw [h5, List.length_append]; exact h6⟩
theorem stp_tex {YT : Nat → List Int} {xs : List Int} {l : List (Lo Tx)} {N : Nat} (h : Stp xs (fun u : Lo Tx => nT u.x) l N YT) {j : Nat} {u : Lo Tx} (hu : l[j]? = some u) :
    ∃ Z, Stp (YT j ++ [u.x.w, u.x.h]) nC u.x.px N Z ∧ Z u.x.px.length = YT (j + 1) := by
  obtain ⟨h1, h2⟩ := h.step j u hu
  rw [h1, List.length_append] at h2
  have h3 : (nT u.x).length = 2 + (nAll nC u.x.px).length := by
    show (nAll nC u.x.px).length + 1 + 1 = _
    omega
  obtain ⟨Z, hZ⟩ := stp (YT j ++ [u.x.w, u.x.h]) nC u.x.px (N := N) (by rw [List.length_append, List.length_cons, List.length_cons, List.length_nil]; omega)
  exact ⟨Z, hZ, by rw [hZ.last, h1, List.append_assoc]; rfl⟩
theorem stp_prog {YP : Nat → List Int} {xs : List Int} {l : List (Lo (List C.In))} {N : Nat} (h : Stp xs (fun u : Lo (List C.In) => nP u.x) l N YP) {j : Nat} {u : Lo (List C.In)} (hu : l[j]? = some u) :
    ∃ Z, Stp (YP j) nI u.x N Z ∧ Z u.x.length = YP (j + 1) := by
  obtain ⟨h1, h2⟩ := h.step j u hu
  rw [h1, List.length_append] at h2
  obtain ⟨Z, hZ⟩ := stp (YP j) nI u.x (N := N) h2
  exact ⟨Z, hZ, by rw [hZ.last, h1]; rfl⟩
theorem scene_steps (s : Sc) {N : Nat} (hn : (nS s.p).length ≤ N) : ∃ YV YT YP YD, Stp ([s.w, s.h] ++ nC s.k) nV s.vs N YV ∧ Stp (YV s.vs.length) (fun u : Lo Tx => nT u.x) s.ts N YT ∧
    Stp (YT s.ts.length) (fun u : Lo (List C.In) => nP u.x) s.ps N YP ∧ Stp (YP s.ps.length) (fun u : Lo Dr => nD u.x) s.ds N YD ∧ YD s.ds.length = nS s.p := by
  have e1 := nAll_map (f := fun u : Lo Tx => u.x) nT s.ts
  have e2 := nAll_map (f := fun u : Lo (List C.In) => u.x) nP s.ps
  have e3 := nAll_map (f := fun u : Lo Dr => u.x) nD s.ds
  have hp : nS s.p = ([s.w, s.h] ++ nC s.k) ++ nAll nV s.vs ++ nAll (fun u : Lo Tx => nT u.x) s.ts ++ nAll (fun u : Lo (List C.In) => nP u.x) s.ps ++ nAll (fun u : Lo Dr => nD u.x) s.ds := by
    rw [e1, e2, e3]
    simp only [List.append_assoc]
    rfl
  rw [hp] at hn
  simp only [List.length_append] at hn
  obtain ⟨YV, hV⟩ := stp ([s.w, s.h] ++ nC s.k) nV s.vs (N := N) (by rw [List.length_append]; omega)
  obtain ⟨YT, hT⟩ := stp (YV s.vs.length) (fun u : Lo Tx => nT u.x) s.ts (N := N) (by rw [hV.last]; simp only [List.length_append]; omega)
  obtain ⟨YP, hP⟩ := stp (YT s.ts.length) (fun u : Lo (List C.In) => nP u.x) s.ps (N := N) (by rw [hT.last, hV.last]; simp only [List.length_append]; omega)
  obtain ⟨YD, hD⟩ := stp (YP s.ps.length) (fun u : Lo Dr => nD u.x) s.ds (N := N) (by rw [hP.last, hT.last, hV.last]; simp only [List.length_append]; omega)
  exact ⟨YV, YT, YP, YD, hV, hT, hP, hD, by rw [hD.last, hP.last, hT.last, hV.last, hp]⟩
theorem rb_new {w t : World} {O : Obj} {ys : List Int} {cs : Array Value} (hb : Below w.heap.size w t) (hg : t.heap[w.heap.size]? = some O) (h : cs.toList = EN.flat ys) (hl : ys.length ≤ 100000000) :
    RB w O ys (.slice (some ⟨t.heap.size, 0, none⟩) ys.length ys.length) (t.alloc (.cells cs 3)) := by
  have hlt := (Array.getElem?_eq_some_iff.1 hg).1
  exact ⟨hb.alloc hb.size _, ((new_below t _).block _ hlt).trans hg, (own_new (E := EN) t ys cs h hl).less hlt⟩
end Go.Proofs.YtfmmfaeognoleaaGreat
/-
  The walk of glazierlaw03.WireSigns, at this seat's translation.
-/
namespace Go.Proofs.YtfmmfaeognoleaaGreat.P
open Go.RowKit

theorem put1_any (n : Int) (w : World) (h0 : -9223372036854775808 ≤ n) (h1 : n ≤ 9223372036854775807) :
    Calls Tryz.prog 26 #[.slice (some ⟨w.heap.size, 0, none⟩) 1 1] (w.alloc (.cells #[.int .i64 n] 3)) (Made 5 .u8 (w.heap.size + 1) (w.alloc (.cells #[.int .i64 n] 3)) (enc (fold n))) := by
  have h := put_any (some ⟨w.heap.size, 0, none⟩) 1 [n] (w.heap.size + 1) (w.alloc (.cells #[.int .i64 n] 3))
    (fun _ => ⟨w.heap.size, 0, rfl, by omega, fun j hj => by
      simp at hj
      subst hj
      simp [go_sem]⟩) (by simp) (by intro x hx; simp at hx; subst hx; exact ⟨h0, h1⟩) (by simp)
  rw [put_cons, put_nil, List.append_nil] at h
  simpa using h

theorem slice_from (A : Option Addr) (n c k m : Nat) (i : Int) (hk : n = k + m) (hn : n ≤ c) (hi : i = (k : Int)) :
    ∃ A', (∀ W, (Instr.slice 30 (.slice A n c) (some (.int .i64 i)) none none).run Tryz.prog W = .ok (.slice A' m (c - k)) W) ∧ (∀ q w B xs, xs.length = n → Sl q w B A xs → Sl q w B A' (xs.drop k)) := by
  subst hi
  refine ⟨if c = k then A else A.map fun x => x.add k, fun W => ?_, fun q w B xs hx h => h.cut (by omega)⟩
  have hkn : k ≤ n := by omega
  obtain rfl : m = n - k := by omega
  clear hk
  go_simp

theorem sl_keep {q : IntKind} {w w' : World} {A : Option Addr} {xs : List Int} (h : Sl q w w.heap.size A xs) (hb : Below w.heap.size w w') : Sl q w' w'.heap.size A xs := (h.below hb).more hb.size
theorem below_new {w w' : World} {o : Obj} (hb : Below (w.heap.size + 1) (w.alloc o) w') : Below w.heap.size w w' := ((Below.refl _ w).alloc (Nat.le_refl _) o).trans (hb.mono (Nat.le_succ _))

theorem fold_pos {m : Int} (h : 0 ≤ m) : fold m = 2 * m.toNat := by unfold fold; rw [if_neg (by omega)]
theorem fold_neg {m : Int} (h : 0 ≤ m) : fold (-m - 1) = 2 * m.toNat + 1 := by unfold fold; rw [if_pos (by omega)]; omega

end Go.Proofs.YtfmmfaeognoleaaGreat.P
/-
  The walk of glazierlaw03.WireOne, at this seat's translation.
-/
namespace Go.Proofs.YtfmmfaeognoleaaGreat.P
open Go.RowKit

theorem slice_to (A : Option Addr) (n c k : Nat) (i : Int) (hk : k ≤ c) (hi : i = (k : Int)) :
    ∀ W, (Instr.slice 30 (.slice A n c) none (some (.int .i64 i)) none).run Tryz.prog W = .ok (.slice A k c) W := by
  subst hi
  intro W
  go_simp

theorem take_of_app {L E D : List Int} {s : Nat} (h : L = E ++ D) (hs : s = E.length) : E = L.take s := by subst h hs; simp

theorem fold_half {n h : Int} (e : h = n.tdiv 2) : fold h ≤ fold n := by
  subst e
  unfold fold
  by_cases h : n < 0
  · obtain ⟨k, rfl⟩ : ∃ k, n = -k := ⟨-n, by omega⟩
    rw [Int.neg_tdiv, Int.tdiv_eq_ediv_of_nonneg (by omega), if_pos h]
    split <;> omega
  · rw [Int.tdiv_eq_ediv_of_nonneg (by omega), if_neg (by omega), if_neg (by omega)]
    omega

theorem half_in {n : Int} (n0 : -9223372036854775808 ≤ n) (n1 : n ≤ 9223372036854775807) : -9223372036854775808 ≤ n.tdiv 2 ∧ n.tdiv 2 ≤ 9223372036854775807 := by
  by_cases h : n < 0
  · obtain ⟨k, rfl⟩ : ∃ k, n = -k := ⟨-n, by omega⟩
    rw [Int.neg_tdiv, Int.tdiv_eq_ediv_of_nonneg (by omega)]
    omega
  · rw [Int.tdiv_eq_ediv_of_nonneg (by omega)]
    omega

end Go.Proofs.YtfmmfaeognoleaaGreat.P
/-
  The walk of glazierlaw03.WireBack, at this seat's translation.
-/
namespace Go.Proofs.YtfmmfaeognoleaaGreat.P
open Go.RowKit

def BackAt (w : World) (L : List Int) (rest i : Value) (wr : World) : Prop :=
  ∃ (k : Nat) (A : Option Addr) (c : Nat), k ≤ L.length ∧ i = .int .i64 k ∧ rest = .slice A (put (L.drop k)).length c ∧ (put (L.drop k)).length ≤ c ∧ Sl .u8 wr wr.heap.size A (put (L.drop k)) ∧ Below w.heap.size w wr

theorem slice_to22 (A : Option Addr) (n c k : Nat) (i : Int) (hk : k ≤ c) (hi : i = (k : Int)) :
    ∀ W, (Instr.slice 54 (.slice A n c) none (some (.int .i64 i)) none).run Tryz.prog W = .ok (.slice A k c) W := by
  subst hi
  intro W
  go_simp

end Go.Proofs.YtfmmfaeognoleaaGreat.P
/-
  A region that draws its order: its quiet rest, walked in the text's order, in a class of worlds that is narrower than what was held so far.
-/
namespace Go.Proofs.YtfmmfaeognoleaaGreat.P
open Go.RowKit

theorem held_narrow {P : Program} {ops : Array Oper} {md : Region.Mode} {C S : World → Prop} {Q : Exit → Act → World → Prop} (hCS : ∀ w, C w → S w) :
    ∀ (fuel : Nat) (listed : Array Bool) (a : Act) (w : World), wpAnyH P md ops Q C fuel listed a w → wpAnyH P md ops Q S fuel listed a w
  | 0, _, _, _, h => h
  | fuel + 1, _, _, _, h => ⟨h.1, fun i hi => wpOp_mono (fun a' w' h' => ⟨hCS _ h'.1, held_narrow hCS fuel _ a' w' h'.2⟩) (h.2 i hi)⟩
theorem held_rest {P : Program} {ops : Array Oper} {md : Region.Mode} {C : World → Prop} {Q : Act → Prop} {Q' : Exit → Act → World → Prop} (hQ : ∀ a w, C w → Q a → Q' .normal a w) :
    ∀ (fuel : Nat) (listed : Array Bool) (a : Act) (w : World), C w → wpAnyQ P md ops C Q fuel listed a → wpAnyH P md ops Q' C fuel listed a w
  | 0, _, _, _, hw, h => ⟨h.1, hQ _ _ hw h.2⟩
  | fuel + 1, _, _, _, hw, h => ⟨fun h0 => hQ _ _ hw (h.1 h0), fun i hi => wpOp_of_qOp hw (fun a' w' hw' h' => ⟨hw', held_rest hQ fuel _ a' w' hw' h'⟩) (h.2 i hi)⟩
theorem held_from {P : Program} {l : List Oper} {S : World → Prop} {Q' : Exit → Act → World → Prop} {a : Act} {w : World} {listed : Array Bool} {fuel : Nat} (k : Nat) (hs : Region.noSelect l.toArray = true)
    (hB : Region.lexFrom .any l.toArray fuel k listed = true) (hl : (l.drop k).length = fuel) (hS : ∀ w', (∃ n, w' = w.drewN n) → S w')
    (h : wpQuiet P l.toArray (fun w' => ∃ n, w' = w.drewN n) (fun a => ∀ w', (∃ n, w' = w.drewN n) → Q' .normal a w') (l.drop k) a) : wpAnyH P .any l.toArray Q' S fuel listed a w := by
  subst hl
  exact held_narrow hS _ _ _ _ (held_rest (Q := fun a => ∀ w', (∃ n, w' = w.drewN n) → Q' .normal a w') (fun a w hw h => h w hw) _ _ _ _ ⟨0, rfl⟩ (wpAnyQ_lex hs (l.drop k) k listed a (fun j => by simp) hB h))
end Go.Proofs.YtfmmfaeognoleaaGreat.P
/-
  The walk of glazierlaw03.WireJoins, at this seat's translation.
-/
namespace Go.Proofs.YtfmmfaeognoleaaGreat.P
open Go.RowKit

/-- append onto a row of the call's own, whatever the source: nil, empty or not. -/
theorem wpList_append_sl {P : Program} (w : World) {ops : Array Oper} {rest : List Oper} {o : Oper} {a : Act} {Q : Exit → Act → World → Prop} (hgd : o.guard = none) (s x : Operand) (t : TypeId)
    (ho : o.op = .call { callee := .builtin .append, args := #[s, x], argTypes := #[t, t] })
    (base : Nat) (e : TypeId) (i : TypeInfo) (z : Value) (bytes : Nat) (ht : P.underlying t = some (.slice e)) (hi : P.info? e = some i) (hz : i.zero = some z) (hsize : i.size = 1) (hby : i.bytes = bytes) (hzs : z.cells.size = 1)
    (k : IntKind) (v : Value) (xs : List Int) (hs : a.eval s = v) (hown : OwnS e k w base v xs)
    (A : Option Addr) (c B : Nat) (ys : List Int) (hx : a.eval x = .slice A ys.length c) (hsl : Sl k w B A ys) (hnil : A = none → c = 0)
    (h63 : xs.length + ys.length ≤ 20000000000) (hbytes : bytes ≤ 8) (hbase : base ≤ w.heap.size)
    (h : ∀ v' w', OwnS e k w' base v' (xs ++ ys) → Below base w w' → wpList P ops Q rest (a.put o.dst v') w') : wpList P ops Q (o :: rest) a w := by
  have hb2 : (xs.length + ys.length) * bytes ≤ 140737488355328 := Nat.le_trans (Nat.mul_le_mul h63 hbytes) (by decide)
  cases A with
  | some ad =>
    refine wpList_append_own w hgd s x t ho base e i z 1 bytes ht hi hz hsize hby hzs (by decide) v _ _ hs hown.row ad ys.length c (ys.map (Value.int k)) hx (by simp) ?_ (ints_oneCell _ _) (by unfold maxLen; omega) hb2 hbase ?_
    · intro j u hu
      by_cases hne : ys = []
      · subst hne; simp at hu
      · obtain ⟨b, off, hA, _, hc⟩ := hsl hne
        cases hA
        exact news_of hc j u hu
    · intro v' w' h2 h3 _
      exact h v' w' (by unfold OwnS; simpa using h2) ((Below.refl base w).grown h3 hbase fun j ej => own_ge hown.row j ej)
  | none =>
    have hy : ys = [] := by
      by_cases hne : ys = []
      · exact hne
      · obtain ⟨b, off, hA, _⟩ := hsl hne
        cases hA
    subst hy
    obtain rfl := hnil rfl
    refine wpList_plain hgd fun K hK' => ?_
    have hrun := run_append_owned_none (P := P) w base t o.type e i 1 ht hi v xs.length _ hown.row
    unfold Oper.wp
    simp [execOp, ho, resolve, invoke, builtin, hs, hx, hrun, Result.andThen]
    exact hK' _ _ (h v w (by simpa using hown) (Below.refl _ _))

theorem OwnS.sl2 {t : TypeId} {k : IntKind} {w : World} {base : Nat} {v : Value} {xs : List Int} (h : OwnS t k w base v xs) :
    ∃ A c, v = .slice A xs.length c ∧ xs.length ≤ c ∧ c ≤ 9223372036854775807 ∧ Sl k w w.heap.size A xs ∧ (A = none → c = 0) := by
  obtain ⟨A, c, hv, h1, h2, h3⟩ := h.sl
  refine ⟨A, c, hv, h1, h2, h3, fun hA => ?_⟩
  subst hA
  rcases h.2 with ⟨rfl, _⟩ | ⟨g, cap, cur, rfl, _⟩
  · injection hv with _ _ e; exact e.symm
  · injection hv with e; cases e

end Go.Proofs.YtfmmfaeognoleaaGreat.P
/-
  The reference's one and Put, at this seat's translation.
-/
namespace Go.Proofs.YtfmmfaeognoleaaGreat.P
open Go.RowKit

set_option maxRecDepth 100000 in
set_option maxHeartbeats 2000000 in
theorem rone_any (n : Int) (w : World) (h0 : -9223372036854775808 ≤ n) (h1 : n ≤ 9223372036854775807) :
    Calls Tryz.prog 72 #[.int .i64 n] w (Made 5 .u8 w.heap.size w (enc (fold n))) := by
  obtain ⟨i0, hi, hz0, hz1, hz2⟩ := info_parts Tryz.info5
  have HI := Lib.hid hi
  have HZ := Lib.hid (And.intro hz0 (And.intro hz1 hz2))
  clear hi hz0 hz1 hz2
  have hf := fold_lt ⟨h0, h1⟩
  have hel := enc_len10 hf
  have hfo : ((fold n : Nat) : Int) = if n < 0 then -(n + 1) * 2 + 1 else n * 2 := by unfold fold; split <;> omega
  have HFO := Lib.hid hfo
  have HE := Lib.hid (own_empty 5 w)
  clear hfo
  by_cases hn : n < 0
  all_goals
    go_enter Tryz.func72, Tryz.ntmps72
    go_wp2_with fail
    go_loopw [4, 3] (fun b u wr => PutAt w.heap.size w [] n b u wr) (fun _ u _ => (intOf u).toNat)
    case atStart =>
      refine ⟨fold n, [], ?_, hf, HE.out, rfl, (Below.refl _ w).alloc (Nat.le_refl _) _⟩
      rw [HFO.out]
      first | (rw [if_pos hn]) | (rw [if_neg (by omega)])
    case round =>
      obtain ⟨k, cs, rfl, hk, ho, hcs, hb⟩ := hrel
      have hlen : cs.length + (enc k).length = (enc (fold n)).length := by simpa using congrArg List.length hcs
      have hsz := hb.size
      have HB := Lib.hid hb
      have HW := Lib.hid ho
      have HC := Lib.hid hcs
      have hep := enc_pos k
      have hcl : cs.length ≤ 10 := by omega
      clear hb ho hcs hlen hep
      by_cases hge : 128 ≤ k
      · go_wp2_with (at_builtin; refine wpList_append_own _ rfl _ _ 30 rfl w.heap.size 5 i0 (.int .u8 0) 1 1 Tryz.underlying30 HI.out HZ.out.1 HZ.out.2.1 HZ.out.2.2 rfl (by decide) _ _ _ rfl (HW.out.row.alloc _) _ 1 1 [_] rfl rfl (cell_one_new _ _ _) (by simp [Value.oneCell']) (by unfold maxLen; omega) (by omega) (by simp; omega) ?_; intro v' w1 hown' hgrow _)
        obtain ⟨ho', hb'⟩ := append_of HW.out (by omega) hown' hgrow
        refine ⟨⟨k / 128, cs ++ [((k % 128 + 128 : Nat) : Int)], by simp, by omega, by simpa using ho', ?_, HB.out.trans hb'⟩, by simp [intOf]; omega⟩
        rw [← HC.out, enc_ge (u := k) (by omega)]; simp
      · go_wp2_with (at_builtin; refine wpList_append_own _ rfl _ _ 30 rfl w.heap.size 5 i0 (.int .u8 0) 1 1 Tryz.underlying30 HI.out HZ.out.1 HZ.out.2.1 HZ.out.2.2 rfl (by decide) _ _ _ rfl (HW.out.row.alloc _) _ 1 1 [_] rfl rfl (cell_one_new _ _ _) (by simp [Value.oneCell']) (by unfold maxLen; omega) (by omega) (by simp; omega) ?_; intro v' w1 hown' hgrow _)
        go_ret
        obtain ⟨ho', hb'⟩ := append_of HW.out (by omega) hown' hgrow
        refine ⟨v', rfl, ?_, HB.out.trans hb'⟩
        have e := HC.out
        rw [List.nil_append, enc_lt (u := k) (by omega)] at e
        rw [← e]; exact ho'

set_option maxRecDepth 100000 in
set_option maxHeartbeats 2000000 in
theorem rput_any (A : Option Addr) (c : Nat) (l : List Int) (B : Nat) (w : World) (hs : Sl .i64 w B A l) (hB : B ≤ w.heap.size) (hi : Ins l) (hl : l.length ≤ 100000000) :
    Calls Tryz.prog 30 #[.slice A l.length c] w (Made 5 .u8 w.heap.size w (put l)) := by
  obtain ⟨i0, hi0, hz0, hz1, hz2⟩ := info_parts Tryz.info5
  have HZ := Lib.hid (And.intro hi0 (And.intro hz0 (And.intro hz1 hz2)))
  clear hi0 hz0 hz1 hz2
  have HS := Lib.hid hs
  have HI := Lib.hid hi
  have HE := Lib.hid (own_empty 5 w)
  clear hs hi
  go_enter Tryz.func30, Tryz.ntmps30
  go_wp2_with fail
  go_loopw [3, 4] (fun b i wr => AllAt w.heap.size w l b i wr) (fun _ i _ => l.length - (intOf i).toNat)
  case atStart => exact ⟨0, by omega, rfl, HE.out, (Below.refl _ w).alloc (Nat.le_refl _) _⟩
  case round =>
    obtain ⟨k, hk, rfl, ho, hb⟩ := hrel
    have hpl := put_len (HI.out.take k)
    have hlt' : (l.take k).length ≤ 100000000 := by simp; omega
    have hpl2 : (put (l.take k)).length ≤ 1000000000 := by omega
    have hsz := hb.size
    have HO := Lib.hid ho
    have HB := Lib.hid hb
    clear ho hb hpl hlt'
    by_cases hlt : k < l.length
    · obtain ⟨b, off, rfl, hbB, hcell⟩ := HS.out.at hlt
      have hn := HI.out.get k
      generalize hp : l.getD k 0 = n at hcell hn
      obtain ⟨hn0, hn1⟩ := hn
      have hel := enc_len10 (fold_lt ⟨hn0, hn1⟩)
      have HP := Lib.hid hp
      clear hp
      have hcell' : wr.cell? ⟨b, off + k, none⟩ = some (.int .i64 n) := (HB.out.cell (p := ⟨b, off + k, none⟩) (by show b < _; omega)).trans hcell
      clear hcell
      go_wp2_with fail
      refine (rone_any n wr hn0 hn1).mono ?_
      rintro e w1 ⟨v1, rfl, ho1, hb1⟩
      obtain ⟨A1, c1, rfl, -, -, hs1, hn1'⟩ := ho1.sl2
      have HO1 := Lib.hid (HO.out.keep hb1)
      have HS1 := Lib.hid (And.intro hs1 hn1')
      have HB1 := Lib.hid (HB.out.trans (hb1.mono hsz))
      clear ho1 hs1 hn1' hb1 HO
      go_wp2_with (at_builtin; refine wpList_append_sl _ rfl _ _ 30 rfl w.heap.size 5 i0 (.int .u8 0) 1 Tryz.underlying30 HZ.out.1 HZ.out.2.1 HZ.out.2.2.1 HZ.out.2.2.2 rfl .u8 _ (put (l.take k)) rfl HO1.out A1 c1 w1.heap.size (enc (fold n)) rfl HS1.out.1 HS1.out.2 (by omega) (by decide) HB1.out.size ?_; intro v2 w2 ho2 hb2)
      go_roundw
      case rel => exact ⟨k + 1, by omega, by go_num, by rw [take_at hlt HP.out, put_snoc]; exact ho2, HB1.out.trans hb2⟩
      case measure => simp [intOf]; omega
    · go_wp2
      go_ret
      have e : l.take k = l := List.take_of_length_le (by omega)
      exact ⟨_, rfl, by have := HO.out; rwa [e] at this, HB.out⟩
end Go.Proofs.YtfmmfaeognoleaaGreat.P
