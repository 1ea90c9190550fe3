/-
  The contract of cover.Mask.
-/
import Derived.Test.YtgcoggejgolhgaaCount
namespace Go.Proofs.Ytgcoggejgolhgaa
open Go.RowKit Go.Shelf
attribute [local go_sem] Oper.semAt_some

/-- Three points out of a block, in a list of operations within a fence. -/
theorem wpIn_loadT {F : Fence} {n : Nat} {ops : Array Oper} {rest : List Oper} {o : Oper} {k : Act} {w : World} {Q : Exit → Act → World → Prop} {g : Nat} {a b c : P} (x : Operand) (ho : o.op = .load 25 x) (hw : Region.wanted o (yielded ops k.tmps) = true) (hx : k.eval x = .pointer (some ⟨g, 0, none⟩)) (hg : w.heap[g]? = some (tB a b c))
    (h : wpListIn F n Try.prog ops Q rest (k.put o.dst (.agg #[.int .i64 a.x, .int .i64 a.y, .int .i64 a.z, .int .i64 a.a, .int .i64 a.b, .int .i64 a.c, .int .i64 a.d, .int .i64 b.x, .int .i64 b.y, .int .i64 b.z, .int .i64 b.a, .int .i64 b.b, .int .i64 b.c, .int .i64 b.d, .int .i64 c.x, .int .i64 c.y, .int .i64 c.z, .int .i64 c.a, .int .i64 c.b, .int .i64 c.c, .int .i64 c.d])) w) : wpListIn F n Try.prog ops Q (o :: rest) k w :=
  BigFrame.wpListIn_want hw fun K hK => by
    refine ⟨fun f hf => ?_, ?_⟩
    · simp [Oper.about, ho] at hf
    · rw [Oper.semAt_eq _ _ _ (by simp [ho])]
      have hl := loadT hg
      have e : (execOp k.eval o).run Try.prog w = .ok (.value (.agg #[.int .i64 a.x, .int .i64 a.y, .int .i64 a.z, .int .i64 a.a, .int .i64 a.b, .int .i64 a.c, .int .i64 a.d, .int .i64 b.x, .int .i64 b.y, .int .i64 b.z, .int .i64 b.a, .int .i64 b.b, .int .i64 b.c, .int .i64 b.d, .int .i64 c.x, .int .i64 c.y, .int .i64 c.z, .int .i64 c.a, .int .i64 c.b, .int .i64 c.c, .int .i64 c.d])) w := by
        unfold execOp
        simp [ho, hx, hl, Result.andThen]
        try rfl
      rw [e]
      exact hK _ _ h

/-- What a sample is worth. -/
def pw (x : Fin 4) : Int := match x with
  | 0 => 1
  | 1 => 2
  | 2 => 4
  | 3 => 8
/-- The mask of those of some samples that are in. -/
def mk (f : Fin 4 → Bool) (q : List (Fin 4)) : Int := q.foldl (fun m i => if f i = true then bits .or .u8 m (pw i) else m) 0
theorem mk_yes {f : Fin 4 → Bool} {q : List (Fin 4)} {x : Fin 4} (h : f x = true) : mk f (q ++ [x]) = bits .or .u8 (mk f q) (pw x) := by simp [mk, h]
theorem mk_no {f : Fin 4 → Bool} {q : List (Fin 4)} {x : Fin 4} (h : f x = false) : mk f (q ++ [x]) = mk f q := by simp [mk, h]
def one (b : Bool) (n : Int) : Int := if b = true then n else 0
def msk (b0 b1 b2 b3 : Bool) : Int := one b0 1 + one b1 2 + one b2 4 + one b3 8
theorem mk_all (f : Fin 4 → Bool) : mk f (bl 15 4) = msk (f 0) (f 1) (f 2) (f 3) := by
  rw [show bl 15 4 = [0, 1, 2, 3] by decide]
  simp only [mk, List.foldl]
  cases f 0 <;> cases f 1 <;> cases f 2 <;> cases f 3 <;> decide

/-- What is in at a sample. -/
def inS (a b c : P) (x y : Int) (i : Fin 4) : Bool := inn a b c (16 * x + sx (iv i)) (16 * y + sy (iv i))
def mask (a b c : P) (x y : Int) : Int := msk (inS a b c x y 0) (inS a b c x y 1) (inS a b c x y 2) (inS a b c x y 3)

/-- The boxes of Mask's variables. -/
def MaskAt (w : World) (a b c : P) (x y m : Int) (W : World) : Prop :=
  W.heap[w.heap.size]? = some (tB a b c) ∧ Boxed W (w.heap.size + 1) 3 (.int .i64 x) ∧ Boxed W (w.heap.size + 1 + 1) 3 (.int .i64 y) ∧ Boxed W (w.heap.size + 1 + 1 + 1) 5 (.int .u8 m) ∧ Boxed W (w.heap.size + 1 + 1 + 1 + 1) 5 (.int .u8 15) ∧ Below w.heap.size w W
theorem tB_own {β : Type} (B : Nat) (a b c : P) : Own (fun (_ : β) W => W.heap[B]? = some (tB a b c)) := fun s X Y row hs hg hrow =>
  (hg.block B (tB_lt hs) (fun e' => by obtain ⟨_, ho, hc⟩ := hrow B e'.symm; rw [hs] at ho; cases ho; cases hc)).trans hs
theorem keeps_of {W W' : World} (h : Below W.heap.size W W') : KeepsOthers W W' := ⟨h.size, fun k _ hk _ => (h.block k (Array.getElem?_eq_some_iff.1 hk).1).trans hk⟩
theorem maskAt_own (w : World) (a b c : P) (x y : Int) (f : List (Fin 4) → Int) {Bo : Nat} (hB : w.heap.size ≤ Bo) : OwnFrom Bo (fun q W => MaskAt w a b c x y (f q) W) :=
  OwnFrom.and (Own.from (tB_own _ a b c) _) (OwnFrom.and (Own.from (boxed_own _ _ _) _) (OwnFrom.and (Own.from (boxed_own _ _ _) _) (OwnFrom.and (Own.from (boxed_own _ 5 (fun q => Value.int .u8 (f q))) _)
    (OwnFrom.and (Own.from (boxed_own _ _ _) _) (ownFrom_below (Nat.le_refl _) hB)))))
theorem maskAt_grow {w W W' : World} {a b c : P} {x y m : Int} (h : MaskAt w a b c x y m W) (k : Below W.heap.size W W') : MaskAt w a b c x y m W' := by
  obtain ⟨hT, bX, bY, bM, bK, hB⟩ := h
  exact ⟨tB_grow hT k, (k.block _ bX.lt).trans bX, (k.block _ bY.lt).trans bY, (k.block _ bM.lt).trans bM, (k.block _ bK.lt).trans bK, bstep hB hB.size k⟩
theorem maskAt_set {w W : World} {a b c : P} {x y m : Int} (m' : Int) (h : MaskAt w a b c x y m W) : MaskAt w a b c x y m' (W.setCell ⟨w.heap.size + 1 + 1 + 1, 0, none⟩ (.int .u8 m')) := by
  obtain ⟨hT, bX, bY, bM, bK, hB⟩ := h
  exact ⟨(heap_setCell_other _ _ _ _ (by simp; omega)).trans hT, bX.other (by omega) _, bY.other (by omega) _, bM.set _, bK.other (by omega) _, hB.setCell (p := ⟨w.heap.size + 1 + 1 + 1, 0, none⟩) (by simp; omega) _⟩
theorem maskAt_drew {w W : World} {a b c : P} {x y m : Int} (h : MaskAt w a b c x y m W) : MaskAt w a b c x y m W.drew := maskAt_grow h (Below.refl _ _).drew

set_option maxRecDepth 100000 in
set_option maxHeartbeats 2000000 in
theorem mask_in (F : Fence) (hfn : ∀ f, F.fn f) (hC : ∀ {f args W R} m, Calls Try.prog f args W R → CallsIn F m Try.prog f args W R) (n : Nat) (hro : F.round = none) (hn : 6 ≤ n) (a b c : P) (x y : Int) (ha : a.sm) (hb : b.sm) (hc : c.sm)
    (hx : -1024 ≤ x ∧ x ≤ 1024) (hy : -1024 ≤ y ∧ y ≤ 1024) (w : World) :
    CallsIn F n Try.prog 14 #[.agg #[.int .i64 a.x, .int .i64 a.y, .int .i64 a.z, .int .i64 a.a, .int .i64 a.b, .int .i64 a.c, .int .i64 a.d, .int .i64 b.x, .int .i64 b.y, .int .i64 b.z, .int .i64 b.a, .int .i64 b.b, .int .i64 b.c, .int .i64 b.d, .int .i64 c.x, .int .i64 c.y, .int .i64 c.z, .int .i64 c.a, .int .i64 c.b, .int .i64 c.c, .int .i64 c.d], .int .i64 x, .int .i64 y] w fun e w' => e = .returned (.int .u8 (mask a b c x y)) ∧ Below w.heap.size w w' := by
  have hmo : Try.prog.follows .mixedOrders = true := by kernel_rfl
  have h20 := hfn 20
  have h9 := hfn 9
  have h23 := hfn 23
  have h1 : 1 ≤ n := by omega
  have h2 : 1 ≤ n - 1 - 1 := by omega
  have HS := Lib.hid (fun i => sample_any x y i hx hy)
  have HI := Lib.hid (fun (i : Fin 4) => in_any a b c (16 * x + sx (iv i)) (16 * y + sy (iv i)) ha hb hc (by have := sx_bd (iv i); omega) (by have := sx_bd (iv i); omega) (by have := sy_bd (iv i); omega) (by have := sy_bd (iv i); omega))
  clear ha hb hc hx hy
  refine callsIn_of_wp_marks Try.func14 rfl (hfn 14) ?_ hro
  simp only [Try.ntmps14, List.size_toArray, List.length_cons, List.length_nil, Nat.reduceAdd, Nat.reduceSub, Array.replicate_succ, Array.replicate_zero, List.push_toArray, List.append_toArray, List.nil_append, List.cons_append]
  gi_wp2_with (gi_at_call 20; (with_reducible refine (hC _ (bits_any _ _)).mono ?_); rintro e w' ⟨rfl, rfl⟩)
  have hM : MaskAt w a b c x y 0 (((((w.alloc (.cells #[.int .i64 a.x, .int .i64 a.y, .int .i64 a.z, .int .i64 a.a, .int .i64 a.b, .int .i64 a.c, .int .i64 a.d, .int .i64 b.x, .int .i64 b.y, .int .i64 b.z, .int .i64 b.a, .int .i64 b.b, .int .i64 b.c, .int .i64 b.d, .int .i64 c.x, .int .i64 c.y, .int .i64 c.z, .int .i64 c.a, .int .i64 c.b, .int .i64 c.c, .int .i64 c.d] 25)).alloc (.cells #[.int .i64 x] 3)).alloc (.cells #[.int .i64 y] 3)).alloc (.cells #[.int .u8 0] 5)).alloc (.cells #[.int .u8 15] 5)) := by
    have k0 : (w.alloc (.cells #[.int .i64 a.x, .int .i64 a.y, .int .i64 a.z, .int .i64 a.a, .int .i64 a.b, .int .i64 a.c, .int .i64 a.d, .int .i64 b.x, .int .i64 b.y, .int .i64 b.z, .int .i64 b.a, .int .i64 b.b, .int .i64 b.c, .int .i64 b.d, .int .i64 c.x, .int .i64 c.y, .int .i64 c.z, .int .i64 c.a, .int .i64 c.b, .int .i64 c.c, .int .i64 c.d] 25)).heap[w.heap.size]? = some (tB a b c) := new_at rfl
    have k1 := Boxed.new (w.alloc (.cells #[.int .i64 a.x, .int .i64 a.y, .int .i64 a.z, .int .i64 a.a, .int .i64 a.b, .int .i64 a.c, .int .i64 a.d, .int .i64 b.x, .int .i64 b.y, .int .i64 b.z, .int .i64 b.a, .int .i64 b.b, .int .i64 b.c, .int .i64 b.d, .int .i64 c.x, .int .i64 c.y, .int .i64 c.z, .int .i64 c.a, .int .i64 c.b, .int .i64 c.c, .int .i64 c.d] 25)) 3 (.int .i64 x)
    have k2 := Boxed.new ((w.alloc (.cells #[.int .i64 a.x, .int .i64 a.y, .int .i64 a.z, .int .i64 a.a, .int .i64 a.b, .int .i64 a.c, .int .i64 a.d, .int .i64 b.x, .int .i64 b.y, .int .i64 b.z, .int .i64 b.a, .int .i64 b.b, .int .i64 b.c, .int .i64 b.d, .int .i64 c.x, .int .i64 c.y, .int .i64 c.z, .int .i64 c.a, .int .i64 c.b, .int .i64 c.c, .int .i64 c.d] 25)).alloc (.cells #[.int .i64 x] 3)) 3 (.int .i64 y)
    have k3 := Boxed.new (((w.alloc (.cells #[.int .i64 a.x, .int .i64 a.y, .int .i64 a.z, .int .i64 a.a, .int .i64 a.b, .int .i64 a.c, .int .i64 a.d, .int .i64 b.x, .int .i64 b.y, .int .i64 b.z, .int .i64 b.a, .int .i64 b.b, .int .i64 b.c, .int .i64 b.d, .int .i64 c.x, .int .i64 c.y, .int .i64 c.z, .int .i64 c.a, .int .i64 c.b, .int .i64 c.c, .int .i64 c.d] 25)).alloc (.cells #[.int .i64 x] 3)).alloc (.cells #[.int .i64 y] 3)) 5 (.int .u8 0)
    have k4 := Boxed.new ((((w.alloc (.cells #[.int .i64 a.x, .int .i64 a.y, .int .i64 a.z, .int .i64 a.a, .int .i64 a.b, .int .i64 a.c, .int .i64 a.d, .int .i64 b.x, .int .i64 b.y, .int .i64 b.z, .int .i64 b.a, .int .i64 b.b, .int .i64 b.c, .int .i64 b.d, .int .i64 c.x, .int .i64 c.y, .int .i64 c.z, .int .i64 c.a, .int .i64 c.b, .int .i64 c.c, .int .i64 c.d] 25)).alloc (.cells #[.int .i64 x] 3)).alloc (.cells #[.int .i64 y] 3)).alloc (.cells #[.int .u8 0] 5)) 5 (.int .u8 15)
    simp only [World.size_alloc] at k1 k2 k3 k4
    exact ⟨tB_alloc _ (tB_alloc _ (tB_alloc _ (tB_alloc _ k0))), ((k1.alloc _).alloc _).alloc _, (k2.alloc _).alloc _, k3.alloc _, k4,
      (((((Below.refl _ _).alloc (Nat.le_refl _) _).alloc (by simp) _).alloc (by simp; omega) _).alloc (by simp; omega) _).alloc (by simp; omega) _⟩
  have hsz : (((((w.alloc (.cells #[.int .i64 a.x, .int .i64 a.y, .int .i64 a.z, .int .i64 a.a, .int .i64 a.b, .int .i64 a.c, .int .i64 a.d, .int .i64 b.x, .int .i64 b.y, .int .i64 b.z, .int .i64 b.a, .int .i64 b.b, .int .i64 b.c, .int .i64 b.d, .int .i64 c.x, .int .i64 c.y, .int .i64 c.z, .int .i64 c.a, .int .i64 c.b, .int .i64 c.c, .int .i64 c.d] 25)).alloc (.cells #[.int .i64 x] 3)).alloc (.cells #[.int .i64 y] 3)).alloc (.cells #[.int .u8 0] 5)).alloc (.cells #[.int .u8 15] 5)).heap.size = w.heap.size + 5 := by simp
  obtain ⟨W0, hW0⟩ : ∃ W0, ((((w.alloc (.cells #[.int .i64 a.x, .int .i64 a.y, .int .i64 a.z, .int .i64 a.a, .int .i64 a.b, .int .i64 a.c, .int .i64 a.d, .int .i64 b.x, .int .i64 b.y, .int .i64 b.z, .int .i64 b.a, .int .i64 b.b, .int .i64 b.c, .int .i64 b.d, .int .i64 c.x, .int .i64 c.y, .int .i64 c.z, .int .i64 c.a, .int .i64 c.b, .int .i64 c.c, .int .i64 c.d] 25)).alloc (.cells #[.int .i64 x] 3)).alloc (.cells #[.int .i64 y] 3)).alloc (.cells #[.int .u8 0] 5)).alloc (.cells #[.int .u8 15] 5) = W0 := ⟨_, rfl⟩
  rw [hW0] at hM hsz ⊢
  clear hW0
  have b4 := hM.2.2.2.2.1
  refine wpIn_rangeFunc_ownG hro h1 (gf := 26) (lb := #[.pointer (some ⟨w.heap.size + 1 + 1 + 1 + 1, 0, none⟩)]) rfl (hfn 26) (enters_of Try.func26 (by kernel_rfl) rfl)
    (bits_stops F hfn (n - 1) hro (by omega) (w.heap.size + 1 + 1 + 1 + 1) 15 (by omega) (by omega) W0 (by omega) b4.cell) kpB_t (kpB_b (by omega)) (Below.refl _ _) (fun _ => rfl)
    (fun q W => MaskAt w a b c x y (mk (inS a b c x y) q) W)
    (fun _ _ _ => False)
    (maskAt_own w a b c x y (mk (inS a b c x y)) (by omega))
    (fun _ _ _ _ _ h _ _ => h)
    hM
    (fun i => { tmps := #[.agg #[.int .i64 a.x, .int .i64 a.y, .int .i64 a.z, .int .i64 a.a, .int .i64 a.b, .int .i64 a.c, .int .i64 a.d, .int .i64 b.x, .int .i64 b.y, .int .i64 b.z, .int .i64 b.a, .int .i64 b.b, .int .i64 b.c, .int .i64 b.d, .int .i64 c.x, .int .i64 c.y, .int .i64 c.z, .int .i64 c.a, .int .i64 c.b, .int .i64 c.c, .int .i64 c.d], .int .i64 x, .int .i64 y, .pointer (some ⟨w.heap.size, 0, none⟩), .pointer (some ⟨w.heap.size + 1, 0, none⟩), .pointer (some ⟨w.heap.size + 1 + 1, 0, none⟩), .int .u8 0, .pointer (some ⟨w.heap.size + 1 + 1 + 1, 0, none⟩), .int .i64 (iv i), undef, undef, .func (.func 26) #[] #[.pointer (some ⟨w.heap.size + 1 + 1 + 1 + 1, 0, none⟩)], .int .i64 (iv i), undef, undef, undef, undef, undef, undef, undef, undef, undef, undef, undef, undef, undef, undef, undef, undef], defers := [] }) ?assign ?body ?done ?stop
  case assign =>
    intro l i W K hK
    unfold encs
    gi_wp2
    exact hK
  case body =>
    rintro l pre i W hW _
    have HM := Lib.hid hW
    have HT := Lib.hid hW.1
    have cX := hW.2.1.cell
    have cY := hW.2.2.1.cell
    have hlt := hW.1
    clear hW hM b4 hlt
    obtain ⟨r, hr⟩ : ∃ r, inS a b c x y i = r := ⟨_, rfl⟩
    have HR := Lib.hid hr
    have HIn := HI.out i W
    rw [show inn a b c (16 * x + sx (iv i)) (16 * y + sy (iv i)) = r from hr] at HIn
    have HIN := Lib.hid HIn
    clear hr HIn HI
    have HSa := Lib.hid (HS.out (iv i) W)
    clear HS
    generalize 16 * x + sx (iv i) = u at *
    generalize 16 * y + sy (iv i) = v at *
    gi_wp2_with (first | (gi_at_call 9; (with_reducible refine (CallsIn.inRound l (hC _ HSa.out)).mono ?_); rintro e w' ⟨rfl, rfl⟩) | (refine wpIn_loadT _ rfl rfl rfl HT.out ?_) | fail)
    with_reducible refine (CallsIn.inRound l (hC _ HIN.out)).mono ?_
    rintro e w2 ⟨rfl, hb⟩
    have hM2 := maskAt_grow HM.out hb
    have HM2 := Lib.hid hM2
    have HB := Lib.hid hb
    have cM := hM2.2.2.2.1.cell
    have fM := hM2.2.2.2.1.frozen
    have HK2 := Lib.hid (show KpB (w.heap.size + 1 + 1 + 1 + 1) W w2 from hM2.2.2.2.2.1.cell.trans HM.out.2.2.2.2.1.cell.symm)
    clear hM2 hb cX cY HT HSa HIN
    cases r with
    | false =>
      gi_wp2
      exact ⟨(keeps_of HB.out).from _, HK2.out, by show MaskAt w a b c x y (mk (inS a b c x y) (pre ++ [i])) w2; rw [mk_no HR.out]; exact HM2.out⟩
    | true =>
      have HE := Lib.hid (mk_yes (q := pre) HR.out)
      generalize mk (inS a b c x y) pre = mm at *
      obtain rfl | rfl | rfl | rfl : i = 0 ∨ i = 1 ∨ i = 2 ∨ i = 3 := by omega
      · simp only [show iv 0 = (0 : Int) from rfl]
        have hwp : IntKind.u8.wrap 1 = 1 := by decide
        gi_wp2
        gi_region_o
        all_goals gi_wp2
        all_goals
          have hS := maskAt_drew (maskAt_set (bits .or .u8 mm 1) HM2.out)
          refine ⟨(((keeps_of HB.out).trans (KeepsOthers.setCell _ _ _)).trans (KeepsOthers.drew _)).from _, (show _ = _ from hS.2.2.2.2.1.cell.trans HM.out.2.2.2.2.1.cell.symm), ?_⟩
          show MaskAt w a b c x y (mk (inS a b c x y) (pre ++ [0])) _
          rw [HE.out]
          exact hS
      · simp only [show iv 1 = (1 : Int) from rfl]
        have hwp : IntKind.u8.wrap 2 = 2 := by decide
        gi_wp2
        gi_region_o
        all_goals gi_wp2
        all_goals
          have hS := maskAt_drew (maskAt_set (bits .or .u8 mm 2) HM2.out)
          refine ⟨(((keeps_of HB.out).trans (KeepsOthers.setCell _ _ _)).trans (KeepsOthers.drew _)).from _, (show _ = _ from hS.2.2.2.2.1.cell.trans HM.out.2.2.2.2.1.cell.symm), ?_⟩
          show MaskAt w a b c x y (mk (inS a b c x y) (pre ++ [1])) _
          rw [HE.out]
          exact hS
      · simp only [show iv 2 = (2 : Int) from rfl]
        have hwp : IntKind.u8.wrap 4 = 4 := by decide
        gi_wp2
        gi_region_o
        all_goals gi_wp2
        all_goals
          have hS := maskAt_drew (maskAt_set (bits .or .u8 mm 4) HM2.out)
          refine ⟨(((keeps_of HB.out).trans (KeepsOthers.setCell _ _ _)).trans (KeepsOthers.drew _)).from _, (show _ = _ from hS.2.2.2.2.1.cell.trans HM.out.2.2.2.2.1.cell.symm), ?_⟩
          show MaskAt w a b c x y (mk (inS a b c x y) (pre ++ [2])) _
          rw [HE.out]
          exact hS
      · simp only [show iv 3 = (3 : Int) from rfl]
        have hwp : IntKind.u8.wrap 8 = 8 := by decide
        gi_wp2
        gi_region_o
        all_goals gi_wp2
        all_goals
          have hS := maskAt_drew (maskAt_set (bits .or .u8 mm 8) HM2.out)
          refine ⟨(((keeps_of HB.out).trans (KeepsOthers.setCell _ _ _)).trans (KeepsOthers.drew _)).from _, (show _ = _ from hS.2.2.2.2.1.cell.trans HM.out.2.2.2.2.1.cell.symm), ?_⟩
          show MaskAt w a b c x y (mk (inS a b c x y) (pre ++ [3])) _
          rw [HE.out]
          exact hS
  case done =>
    rintro D q W hD hq hM hK
    have cM := hM.2.2.2.1.cell
    have hB := hM.2.2.2.2.2
    gi_wp2
    refine ⟨by simp, .inl ⟨_, _, rfl, run_takeDeferred hK, ?_⟩⟩
    refine ⟨_, results_tmp rfl _ _ _, ?_, hB.trans (belowK_b (w := w) (Nat.le_refl _) W D _ _ (by omega) hK rfl rfl)⟩
    rw [mk_all]
    rfl
  case stop =>
    rintro D _ pre W hD _ h _
    exact h.elim

theorem mask_any (a b c : P) (x y : Int) (ha : a.sm) (hb : b.sm) (hc : c.sm) (hx : -1024 ≤ x ∧ x ≤ 1024) (hy : -1024 ≤ y ∧ y ≤ 1024) (w : World) :
    Calls Try.prog 14 #[.agg #[.int .i64 a.x, .int .i64 a.y, .int .i64 a.z, .int .i64 a.a, .int .i64 a.b, .int .i64 a.c, .int .i64 a.d, .int .i64 b.x, .int .i64 b.y, .int .i64 b.z, .int .i64 b.a, .int .i64 b.b, .int .i64 b.c, .int .i64 b.d, .int .i64 c.x, .int .i64 c.y, .int .i64 c.z, .int .i64 c.a, .int .i64 c.b, .int .i64 c.c, .int .i64 c.d], .int .i64 x, .int .i64 y] w fun e w' => e = .returned (.int .u8 (mask a b c x y)) ∧ Below w.heap.size w w' :=
  (callsIn_wide (n := 6)).1 (mask_in Fence.wide (fun _ => trivial) (fun _ h => callsIn_wide.2 h) 6 rfl (Nat.le_refl _) a b c x y ha hb hc hx hy w)
end Go.Proofs.Ytgcoggejgolhgaa
