/-
  The iterator of wire.All, at this seat's translation: for every loop body that keeps what lay.
-/
import Derived.Test.YtfmmfaeognoleaaM7
import Derived.RangeFuncNested
import Derived.RangeFuncBound
import Derived.RangeFuncCalls
import Derived.RangeFuncLeaves
import Derived.Shelf.Abstract
import Derived.Shelf.RegionOpen
import Derived.OwnWalkIn
import Derived.TacticsInMore
import Derived.LoopNIn
import Derived.LoopIn
namespace Go.Proofs.Ytfmmfaeognoleaa.P
open Go.RowKit Go.Shelf
attribute [local go_sem] Oper.semAt_some

def encs (x : Int × Bool) : Array Value := #[.int .i64 x.1, .bool x.2]
def lenOf : Value → Nat
  | .slice _ n _ => n
  | _ => 0

/-- Where the iterator stands: what has come, and what is left. -/
def ItAt (n₀ : Nat) (xs : List Int) (J : List (Int × Bool) → World → Prop) (p : Value) (wr : World) : Prop :=
  ∃ (pre : List (Int × Bool)) (ys : List Int) (A : Option Addr) (c : Nat), p = .slice A ys.length c ∧ ys.length ≤ c ∧ ys.length ≤ xs.length ∧ Byt ys ∧ Sl .u8 wr n₀ A ys ∧ seq xs = pre ++ seq ys ∧ J pre wr

set_option maxRecDepth 100000 in
set_option maxHeartbeats 2000000 in
theorem all1_in (F : Fence) (hfn : ∀ f, F.fn f) (hC : ∀ {f args W R} m, Calls Try.prog f args W R → CallsIn F m Try.prog f args W R) (n : Nat) (hro : F.round = none) (hn : 2 ≤ n) (l Bn n₀ : Nat) (A : Option Addr) (c : Nat) (xs : List Int)
    (hc : xs.length ≤ c) (hl : xs.length ≤ 10000000000) (hb : Byt xs) (J Jx : List (Int × Bool) → World → Prop)
    (hY : ∀ pre x W, J pre W → pre.length < (seq xs).length → YieldAt F (n - 1) Try.prog l (encs x) W fun e W' =>
      (e = .returned (.bool true) ∧ J (pre ++ [x]) W' ∧ Below n₀ W W') ∨ (e = .returned (.bool false) ∧ Jx (pre ++ [x]) W'))
    (W : World) (hBn : W.cell? ⟨Bn, 0, none⟩ = some (.slice A xs.length c)) (hs : Sl .u8 W n₀ A xs) (h0 : J [] W) :
    CallsIn F n Try.prog 86 #[.func (.yield l) #[] #[], .pointer (some ⟨Bn, 0, none⟩)] W fun e W' => (∃ v, e = .returned v) ∧
      ((∃ ys, ys = seq xs ∧ J ys W') ∨ (∃ pre, pre <+: seq xs ∧ Jx pre W')) := by
  have h20 := hfn 87
  have h1 : 1 ≤ n := by omega
  have HY := Lib.hid hY
  have HS := Lib.hid hs
  have HB := Lib.hid hb
  clear hY hs hb
  refine callsIn_of_wp Try.func86 rfl (hfn 86) ?_ hro
  simp only [Try.ntmps86, List.size_toArray, List.length_cons, List.length_nil, Nat.reduceAdd, Nat.reduceSub, Array.replicate_succ, Array.replicate_zero, List.push_toArray, List.append_toArray, List.nil_append, List.cons_append]
  gi_wp2
  gi_loopw [3] (fun p wr => ItAt n₀ xs J p wr) (fun p _ => lenOf p)
  case atStart =>
    exact ⟨[], xs, A, c, rfl, hc, Nat.le_refl _, HB.out, HS.out, rfl, h0⟩
  case round =>
    obtain ⟨pre, ys, A', c', rfl, hc', hlx, hby, hsl, hseq, hJ⟩ := hrel
    have HQ := Lib.hid hseq
    have HBy := Lib.hid hby
    have HSl := Lib.hid hsl
    clear hseq hby hsl
    by_cases hne : ys = []
    · subst hne
      gi_wp2
      go_end0
      exact ⟨⟨_, rfl⟩, .inl ⟨pre, by rw [HQ.out, seq_nil]; simp, hJ⟩⟩
    · have hpos : 0 < ys.length := List.length_pos_iff.2 hne
      have HN := Lib.hid hne
      clear hne
      obtain ⟨x, s, hf⟩ : ∃ x s, first ys = (x, s) := ⟨_, _, rfl⟩
      have hfa := first_any A' c' ys n₀ wr HSl.out HBy.out hc' (by omega)
      rw [hf] at hfa
      dsimp only at hfa
      have HF := Lib.hid hf
      have HFA := Lib.hid hfa
      clear hf hfa
      by_cases hz : s = 0
      · subst hz
        have hsb := seq_bad HN.out HF.out
        have hpl : pre.length < (seq xs).length := by rw [HQ.out, hsb]; simp
        obtain ⟨fn, tmps, assign, body, hy, hR⟩ := HY.out pre (0, false) wr hJ hpl
        dsimp only [encs] at hy
        have HSB := Lib.hid hsb
        have HR := Lib.hid hR
        clear hsb hR
        gi_wp2_with (gi_at_call 87; (with_reducible refine (hC _ HFA.out).mono ?_); rintro e w' ⟨rfl, rfl⟩)
        refine HR.out.mono ?_
        rintro e W3 (⟨rfl, hJ3, hk3⟩ | ⟨rfl, hJx3⟩)
        · gi_wp2
          refine bodyPost_ret (results_none rfl _ _ _) rfl ?_
          exact ⟨⟨_, rfl⟩, .inl ⟨_, by rw [HQ.out, HSB.out], hJ3⟩⟩
        · gi_wp2
          refine bodyPost_ret (results_none rfl _ _ _) rfl ?_
          exact ⟨⟨_, rfl⟩, .inr ⟨_, by rw [HQ.out, HSB.out]; exact List.prefix_rfl, hJx3⟩⟩
      · have hsg := seq_good HBy.out HF.out hz
        obtain ⟨-, -, -, hsl, hs1, -⟩ := first_inv HBy.out HF.out hz
        have hpl : pre.length < (seq xs).length := by rw [HQ.out, hsg]; simp
        obtain ⟨fn, tmps, assign, body, hy, hR⟩ := HY.out pre (x, true) wr hJ hpl
        dsimp only [encs] at hy
        have HSG := Lib.hid hsg
        have HR := Lib.hid hR
        have HZ := Lib.hid hz
        clear hsg hR hz
        gi_wp2_with (gi_at_call 87; (with_reducible refine (hC _ HFA.out).mono ?_); rintro e w' ⟨rfl, rfl⟩)
        refine HR.out.mono ?_
        rintro e W3 (⟨rfl, hJ3, hk3⟩ | ⟨rfl, hJx3⟩)
        · have hdl : (ys.drop s).length = ys.length - s := List.length_drop
          have hs3 := (HSl.out.below hk3).cut (n := s) (c := c') hc'
          obtain ⟨A3, hA3⟩ : ∃ A3, (if c' = s then A' else A'.map fun x => x.add s) = A3 := ⟨_, rfl⟩
          rw [hA3] at hs3
          have HS3 := Lib.hid hs3
          have HDL := Lib.hid hdl
          clear hs3 hdl
          gi_wp2
          go_roundw
          case rel => exact ⟨pre ++ [(x, true)], ys.drop s, A3, c' - s, by rw [HDL.out], by rw [HDL.out]; omega, by rw [HDL.out]; omega, HBy.out.drop s, HS3.out, by rw [HQ.out, HSG.out]; simp, hJ3⟩
          case measure => simp [lenOf]; omega
        · gi_wp2
          refine bodyPost_ret (results_none rfl _ _ _) rfl ?_
          exact ⟨⟨_, rfl⟩, .inr ⟨pre ++ [(x, true)], ⟨seq (ys.drop s), by rw [HQ.out, HSG.out]; simp⟩, hJx3⟩⟩

theorem all_stops (F : Fence) (hfn : ∀ f, F.fn f) (hC : ∀ {f args W R} m, Calls Try.prog f args W R → CallsIn F m Try.prog f args W R) (n : Nat) (hro : F.round = none) (hn : 2 ≤ n) (Bn n₀ : Nat) (A : Option Addr) (c : Nat) (xs : List Int)
    (hc : xs.length ≤ c) (hl : xs.length ≤ 10000000000) (hb : Byt xs) (w : World) (hBn : Bn < w.heap.size) (hn₀ : n₀ ≤ w.heap.size) (hcell : w.cell? ⟨Bn, 0, none⟩ = some (.slice A xs.length c)) (hs : Sl .u8 w n₀ A xs) :
    SeqStopsK F n Try.prog 86 #[.pointer (some ⟨Bn, 0, none⟩)] encs (Below n₀) (fun ys => ys = seq xs) (fun pre => pre <+: seq xs) (seq xs).length w := fun l J Jx W hW _ _ hY h0 =>
  all1_in F hfn hC n hro hn l Bn n₀ A c xs hc hl hb J Jx hY W ((hW.cell (p := ⟨Bn, 0, none⟩) hBn).trans hcell) (hs.below (hW.mono hn₀)) h0

end Go.Proofs.Ytfmmfaeognoleaa.P
/-
  glazierlaw03.gone, at this seat's translation.
-/
namespace Go.Proofs.Ytfmmfaeognoleaa.P
open Go.RowKit Go.Shelf
attribute [local go_sem] Oper.semAt_some

def Bad (pre : List (Int × Bool)) : Prop := ∃ p y, pre = p ++ [y] ∧ (flag p = true ∨ (y.2 = false ∧ y.1 ≠ 0))

theorem flag_map (q : List Int) : flag (q.map fun n => (n, true)) = false := by simp [flag]
theorem nums_map (q : List Int) : nums (q.map fun n => (n, true)) = q := by simp [nums, List.filter_map, Function.comp_def]
theorem flag_prefix {p q : List (Int × Bool)} (h : p <+: q) (hq : flag q = false) : flag p = false := by
  obtain ⟨t, rfl⟩ := h
  simp [flag] at hq ⊢
  exact hq.1

theorem not_bad {xs : List Int} (hb : Byt xs) {pre : List (Int × Bool)} (h : pre <+: seq xs) : ¬ Bad pre := by
  obtain ⟨-, -, q, t, hq, ht⟩ := seq_len xs.length xs (Nat.le_refl _) hb
  rintro ⟨p, y, rfl, hy⟩
  have key : ∀ r : List (Int × Bool), (p ++ [y]) ++ r = q.map (fun n => (n, true)) → False := by
    intro r hr
    have h1 := flag_prefix (p := p) (q := (p ++ [y]) ++ r) ⟨[y] ++ r, by simp⟩ (by rw [hr]; exact flag_map q)
    rcases hy with hy | ⟨hy, _⟩
    · rw [h1] at hy; cases hy
    · have hm : y ∈ q.map (fun n => (n, true)) := by rw [← hr]; simp
      obtain ⟨a, _, rfl⟩ := List.mem_map.1 hm
      cases hy
  rw [hq] at h
  obtain ⟨r, hr⟩ := h
  rcases ht with rfl | rfl
  · rw [List.append_nil] at hr
    exact key r hr
  · rcases List.eq_nil_or_concat r with rfl | ⟨r', z, rfl⟩
    · rw [List.append_nil] at hr
      have h1 := List.append_inj_right' hr rfl
      have h2 := List.append_inj_left' hr rfl
      obtain rfl : y = (0, false) := by simpa using h1
      rcases hy with hy | ⟨_, hy⟩
      · rw [h2, flag_map] at hy; cases hy
      · exact hy rfl
    · rw [List.concat_eq_append, ← List.append_assoc] at hr
      exact key r' (List.append_inj_left' hr rfl)

theorem nums_prefix {p q : List (Int × Bool)} (h : p <+: q) : nums p = (nums q).take (nums p).length := by
  obtain ⟨t, rfl⟩ := h
  simp [nums]

theorem boxed_app {W w1 : World} {n₀ B Bo t : Nat} {u v : Value} {k : Nat} {ys : List Value} {T : Obj} (hb : Boxed W B t u) (hte : t ≠ 3) (hrow : W.ownsRow n₀ 3 1 v k ys) (hgrow : (W.alloc T).grownBy w1 v.ownBlock) (hne : B ≠ Bo) (v' : Value) :
    Boxed (w1.setCell ⟨Bo, 0, none⟩ v') B t u := ((hb.alloc T).kept hgrow (hb.not_row hte hrow)).other hne v'
theorem own_form {w : World} {base n : Nat} {t : TypeId} {v : Value} {xs : List Value} (h : w.ownsRow base t 1 v n xs) : ∃ A c, v = .slice A n c := by
  rcases h.2 with ⟨rfl, rfl⟩ | ⟨g, cap, cur, rfl, _⟩
  · exact ⟨_, _, rfl⟩
  · exact ⟨_, _, rfl⟩
theorem boxed_below {W W' : World} {n₀ B t : Nat} {u : Value} (hb : Boxed W B t u) (h : Below n₀ W W') (hlt : B < n₀) : Boxed W' B t u := (h.block B hlt).trans hb

/-- What gone answers. -/
def Gone (w : World) (xs : List Int) (most : Nat) (e : Ending) (w' : World) : Prop :=
  ∃ v f, e = .returned (.tuple #[v, .bool f, .bool true]) ∧ OwnS 3 .i64 w' w.heap.size v ((nums (seq xs)).take most) ∧ ((nums (seq xs)).length < most → f = flag (seq xs)) ∧ Below w.heap.size w w'

end Go.Proofs.Ytfmmfaeognoleaa.P
/-
  codec.numbers: all that bytes say.
-/
namespace Go.Proofs.Ytfmmfaeognoleaa.P
open Go.RowKit Go.Shelf
attribute [local go_sem] Oper.semAt_some

/-- What codec.numbers answers. -/
def Numb (w : World) (xs : List Int) (e : Ending) (w' : World) : Prop :=
  Below w.heap.size w w' ∧ ((flag (seq xs) = true ∧ e = .returned (.tuple #[.slice none 0 0, .bool false])) ∨ (flag (seq xs) = false ∧ ∃ v, e = .returned (.tuple #[v, .bool true]) ∧ OwnS 3 .i64 w' w.heap.size v (nums (seq xs))))
/-- The boxes of its variables, and what is gathered. -/
def Coll (w : World) (q : List (Int × Bool)) (W : World) : Prop :=
  (∃ v, Boxed W (w.heap.size + 1 + 1) 22 v ∧ W.ownsRow w.heap.size 3 1 v (nums q).length ((nums q).map (Value.int .i64)) ∧ True) ∧
  Boxed W w.heap.size 22 (.slice none 0 0) ∧ Boxed W (w.heap.size + 1) 4 (.bool false) ∧ Below w.heap.size w W
theorem coll_own (w : World) {Bo : Nat} (hB : w.heap.size ≤ Bo) : OwnFrom Bo (fun q W => Coll w q W) :=
  OwnFrom.and (Own.from (holdsRow_own _ _ 22 3 1 (fun q => (nums q).length) (fun q => (nums q).map (Value.int .i64)) (fun _ _ => True)) _)
    (OwnFrom.and (Own.from (boxed_own _ _ _) _) (OwnFrom.and (Own.from (boxed_own _ _ _) _) (ownFrom_below (Nat.le_refl _) hB)))
theorem flag_tail {p q : List (Int × Bool)} (h : p <+: q) (hp : flag p = true) : flag q = true := by
  cases e : flag q
  · rw [flag_prefix h e] at hp; cases hp
  · rfl
/-- The world behind its last stores, and what its boxes hold. -/
theorem nums_ends {w W : World} {D : Nat} {Av : Option Addr} {cv : Nat} {q : List (Int × Bool)} (hD : w.heap.size ≤ D)
    (hrw : W.ownsRow w.heap.size 3 1 (.slice Av (nums q).length cv) (nums q).length ((nums q).map (Value.int .i64))) (bR1 : Boxed W w.heap.size 22 (.slice none 0 0)) (bR2 : Boxed W (w.heap.size + 1) 4 (.bool false))
    (hB : Below w.heap.size w W) (hK : W.heap[D]? = some (.deferred (some []))) (f : Bool) :
    ∃ W', W' = ((W.setCell ⟨w.heap.size, 0, none⟩ (.slice Av (nums q).length cv)).setCell ⟨w.heap.size + 1, 0, none⟩ (.bool f)) ∧ W'.heap[D]? = some (.deferred (some [])) ∧
      (W'.putObj D (.deferred none)).cell? ⟨w.heap.size, 0, none⟩ = some (.slice Av (nums q).length cv) ∧ (W'.putObj D (.deferred none)).cell? ⟨w.heap.size + 1, 0, none⟩ = some (.bool f) ∧
      OwnS 3 .i64 (W'.putObj D (.deferred none)) w.heap.size (.slice Av (nums q).length cv) (nums q) ∧ Below w.heap.size w (W'.putObj D (.deferred none)) := by
  have hK' : ((W.setCell ⟨w.heap.size, 0, none⟩ (.slice Av (nums q).length cv)).setCell ⟨w.heap.size + 1, 0, none⟩ (.bool f)).heap[D]? = some (.deferred (some [])) :=
    ((KeepsOthers.setCell _ _ _).trans (KeepsOthers.setCell _ _ _)).same D _ hK rfl
  have q1 := (bR1.set (.slice Av (nums q).length cv)).other (B' := w.heap.size + 1) (by omega) (.bool f)
  have q2 := (bR2.other (B' := w.heap.size) (by omega) (.slice Av (nums q).length cv)).set (.bool f)
  have r1 := hrw.kept (grownBy_setCell' W w.heap.size (.slice Av (nums q).length cv)) (.inr (bR1.not_row (by decide) hrw).symm)
  have r2 := r1.kept (grownBy_setCell' _ (w.heap.size + 1) (.bool f)) (.inr ((bR2.other (B' := w.heap.size) (by omega) (.slice Av (nums q).length cv)).not_row (by decide) r1).symm)
  refine ⟨_, rfl, hK', ?_, ?_, ?_, ?_⟩
  · exact cell_kept (Boxed.cell q1) (grownBy_putObj' _ D (.deferred none)) (fun r e => by cases e; exact ⟨_, hK', rfl⟩)
  · exact cell_kept (Boxed.cell q2) (grownBy_putObj' _ D (.deferred none)) (fun r e => by cases e; exact ⟨_, hK', rfl⟩)
  · exact OwnS.less (ownsRow_putObj r2 _ hK' rfl) (by omega)
  · exact (((hB.setCell (p := ⟨w.heap.size, 0, none⟩) (Nat.le_refl _) _).setCell (p := ⟨w.heap.size + 1, 0, none⟩) (Nat.le_succ _) _)).trans (belowK_b (w := w) (Nat.le_refl _) _ D _ _ hD hK' rfl rfl)
set_option maxRecDepth 100000 in
set_option maxHeartbeats 4000000 in
theorem numbers_in (F : Fence) (hfn : ∀ f, F.fn f) (hC : ∀ {f args W R} m, Calls Try.prog f args W R → CallsIn F m Try.prog f args W R) (n : Nat) (hro : F.round = none) (hn : 6 ≤ n) (A : Option Addr) (c : Nat) (xs : List Int)
    (hc : xs.length ≤ c) (hl : xs.length ≤ 1000000) (hb : Byt xs) (w : World) (hs : Sl .u8 w w.heap.size A xs) :
    CallsIn F n Try.prog 29 #[.slice A xs.length c] w (Numb w xs) := by
  have h91 := hfn 55
  have h121 := hfn 86
  have h1 : 1 ≤ n := by omega
  have he := eql40
  obtain ⟨i0, hi, hz0, hz1, hz2⟩ := info_parts Try.info3
  have HI := Lib.hid hi
  have HZ := Lib.hid (And.intro hz0 (And.intro hz1 hz2))
  clear hi hz0 hz1 hz2
  have hN := (seq_len xs.length xs (Nat.le_refl _) hb).1
  have HS := Lib.hid hs
  have HBy := Lib.hid hb
  clear hs hb
  refine callsIn_of_wp_marks Try.func29 rfl (hfn 29) ?_ hro
  simp only [Try.ntmps29, List.size_toArray, List.length_cons, List.length_nil, Nat.reduceAdd, Nat.reduceSub, Array.replicate_succ, Array.replicate_zero, List.push_toArray, List.append_toArray, List.nil_append, List.cons_append]
  gi_wp2_with (gi_at_call 55; (with_reducible refine (hC _ (all_any _ _ _ _)).mono ?_); rintro e w' ⟨rfl, rfl⟩)
  clear he
  have b0 := Boxed.new w 22 (.slice none 0 0)
  replace b0 := (((b0.alloc (.cells #[.bool false] 4)).alloc (.cells #[.slice none 0 0] 22)).alloc (.cells #[.slice A xs.length c] 24))
  have b1 := Boxed.new (w.alloc (.cells #[.slice none 0 0] 22)) 4 (.bool false)
  simp only [World.size_alloc] at b1
  replace b1 := ((b1.alloc (.cells #[.slice none 0 0] 22)).alloc (.cells #[.slice A xs.length c] 24))
  have b2 := Boxed.new ((w.alloc (.cells #[.slice none 0 0] 22)).alloc (.cells #[.bool false] 4)) 22 (.slice none 0 0)
  simp only [World.size_alloc] at b2
  replace b2 := (b2.alloc (.cells #[.slice A xs.length c] 24))
  have b3 := Boxed.new (((w.alloc (.cells #[.slice none 0 0] 22)).alloc (.cells #[.bool false] 4)).alloc (.cells #[.slice none 0 0] 22)) 24 (.slice A xs.length c)
  simp only [World.size_alloc] at b3
  have hB0 : Below w.heap.size w ((((w.alloc (.cells #[.slice none 0 0] 22)).alloc (.cells #[.bool false] 4)).alloc (.cells #[.slice none 0 0] 22)).alloc (.cells #[.slice A xs.length c] 24)) := by
    repeat (first | exact Below.refl _ _ | refine Below.alloc ?_ (by simp <;> omega) _)
  have hsz : ((((w.alloc (.cells #[.slice none 0 0] 22)).alloc (.cells #[.bool false] 4)).alloc (.cells #[.slice none 0 0] 22)).alloc (.cells #[.slice A xs.length c] 24)).heap.size = w.heap.size + 4 := by simp
  obtain ⟨W0, hW0⟩ : ∃ W0, ((((w.alloc (.cells #[.slice none 0 0] 22)).alloc (.cells #[.bool false] 4)).alloc (.cells #[.slice none 0 0] 22)).alloc (.cells #[.slice A xs.length c] 24)) = W0 := ⟨_, rfl⟩
  rw [hW0] at b0 b1 b2 b3 hB0 hsz ⊢
  clear hW0
  refine wpIn_rangeFunc_ownG hro h1 (gf := 86) (lb := #[.pointer (some ⟨w.heap.size + 1 + 1 + 1, 0, none⟩)]) rfl h121 (enters_of Try.func86 (by kernel_rfl) rfl)
    (all_stops F hfn hC (n - 1) hro (by omega) (w.heap.size + 1 + 1 + 1) w.heap.size A c xs hc (by omega) HBy.out W0 (by omega) (by omega) b3.cell (HS.out.below hB0)) belowK_t (belowK_b (by omega)) (Below.refl _ _) (fun _ => rfl)
    (fun q W => flag q = false ∧ Coll w q W)
    (fun k q W => k = .ret ∧ flag q = true ∧ Boxed W w.heap.size 22 (.slice none 0 0) ∧ Boxed W (w.heap.size + 1) 4 (.bool false) ∧ Below w.heap.size w W)
    (OwnFrom.and (ownFrom_pure _ _) (coll_own w (by omega)))
    (fun k s X Y row hh hg hr => by
      obtain ⟨e1, e2, e3, e4, e5⟩ := hh
      exact ⟨e1, e2, Own.from (boxed_own w.heap.size 22 (fun _ : List (Int × Bool) => Value.slice none 0 0)) W0.heap.size s X Y row e3 hg hr, Own.from (boxed_own (w.heap.size + 1) 4 (fun _ : List (Int × Bool) => Value.bool false)) W0.heap.size s X Y row e4 hg hr, ownFrom_below (Nat.le_refl _) (by omega) s X Y row e5 hg hr⟩)
    ⟨rfl, ⟨_, b2, World.ownsRow_nil _ _ _ _, trivial⟩, b0, b1, hB0⟩
    (fun x => { tmps := #[.slice A xs.length c, undef, .pointer (some ⟨w.heap.size, 0, none⟩), .pointer (some ⟨w.heap.size + 1, 0, none⟩), .pointer (some ⟨w.heap.size + 1 + 1, 0, none⟩), .int .i64 x.1, .bool x.2, .slice A xs.length c, .func (.func 86) #[] #[.pointer (some ⟨w.heap.size + 1 + 1 + 1, 0, none⟩)], .int .i64 x.1, .bool x.2, undef, undef, undef, undef, undef, undef, undef], defers := [] }) ?assign ?body ?done ?stop
  case assign =>
    intro l x W K hK
    unfold encs
    gi_wp2
    exact hK
  case body =>
    rintro l pre ⟨m, ok⟩ W ⟨hf, ⟨v, bO, hrw, -⟩, bR1, bR2, hB⟩ hpl
    obtain ⟨Av, cv, rfl⟩ := own_form hrw
    have hnl := nums_le pre
    have cO := bO.cell
    have c1 := bR1.cell
    have f1 := bR1.frozen
    have c2 := bR2.cell
    have f2 := bR2.frozen
    have hBs := hB.size
    have hfew : (nums pre).length ≤ xs.length := by omega
    cases ok with
    | false =>
      have hKB := Lib.hid (And.intro bR1 (And.intro bR2 hB))
      clear hf hrw bR1 bR2 hB bO cO
      gi_wp2
      obtain ⟨bR1, bR2, hB⟩ := hKB.out
      refine ⟨((KeepsOthers.setCell _ _ _).trans (KeepsOthers.setCell _ _ _)).from _, rfl, flag_snoc_f _ _, (bR1.set _).other (by omega) _, (bR2.other (by omega) _).set _, (hB.setCell (p := ⟨w.heap.size, 0, none⟩) (Nat.le_refl _) _).setCell (p := ⟨w.heap.size + 1, 0, none⟩) (Nat.le_succ _) _⟩
    | true =>
      have hKB := Lib.hid (And.intro hf (And.intro hrw (And.intro bR1 (And.intro bR2 (And.intro hB bO)))))
      have hz : w.heap.size ≤ W.heap.size := hB.size
      gi_wp2_with (gi_at_builtin; refine wpListIn_append_own _ rfl _ _ 22 rfl w.heap.size 3 i0 (.int .i64 0) 1 8 Try.underlying22 HI.out HZ.out.1 HZ.out.2.1 HZ.out.2.2 rfl (by decide) _ _ _ rfl (hrw.alloc _) ⟨W.heap.size, 0, none⟩ 1 1 [.int .i64 m] rfl rfl (cell_one_new _ _ _) (by simp [Value.oneCell']) (by unfold maxLen; omega) (by omega) (by simp; omega) ?_; intro v' w1 hown' hgrow _; obtain ⟨g', cap', rfl⟩ := ownsRow_succ hown'; obtain ⟨hv1, hv2, hr2, hk2, hb2⟩ := bO.appended (by decide) hrw hz (by omega) hown' hgrow; have hc1 := hv1.cell; have hf1 := hv1.frozen; have hc2 := hv2.cell)
      exact ⟨hk2.from _, hb2.mono (by omega), by rw [flag_snoc_t]; exact hKB.out.1, ⟨_, hv2, by rw [nums_snoc_t]; simpa using hr2, trivial⟩, boxed_app bR1 (by decide) hrw hgrow (by omega) _, boxed_app bR2 (by decide) hrw hgrow (by omega) _, hB.trans hb2⟩
  case done =>
    rintro D q W hD hq ⟨hf, ⟨v, bO, hrw, -⟩, bR1, bR2, hB⟩ hK
    obtain ⟨Av, cv, rfl⟩ := own_form hrw
    have cO := bO.cell
    have c1 := bR1.cell
    have f1 := bR1.frozen
    have c2 := bR2.cell
    have f2 := bR2.frozen
    have HQ := Lib.hid hq
    clear hq
    gi_wp2
    obtain ⟨W', hW', hK', k1, k2, hO, hBB⟩ := nums_ends (w := w) (by omega) hrw bR1 bR2 hB hK true
    rw [← hW']
    refine ⟨by simp, .inl ⟨_, _, rfl, run_takeDeferred hK', ?_⟩⟩
    exact ⟨.tuple #[.slice Av (nums q).length cv, .bool true], by simp [results, Try.f29, go_sem, k1, k2], hBB, .inr ⟨by rw [← HQ.out]; exact hf, _, rfl, by rw [← HQ.out]; exact hO⟩⟩
  case stop =>
    rintro D k q W hD hpre ⟨rfl, hf, bR1, bR2, hB⟩ hK
    have c1 := bR1.cell
    have c2 := bR2.cell
    gi_wp2
    have k1 : (W.putObj D (.deferred none)).cell? ⟨w.heap.size, 0, none⟩ = some (.slice none 0 0) := cell_kept c1 (grownBy_putObj' _ D (.deferred none)) (fun r e => by cases e; exact ⟨_, hK, rfl⟩)
    have k2 : (W.putObj D (.deferred none)).cell? ⟨w.heap.size + 1, 0, none⟩ = some (.bool false) := cell_kept c2 (grownBy_putObj' _ D (.deferred none)) (fun r e => by cases e; exact ⟨_, hK, rfl⟩)
    refine ⟨by simp, .inl ⟨_, _, rfl, run_takeDeferred hK, ?_⟩⟩
    exact ⟨.tuple #[.slice none 0 0, .bool false], by simp [results, Try.f29, go_sem, k1, k2], hB.trans (belowK_b (w := w) (Nat.le_refl _) _ D _ _ (by omega) hK rfl rfl), .inl ⟨flag_tail hpre hf, rfl⟩⟩
/-- codec.numbers, whatever the bytes. -/
theorem numbers_any (A : Option Addr) (c : Nat) (xs : List Int) (hc : xs.length ≤ c) (hl : xs.length ≤ 1000000) (hb : Byt xs) (w : World) (hs : Sl .u8 w w.heap.size A xs) :
    Calls Try.prog 29 #[.slice A xs.length c] w (Numb w xs) :=
  (callsIn_wide (n := 6)).1 (numbers_in Fence.wide (fun _ => trivial) (fun _ h => callsIn_wide.2 h) 6 rfl (Nat.le_refl _) A c xs hc hl hb w hs)
end Go.Proofs.Ytfmmfaeognoleaa.P
/-
  codec.read, Take and Put.
-/
namespace Go.Proofs.Ytfmmfaeognoleaa
open Go.RowKit
attribute [local go_sem ↓] Go.wp_at_zero Go.wp_at_succ

section
variable {w a : World} {g B : Nat}
theorem sets_blk (x : Sc) {y : Sc} (h : w.heap[g]? = some (scB y)) : (((((((((((w.setCell ⟨g, 0, none⟩ (.int .i64 x.w))).setCell ⟨g, 1, none⟩ (.int .i64 x.h)).setCell ⟨g, 2, none⟩ (.int .u8 x.k.r)).setCell ⟨g, 3, none⟩ (.int .u8 x.k.g)).setCell ⟨g, 4, none⟩ (.int .u8 x.k.b)).setCell ⟨g, 5, none⟩ (.int .u8 x.k.a)).setCell ⟨g, 6, none⟩ (.slice x.vA x.vs.length x.vc)).setCell ⟨g, 7, none⟩ (.slice x.tA x.ts.length x.tc)).setCell ⟨g, 8, none⟩ (.slice x.pA x.ps.length x.pc)).setCell ⟨g, 9, none⟩ (.slice x.dA x.ds.length x.dc)).heap[g]? = some (scB x) := by
  unfold scB at h
  rw [heap_setCell_same _ _ _ _ _ _ (heap_setCell_same _ _ _ _ _ _ (heap_setCell_same _ _ _ _ _ _ (heap_setCell_same _ _ _ _ _ _ (heap_setCell_same _ _ _ _ _ _ (heap_setCell_same _ _ _ _ _ _ (heap_setCell_same _ _ _ _ _ _ (heap_setCell_same _ _ _ _ _ _ (heap_setCell_same _ _ _ _ _ _ (heap_setCell_same _ _ _ _ _ _ h)))))))))]
  simp [scB]
theorem sets_other (x : Sc) {k : Nat} (hk : k ≠ g) : (((((((((((w.setCell ⟨g, 0, none⟩ (.int .i64 x.w))).setCell ⟨g, 1, none⟩ (.int .i64 x.h)).setCell ⟨g, 2, none⟩ (.int .u8 x.k.r)).setCell ⟨g, 3, none⟩ (.int .u8 x.k.g)).setCell ⟨g, 4, none⟩ (.int .u8 x.k.b)).setCell ⟨g, 5, none⟩ (.int .u8 x.k.a)).setCell ⟨g, 6, none⟩ (.slice x.vA x.vs.length x.vc)).setCell ⟨g, 7, none⟩ (.slice x.tA x.ts.length x.tc)).setCell ⟨g, 8, none⟩ (.slice x.pA x.ps.length x.pc)).setCell ⟨g, 9, none⟩ (.slice x.dA x.ds.length x.dc)).heap[k]? = w.heap[k]? := by
  rw [heap_setCell_other _ _ _ _ hk, heap_setCell_other _ _ _ _ hk, heap_setCell_other _ _ _ _ hk, heap_setCell_other _ _ _ _ hk, heap_setCell_other _ _ _ _ hk, heap_setCell_other _ _ _ _ hk, heap_setCell_other _ _ _ _ hk, heap_setCell_other _ _ _ _ hk, heap_setCell_other _ _ _ _ hk, heap_setCell_other _ _ _ _ hk]
theorem sets_below (x : Sc) (h : Below B a w) (hg : B ≤ g) : Below B a (((((((((((w.setCell ⟨g, 0, none⟩ (.int .i64 x.w))).setCell ⟨g, 1, none⟩ (.int .i64 x.h)).setCell ⟨g, 2, none⟩ (.int .u8 x.k.r)).setCell ⟨g, 3, none⟩ (.int .u8 x.k.g)).setCell ⟨g, 4, none⟩ (.int .u8 x.k.b)).setCell ⟨g, 5, none⟩ (.int .u8 x.k.a)).setCell ⟨g, 6, none⟩ (.slice x.vA x.vs.length x.vc)).setCell ⟨g, 7, none⟩ (.slice x.tA x.ts.length x.tc)).setCell ⟨g, 8, none⟩ (.slice x.pA x.ps.length x.pc)).setCell ⟨g, 9, none⟩ (.slice x.dA x.ds.length x.dc)) :=
  (((((((((h.setCell hg _).setCell hg _).setCell hg _).setCell hg _).setCell hg _).setCell hg _).setCell hg _).setCell hg _).setCell hg _).setCell hg _
end
/-- What codec.read answers. -/
def ReadA (xs : List Int) (w : World) (e : Ending) (w' : World) : Prop :=
  ∃ (x : Sc) (ok : Bool), e = .returned (.tuple #[.agg #[.int .i64 x.w, .int .i64 x.h, .int .u8 x.k.r, .int .u8 x.k.g, .int .u8 x.k.b, .int .u8 x.k.a, .slice x.vA x.vs.length x.vc, .slice x.tA x.ts.length x.tc, .slice x.pA x.ps.length x.pc, .slice x.dA x.ds.length x.dc], .bool ok]) ∧ Below w.heap.size w w' ∧ ((readP xs = none ∧ ok = false) ∨ ∃ q, readP xs = some q ∧ ok = true ∧ x.p = q ∧ x.on w' (fun b => w.heap.size < b) ∧ x.cap)
def noS : Sc := flat0 0 0
theorem rd_new {w : World} {A : Option Addr} {c : Nat} {l : List Int} (hc : l.length ≤ c) (h : Es EN w w.heap.size A l) : Rd (w.alloc (.cells #[.slice A l.length c, .bool false] 85)) w.heap.size ⟨l, false⟩ :=
  ⟨A, c, heap_alloc_new _ _, hc, h.below (new_below w _)⟩
set_option maxRecDepth 100000 in
set_option maxHeartbeats 4000000 in
theorem read_any (A : Option Addr) (c : Nat) (xs : List Int) (hc : xs.length ≤ c) (hl : xs.length ≤ 65536) (hb : P.Byt xs) (w : World) (hs : P.Sl .u8 w w.heap.size A xs) :
    Calls Try.prog 16 #[.slice A xs.length c] w (ReadA xs w) := by
  have hB0 := new_below w (.cells #[.int .i64 0, .int .i64 0, .int .u8 0, .int .u8 0, .int .u8 0, .int .u8 0, .slice none 0 0, .slice none 0 0, .slice none 0 0, .slice none 0 0] 33)
  have HN := Lib.hid (P.numbers_any A c xs hc (by omega) hb (w.alloc (.cells #[.int .i64 0, .int .i64 0, .int .u8 0, .int .u8 0, .int .u8 0, .int .u8 0, .slice none 0 0, .slice none 0 0, .slice none 0 0, .slice none 0 0] 33)) ((hs.below hB0).more (by simp)))
  have HB0 := Lib.hid hB0
  have HG0 := Lib.hid (show (w.alloc (.cells #[.int .i64 0, .int .i64 0, .int .u8 0, .int .u8 0, .int .u8 0, .int .u8 0, .slice none 0 0, .slice none 0 0, .slice none 0 0, .slice none 0 0] 33)).heap[w.heap.size]? = some (scB noS) from heap_alloc_new _ _)
  have hlen := (P.seq_len _ xs (Nat.le_refl _) hb).1
  have hnl := P.nums_le (P.seq xs)
  have HQ := Lib.hid (show readP xs = if P.flag (P.seq xs) = true then none else scanP (P.nums (P.seq xs)) from rfl)
  have HL := Lib.hid (show (P.nums (P.seq xs)).length ≤ 65536 by omega)
  unfold P.Numb at HN
  generalize P.nums (P.seq xs) = l at *
  clear hs hB0 hlen hnl hb hc hl
  go_enter Try.func16, Try.ntmps16
  go_wp2_with fail
  with_reducible refine (HN.out).mono ?_
  rintro e w1 ⟨hb1, h1⟩
  have HB1 := Lib.hid (bstep HB0.out (by simp) hb1)
  have hs1 := hb1.size
  have hsz : w.heap.size < w1.heap.size := by simp at hs1; omega
  have hg1 := scB_keep HG0.out hb1 (scB_lt HG0.out)
  have HG1 := Lib.hid hg1
  clear hb1 HG0 HN hs1
  rcases h1 with ⟨hf, rfl⟩ | ⟨hf, v, rfl, ho⟩
  · have HN := Lib.hid (show readP xs = none by rw [HQ.out, if_pos hf])
    have f0 := scB_free hg1
    obtain ⟨c0, c1, c2, c3, c4, c5, c6, c7, c8, c9⟩ := scB_cell hg1
    have HS := Lib.hid (show (((((((((((w1.setCell ⟨w.heap.size, 0, none⟩ (.int .i64 noS.w))).setCell ⟨w.heap.size, 1, none⟩ (.int .i64 noS.h)).setCell ⟨w.heap.size, 2, none⟩ (.int .u8 noS.k.r)).setCell ⟨w.heap.size, 3, none⟩ (.int .u8 noS.k.g)).setCell ⟨w.heap.size, 4, none⟩ (.int .u8 noS.k.b)).setCell ⟨w.heap.size, 5, none⟩ (.int .u8 noS.k.a)).setCell ⟨w.heap.size, 6, none⟩ (.slice noS.vA noS.vs.length noS.vc)).setCell ⟨w.heap.size, 7, none⟩ (.slice noS.tA noS.ts.length noS.tc)).setCell ⟨w.heap.size, 8, none⟩ (.slice noS.pA noS.ps.length noS.pc)).setCell ⟨w.heap.size, 9, none⟩ (.slice noS.dA noS.ds.length noS.dc)).heap[w.heap.size]? = some (scB noS) from sets_blk noS HG1.out)
    have HB := Lib.hid (show Below w.heap.size w (((((((((((w1.setCell ⟨w.heap.size, 0, none⟩ (.int .i64 noS.w))).setCell ⟨w.heap.size, 1, none⟩ (.int .i64 noS.h)).setCell ⟨w.heap.size, 2, none⟩ (.int .u8 noS.k.r)).setCell ⟨w.heap.size, 3, none⟩ (.int .u8 noS.k.g)).setCell ⟨w.heap.size, 4, none⟩ (.int .u8 noS.k.b)).setCell ⟨w.heap.size, 5, none⟩ (.int .u8 noS.k.a)).setCell ⟨w.heap.size, 6, none⟩ (.slice noS.vA noS.vs.length noS.vc)).setCell ⟨w.heap.size, 7, none⟩ (.slice noS.tA noS.ts.length noS.tc)).setCell ⟨w.heap.size, 8, none⟩ (.slice noS.pA noS.ps.length noS.pc)).setCell ⟨w.heap.size, 9, none⟩ (.slice noS.dA noS.ds.length noS.dc)) from sets_below noS HB1.out (Nat.le_refl _))
    simp only [noS, flat0, zC, List.length_nil] at HS HB
    clear hf hg1 HQ HL
    go_wp2_with fail
    obtain ⟨W, hW⟩ : ∃ W, (((((((((w1.setCell ⟨w.heap.size, 0, none⟩ (.int .i64 0)).setCell ⟨w.heap.size, 1, none⟩ (.int .i64 0)).setCell ⟨w.heap.size, 2, none⟩ (.int .u8 0)).setCell ⟨w.heap.size, 3, none⟩ (.int .u8 0)).setCell ⟨w.heap.size, 4, none⟩ (.int .u8 0)).setCell ⟨w.heap.size, 5, none⟩ (.int .u8 0)).setCell ⟨w.heap.size, 6, none⟩ (.slice none 0 0)).setCell ⟨w.heap.size, 7, none⟩ (.slice none 0 0)).setCell ⟨w.heap.size, 8, none⟩ (.slice none 0 0)).setCell ⟨w.heap.size, 9, none⟩ (.slice none 0 0) = W := ⟨_, rfl⟩
    rw [hW] at HS HB
    rw [hW]
    have k := scB_cell HS.out
    refine bodyPost_ret (v := .tuple #[.agg #[.int .i64 0, .int .i64 0, .int .u8 0, .int .u8 0, .int .u8 0, .int .u8 0, .slice none 0 0, .slice none 0 0, .slice none 0 0, .slice none 0 0], .bool false]) (by simp [results, Try.results16, go_sem, k]) rfl ⟨noS, false, rfl, HB.out, .inl ⟨HN.out, rfl⟩⟩
  · obtain ⟨A1, c1, rfl, hc1, -, hsl⟩ := ho.sl
    have HQ2 := Lib.hid (show readP xs = scanP l by rw [HQ.out, if_neg (by rw [hf]; decide)])
    obtain ⟨q, t, hqt⟩ : ∃ q t, rS ⟨l, false⟩ = (q, t) := ⟨_, _, rfl⟩
    have HQ3 := Lib.hid (show scanP l = if t.bad = false ∧ t.l = [] then some q else none by unfold scanP; rw [hqt])
    have HR := Lib.hid (show Calls Try.prog 30 #[.pointer (some ⟨w1.heap.size, 0, none⟩)] (w1.alloc (.cells #[.slice A1 l.length c1, .bool false] 85)) (ReadsS w1.heap.size q t (w1.alloc (.cells #[.slice A1 l.length c1, .bool false] 85))) from by
      have h2 := rscene_any _ (rd_new hc1 (es_of_sl hsl)) (by show l.length ≤ 100000; have := HL.out; omega)
      rw [hqt] at h2
      exact h2)
    have HB2 := Lib.hid (bstep HB1.out (by omega) (new_below w1 (.cells #[.slice A1 l.length c1, .bool false] 85)))
    have HG2 := Lib.hid (scB_alloc (.cells #[.slice A1 l.length c1, .bool false] 85) HG1.out)
    unfold ReadsS at HR
    clear ho hsl hf hqt HQ HB1 hg1 HG1 HL hc1
    go_wp2_with fail
    with_reducible refine (HR.out).mono ?_
    rintro e w2 ⟨x, rfl, hx, hon, hcap, hr, hb⟩
    have hs2 := hb.size
    simp only [World.size_alloc] at hs2
    have HB3 := Lib.hid (HB2.out.trans (hb.b.mono (by omega)))
    have hg := (hb.b.block _ hsz).trans HG2.out
    have HO := Lib.hid (show x.on (w2.alloc (.cells #[.int .i64 x.w, .int .i64 x.h, .int .u8 x.k.r, .int .u8 x.k.g, .int .u8 x.k.b, .int .u8 x.k.a, .slice x.vA x.vs.length x.vc, .slice x.tA x.ts.length x.tc, .slice x.pA x.ps.length x.pc, .slice x.dA x.ds.length x.dc] 33)) (fun b => w.heap.size < b ∧ b < w2.heap.size) from (hon.imp fun b h1 h2 => ⟨by simp only [World.size_alloc] at h1; omega, h2⟩).keep fun b h1 h2 => (new_below w2 _).block b h2)
    have HX := Lib.hid (And.intro hx hcap)
    obtain ⟨Ar, cr, hrb, -, -⟩ := hr
    have HGR := Lib.hid (show (w2.alloc (.cells #[.int .i64 x.w, .int .i64 x.h, .int .u8 x.k.r, .int .u8 x.k.g, .int .u8 x.k.b, .int .u8 x.k.a, .slice x.vA x.vs.length x.vc, .slice x.tA x.ts.length x.tc, .slice x.pA x.ps.length x.pc, .slice x.dA x.ds.length x.dc] 33)).heap[w1.heap.size]? = some (rdB Ar t.l.length cr t.bad) from ((new_below w2 _).block _ (rdB_lt hrb)).trans hrb)
    have HGX := Lib.hid (show (w2.alloc (.cells #[.int .i64 x.w, .int .i64 x.h, .int .u8 x.k.r, .int .u8 x.k.g, .int .u8 x.k.b, .int .u8 x.k.a, .slice x.vA x.vs.length x.vc, .slice x.tA x.ts.length x.tc, .slice x.pA x.ps.length x.pc, .slice x.dA x.ds.length x.dc] 33)).heap[w2.heap.size]? = some (scB x) from heap_alloc_new _ _)
    have HG3 := Lib.hid (scB_alloc (.cells #[.int .i64 x.w, .int .i64 x.h, .int .u8 x.k.r, .int .u8 x.k.g, .int .u8 x.k.b, .int .u8 x.k.a, .slice x.vA x.vs.length x.vc, .slice x.tA x.ts.length x.tc, .slice x.pA x.ps.length x.pc, .slice x.dA x.ds.length x.dc] 33) hg)
    have HB4 := Lib.hid (bstep HB3.out (by omega) (new_below w2 (.cells #[.int .i64 x.w, .int .i64 x.h, .int .u8 x.k.r, .int .u8 x.k.g, .int .u8 x.k.b, .int .u8 x.k.a, .slice x.vA x.vs.length x.vc, .slice x.tA x.ts.length x.tc, .slice x.pA x.ps.length x.pc, .slice x.dA x.ds.length x.dc] 33)))
    clear hx hon hcap hb hg hrb HR HB2 HB3 HG2
    go_wp2_with fail
    obtain ⟨W, hW⟩ : ∃ W, w2.alloc (.cells #[.int .i64 x.w, .int .i64 x.h, .int .u8 x.k.r, .int .u8 x.k.g, .int .u8 x.k.b, .int .u8 x.k.a, .slice x.vA x.vs.length x.vc, .slice x.tA x.ts.length x.tc, .slice x.pA x.ps.length x.pc, .slice x.dA x.ds.length x.dc] 33) = W := ⟨_, rfl⟩
    rw [hW] at HO HGR HGX HG3 HB4
    rw [hW]
    have HGRd := Lib.hid (show W.drew.heap[w1.heap.size]? = some (rdB Ar t.l.length cr t.bad) from HGR.out)
    have HGXd := Lib.hid (show W.drew.heap[w2.heap.size]? = some (scB x) from HGX.out)
    have HG3d := Lib.hid (show W.drew.heap[w.heap.size]? = some (scB noS) from HG3.out)
    have HB4d := Lib.hid (HB4.out.drew)
    have HOd := Lib.hid (show x.on W.drew (fun b => w.heap.size < b ∧ b < w2.heap.size) from HO.out.keep fun b _ _ => rfl)
    clear HGR HGX HG3 HB4 HO hW
    obtain ⟨t0, ht0⟩ : ∃ t0, W.drew = t0 := ⟨_, rfl⟩
    rw [ht0] at HGRd HGXd HG3d HB4d HOd
    have HS := Lib.hid (sets_blk x HG3d.out)
    have HB := Lib.hid (sets_below x HB4d.out (Nat.le_refl _))
    have HO2 := Lib.hid (show x.on (((((((((((t0.setCell ⟨w.heap.size, 0, none⟩ (.int .i64 x.w))).setCell ⟨w.heap.size, 1, none⟩ (.int .i64 x.h)).setCell ⟨w.heap.size, 2, none⟩ (.int .u8 x.k.r)).setCell ⟨w.heap.size, 3, none⟩ (.int .u8 x.k.g)).setCell ⟨w.heap.size, 4, none⟩ (.int .u8 x.k.b)).setCell ⟨w.heap.size, 5, none⟩ (.int .u8 x.k.a)).setCell ⟨w.heap.size, 6, none⟩ (.slice x.vA x.vs.length x.vc)).setCell ⟨w.heap.size, 7, none⟩ (.slice x.tA x.ts.length x.tc)).setCell ⟨w.heap.size, 8, none⟩ (.slice x.pA x.ps.length x.pc)).setCell ⟨w.heap.size, 9, none⟩ (.slice x.dA x.ds.length x.dc)) (fun b => w.heap.size < b) from (HOd.out.imp fun b h1 _ => h1.1).keep fun b h1 _ => sets_other x (by omega))
    have HR2 := Lib.hid ((sets_other (g := w.heap.size) x (show w1.heap.size ≠ w.heap.size by omega)).trans HGRd.out)
    have HX2 := Lib.hid ((sets_other (g := w.heap.size) x (show w2.heap.size ≠ w.heap.size by omega)).trans HGXd.out)
    obtain ⟨bd, hbd⟩ : ∃ b, t.bad = b := ⟨_, rfl⟩
    obtain ⟨m, hm⟩ : ∃ m, t.l.length = m := ⟨_, rfl⟩
    rw [hbd, hm] at HGRd HR2
    have HT := Lib.hid (show readP xs = if bd = false ∧ m = 0 then some q else none by
      rw [HQ2.out, HQ3.out, hbd]
      have : t.l = [] ↔ m = 0 := by rw [← hm]; exact List.length_eq_zero_iff.symm
      simp only [this])
    have key : ∀ ok : Bool, ok = (!bd && decide (m = 0)) → ReadA xs w (Ending.returned (.tuple #[.agg #[.int .i64 x.w, .int .i64 x.h, .int .u8 x.k.r, .int .u8 x.k.g, .int .u8 x.k.b, .int .u8 x.k.a, .slice x.vA x.vs.length x.vc, .slice x.tA x.ts.length x.tc, .slice x.pA x.ps.length x.pc, .slice x.dA x.ds.length x.dc], .bool ok])) (((((((((((t0.setCell ⟨w.heap.size, 0, none⟩ (.int .i64 x.w))).setCell ⟨w.heap.size, 1, none⟩ (.int .i64 x.h)).setCell ⟨w.heap.size, 2, none⟩ (.int .u8 x.k.r)).setCell ⟨w.heap.size, 3, none⟩ (.int .u8 x.k.g)).setCell ⟨w.heap.size, 4, none⟩ (.int .u8 x.k.b)).setCell ⟨w.heap.size, 5, none⟩ (.int .u8 x.k.a)).setCell ⟨w.heap.size, 6, none⟩ (.slice x.vA x.vs.length x.vc)).setCell ⟨w.heap.size, 7, none⟩ (.slice x.tA x.ts.length x.tc)).setCell ⟨w.heap.size, 8, none⟩ (.slice x.pA x.ps.length x.pc)).setCell ⟨w.heap.size, 9, none⟩ (.slice x.dA x.ds.length x.dc)) := fun ok hk => by
      refine ⟨x, ok, rfl, HB.out, ?_⟩
      subst hk
      cases bd
      · by_cases h0 : m = 0
        · exact .inr ⟨q, by rw [HT.out, if_pos ⟨rfl, h0⟩], by simp [h0], HX.out.1, HO2.out, HX.out.2⟩
        · exact .inl ⟨by rw [HT.out, if_neg (fun h => h0 h.2)], by simp [h0]⟩
      · exact .inl ⟨by rw [HT.out, if_neg (fun h => by cases h.1)], rfl⟩
    have HK := Lib.hid key
    clear key hbd hm HX HB HO2 HT HQ2 HQ3 HB4d HOd
    cases bd
    · by_cases h0 : m = 0
      · subst h0
        refine wp_region_held_drew (S := fun w' => w'.heap[w1.heap.size]? = some (rdB Ar 0 cr false) ∧ w'.heap[w2.heap.size]? = some (scB x)) (by kernel_rfl) (by rw [ht0]; exact ⟨HGRd.out, HGXd.out⟩) (fun hS => ?_)
        rw [ht0] at hS ⊢
        clear ht0
        refine wpAnyH_take (i := 0) (v := .agg #[.int .i64 x.w, .int .i64 x.h, .int .u8 x.k.r, .int .u8 x.k.g, .int .u8 x.k.b, .int .u8 x.k.a, .slice x.vA x.vs.length x.vc, .slice x.tA x.ts.length x.tc, .slice x.pA x.ps.length x.pc, .slice x.dA x.ds.length x.dc]) rfl (by kernel_rfl) (by kernel_rfl) (by kernel_rfl) (fun _ _ _ h => h) (Or.inl ⟨by rfl, fun w' hw' => by obtain ⟨z0, z1, z2, z3, z4, z5, z6, z7, z8, z9⟩ := scB_cell hw'.2; have zz := scB_lt hw'.2; go_simp⟩) hS ?_
        try simp only [Act.put, List.setIfInBounds_toArray, List.set_cons_zero, List.set_cons_succ, List.getElem_toArray, List.getElem_cons_zero]
        refine wpAnyH_take (i := 1) (v := .pointer (some ⟨w1.heap.size, 0, none⟩)) rfl (by kernel_rfl) (by kernel_rfl) (by kernel_rfl) (fun _ _ _ h => h) (Or.inl ⟨by rfl, fun w' hw' => by go_simp⟩) hS ?_
        try simp only [Act.put, List.setIfInBounds_toArray, List.set_cons_zero, List.set_cons_succ, List.getElem_toArray, List.getElem_cons_zero, List.getElem_cons_succ]
        refine wpAnyH_take (i := 2) (v := .pointer (some ⟨w1.heap.size, 0, none⟩)) rfl (by kernel_rfl) (by kernel_rfl) (by kernel_rfl) (fun _ _ _ h => h) (Or.inl ⟨by rfl, fun w' hw' => by go_simp⟩) hS ?_
        try simp only [Act.put, List.setIfInBounds_toArray, List.set_cons_zero, List.set_cons_succ, List.getElem_toArray, List.getElem_cons_zero, List.getElem_cons_succ]
        refine wpAnyH_take (i := 3) (v := .pointer (some ⟨w1.heap.size, 1, none⟩)) rfl (by kernel_rfl) (by kernel_rfl) (by kernel_rfl) (fun _ _ _ h => h) (Or.inl ⟨by rfl, fun w' hw' => by go_simp⟩) hS ?_
        try simp only [Act.put, List.setIfInBounds_toArray, List.set_cons_zero, List.set_cons_succ, List.getElem_toArray, List.getElem_cons_zero, List.getElem_cons_succ]
        refine wpAnyH_take (i := 4) (v := .bool false) rfl (by kernel_rfl) (by kernel_rfl) (by kernel_rfl) (fun _ _ _ h => h) (Or.inl ⟨by rfl, fun w' hw' => by obtain ⟨z0, z1⟩ := rdB_cell hw'.1; have zz := rdB_lt hw'.1; go_simp⟩) hS ?_
        try simp only [Act.put, List.setIfInBounds_toArray, List.set_cons_zero, List.set_cons_succ, List.getElem_toArray, List.getElem_cons_zero, List.getElem_cons_succ]
        refine wpAnyH_take (i := 5) (v := .bool true) rfl (by kernel_rfl) (by kernel_rfl) (by kernel_rfl) (fun _ _ _ h => h) (Or.inl ⟨by rfl, fun w' hw' => by go_simp⟩) hS ?_
        try simp only [Act.put, List.setIfInBounds_toArray, List.set_cons_zero, List.set_cons_succ, List.getElem_toArray, List.getElem_cons_zero, List.getElem_cons_succ]
        refine wpAnyH_take (i := 6) (v := .bool true) rfl (by kernel_rfl) (by kernel_rfl) (by kernel_rfl) (fun _ _ _ h => h) (Or.inl ⟨by rfl, fun w' hw' => by go_simp⟩) hS ?_
        try simp only [Act.put, List.setIfInBounds_toArray, List.set_cons_zero, List.set_cons_succ, List.getElem_toArray, List.getElem_cons_zero, List.getElem_cons_succ]
        refine wpAnyH_take (i := 7) (v := .pointer (some ⟨w1.heap.size, 0, none⟩)) rfl (by kernel_rfl) (by kernel_rfl) (by kernel_rfl) (fun _ _ _ h => h) (Or.inl ⟨by rfl, fun w' hw' => by go_simp⟩) hS ?_
        try simp only [Act.put, List.setIfInBounds_toArray, List.set_cons_zero, List.set_cons_succ, List.getElem_toArray, List.getElem_cons_zero, List.getElem_cons_succ]
        refine wpAnyH_take (i := 8) (v := .pointer (some ⟨w1.heap.size, 0, none⟩)) rfl (by kernel_rfl) (by kernel_rfl) (by kernel_rfl) (fun _ _ _ h => h) (Or.inl ⟨by rfl, fun w' hw' => by go_simp⟩) hS ?_
        try simp only [Act.put, List.setIfInBounds_toArray, List.set_cons_zero, List.set_cons_succ, List.getElem_toArray, List.getElem_cons_zero, List.getElem_cons_succ]
        refine wpAnyH_take (i := 9) (v := .pointer (some ⟨w1.heap.size, 0, none⟩)) rfl (by kernel_rfl) (by kernel_rfl) (by kernel_rfl) (fun _ _ _ h => h) (Or.inl ⟨by rfl, fun w' hw' => by go_simp⟩) hS ?_
        try simp only [Act.put, List.setIfInBounds_toArray, List.set_cons_zero, List.set_cons_succ, List.getElem_toArray, List.getElem_cons_zero, List.getElem_cons_succ]
        refine wpAnyH_take (i := 10) (v := .slice Ar 0 cr) rfl (by kernel_rfl) (by kernel_rfl) (by kernel_rfl) (fun _ _ _ h => h) (Or.inl ⟨by rfl, fun w' hw' => by obtain ⟨z0, z1⟩ := rdB_cell hw'.1; have zz := rdB_lt hw'.1; go_simp⟩) hS ?_
        try simp only [Act.put, List.setIfInBounds_toArray, List.set_cons_zero, List.set_cons_succ, List.getElem_toArray, List.getElem_cons_zero, List.getElem_cons_succ]
        refine wpAnyH_take (i := 11) (v := .int .i64 0) rfl (by kernel_rfl) (by kernel_rfl) (by kernel_rfl) (fun _ _ _ h => h) (Or.inl ⟨by rfl, fun w' hw' => by go_simp⟩) hS ?_
        try simp only [Act.put, List.setIfInBounds_toArray, List.set_cons_zero, List.set_cons_succ, List.getElem_toArray, List.getElem_cons_zero, List.getElem_cons_succ]
        refine wpAnyH_take (i := 12) (v := .bool true) rfl (by kernel_rfl) (by kernel_rfl) (by kernel_rfl) (fun _ _ _ h => h) (Or.inl ⟨by rfl, fun w' hw' => by go_simp⟩) hS ?_
        try simp only [Act.put, List.setIfInBounds_toArray, List.set_cons_zero, List.set_cons_succ, List.getElem_toArray, List.getElem_cons_zero, List.getElem_cons_succ]
        refine wpAnyH_take (i := 13) (v := .bool true) rfl (by kernel_rfl) (by kernel_rfl) (by kernel_rfl) (fun _ _ _ h => h) (Or.inl ⟨by rfl, fun w' hw' => by go_simp⟩) hS ?_
        try simp only [Act.put, List.setIfInBounds_toArray, List.set_cons_zero, List.set_cons_succ, List.getElem_toArray, List.getElem_cons_zero, List.getElem_cons_succ]
        refine wpAnyH_ready (rs := [14]) (by kernel_rfl) (by simp) ?_
        refine AllReadyH.cons rfl (fun K hK => ?_) AllReadyH.nil
        have f0 := scB_free HG3d.out
        obtain ⟨g0, g1, g2, g3, g4, g5, g6, g7, g8, g9⟩ := scB_cell HG3d.out
        have gl := scB_lt HG3d.out
        go_simp
        refine hK.out _ _ ⟨HR2.out, HX2.out⟩ (fun hS => ?_)
        clear hK K f0 g0 g1 g2 g3 g4 g5 g6 g7 g8 g9
        try simp only [Act.put, List.setIfInBounds_toArray, List.set_cons_zero, List.set_cons_succ, List.getElem_toArray, List.getElem_cons_zero, List.getElem_cons_succ]
        refine wpAnyH_take (i := 15) (v := .bool true) rfl (by kernel_rfl) (by kernel_rfl) (by kernel_rfl) (fun _ _ _ h => h) (Or.inl ⟨by rfl, fun w' hw' => by go_simp⟩) hS ?_
        try simp only [Act.put, List.setIfInBounds_toArray, List.set_cons_zero, List.set_cons_succ, List.getElem_toArray, List.getElem_cons_zero, List.getElem_cons_succ]
        refine wpAnyH_done (by kernel_rfl) ?_ _
        have k := scB_cell HS.out
        obtain ⟨T, hT⟩ : ∃ T, ((((((((((t0.setCell ⟨w.heap.size, 0, none⟩ (.int .i64 x.w))).setCell ⟨w.heap.size, 1, none⟩ (.int .i64 x.h)).setCell ⟨w.heap.size, 2, none⟩ (.int .u8 x.k.r)).setCell ⟨w.heap.size, 3, none⟩ (.int .u8 x.k.g)).setCell ⟨w.heap.size, 4, none⟩ (.int .u8 x.k.b)).setCell ⟨w.heap.size, 5, none⟩ (.int .u8 x.k.a)).setCell ⟨w.heap.size, 6, none⟩ (.slice x.vA x.vs.length x.vc)).setCell ⟨w.heap.size, 7, none⟩ (.slice x.tA x.ts.length x.tc)).setCell ⟨w.heap.size, 8, none⟩ (.slice x.pA x.ps.length x.pc)).setCell ⟨w.heap.size, 9, none⟩ (.slice x.dA x.ds.length x.dc) = T := ⟨_, rfl⟩
        rw [hT] at k HK
        rw [hT]
        clear hT HS hS HR2 HX2
        go_wp2_with fail
        refine bodyPost_ret (v := .tuple #[.agg #[.int .i64 x.w, .int .i64 x.h, .int .u8 x.k.r, .int .u8 x.k.g, .int .u8 x.k.b, .int .u8 x.k.a, .slice x.vA x.vs.length x.vc, .slice x.tA x.ts.length x.tc, .slice x.pA x.ps.length x.pc, .slice x.dA x.ds.length x.dc], .bool true]) (by simp [results, Try.results16, go_sem, k]) rfl (HK.out true (by simp))
      · have h1 : (m == 0) = false := by simpa using h0
        have h2 : decide (m = 0) = false := by simp [h0]
        refine wp_region_held_drew (S := fun w' => w'.heap[w1.heap.size]? = some (rdB Ar m cr false) ∧ w'.heap[w2.heap.size]? = some (scB x)) (by kernel_rfl) (by rw [ht0]; exact ⟨HGRd.out, HGXd.out⟩) (fun hS => ?_)
        rw [ht0] at hS ⊢
        clear ht0
        refine wpAnyH_take (i := 0) (v := .agg #[.int .i64 x.w, .int .i64 x.h, .int .u8 x.k.r, .int .u8 x.k.g, .int .u8 x.k.b, .int .u8 x.k.a, .slice x.vA x.vs.length x.vc, .slice x.tA x.ts.length x.tc, .slice x.pA x.ps.length x.pc, .slice x.dA x.ds.length x.dc]) rfl (by kernel_rfl) (by kernel_rfl) (by kernel_rfl) (fun _ _ _ h => h) (Or.inl ⟨by rfl, fun w' hw' => by obtain ⟨z0, z1, z2, z3, z4, z5, z6, z7, z8, z9⟩ := scB_cell hw'.2; have zz := scB_lt hw'.2; go_simp⟩) hS ?_
        try simp only [Act.put, List.setIfInBounds_toArray, List.set_cons_zero, List.set_cons_succ, List.getElem_toArray, List.getElem_cons_zero]
        refine wpAnyH_take (i := 1) (v := .pointer (some ⟨w1.heap.size, 0, none⟩)) rfl (by kernel_rfl) (by kernel_rfl) (by kernel_rfl) (fun _ _ _ h => h) (Or.inl ⟨by rfl, fun w' hw' => by go_simp⟩) hS ?_
        try simp only [Act.put, List.setIfInBounds_toArray, List.set_cons_zero, List.set_cons_succ, List.getElem_toArray, List.getElem_cons_zero, List.getElem_cons_succ]
        refine wpAnyH_take (i := 2) (v := .pointer (some ⟨w1.heap.size, 0, none⟩)) rfl (by kernel_rfl) (by kernel_rfl) (by kernel_rfl) (fun _ _ _ h => h) (Or.inl ⟨by rfl, fun w' hw' => by go_simp⟩) hS ?_
        try simp only [Act.put, List.setIfInBounds_toArray, List.set_cons_zero, List.set_cons_succ, List.getElem_toArray, List.getElem_cons_zero, List.getElem_cons_succ]
        refine wpAnyH_take (i := 3) (v := .pointer (some ⟨w1.heap.size, 1, none⟩)) rfl (by kernel_rfl) (by kernel_rfl) (by kernel_rfl) (fun _ _ _ h => h) (Or.inl ⟨by rfl, fun w' hw' => by go_simp⟩) hS ?_
        try simp only [Act.put, List.setIfInBounds_toArray, List.set_cons_zero, List.set_cons_succ, List.getElem_toArray, List.getElem_cons_zero, List.getElem_cons_succ]
        refine wpAnyH_take (i := 4) (v := .bool false) rfl (by kernel_rfl) (by kernel_rfl) (by kernel_rfl) (fun _ _ _ h => h) (Or.inl ⟨by rfl, fun w' hw' => by obtain ⟨z0, z1⟩ := rdB_cell hw'.1; have zz := rdB_lt hw'.1; go_simp⟩) hS ?_
        try simp only [Act.put, List.setIfInBounds_toArray, List.set_cons_zero, List.set_cons_succ, List.getElem_toArray, List.getElem_cons_zero, List.getElem_cons_succ]
        refine wpAnyH_take (i := 5) (v := .bool true) rfl (by kernel_rfl) (by kernel_rfl) (by kernel_rfl) (fun _ _ _ h => h) (Or.inl ⟨by rfl, fun w' hw' => by go_simp⟩) hS ?_
        try simp only [Act.put, List.setIfInBounds_toArray, List.set_cons_zero, List.set_cons_succ, List.getElem_toArray, List.getElem_cons_zero, List.getElem_cons_succ]
        refine wpAnyH_take (i := 6) (v := .bool true) rfl (by kernel_rfl) (by kernel_rfl) (by kernel_rfl) (fun _ _ _ h => h) (Or.inl ⟨by rfl, fun w' hw' => by go_simp⟩) hS ?_
        try simp only [Act.put, List.setIfInBounds_toArray, List.set_cons_zero, List.set_cons_succ, List.getElem_toArray, List.getElem_cons_zero, List.getElem_cons_succ]
        refine wpAnyH_take (i := 7) (v := .pointer (some ⟨w1.heap.size, 0, none⟩)) rfl (by kernel_rfl) (by kernel_rfl) (by kernel_rfl) (fun _ _ _ h => h) (Or.inl ⟨by rfl, fun w' hw' => by go_simp⟩) hS ?_
        try simp only [Act.put, List.setIfInBounds_toArray, List.set_cons_zero, List.set_cons_succ, List.getElem_toArray, List.getElem_cons_zero, List.getElem_cons_succ]
        refine wpAnyH_take (i := 8) (v := .pointer (some ⟨w1.heap.size, 0, none⟩)) rfl (by kernel_rfl) (by kernel_rfl) (by kernel_rfl) (fun _ _ _ h => h) (Or.inl ⟨by rfl, fun w' hw' => by go_simp⟩) hS ?_
        try simp only [Act.put, List.setIfInBounds_toArray, List.set_cons_zero, List.set_cons_succ, List.getElem_toArray, List.getElem_cons_zero, List.getElem_cons_succ]
        refine wpAnyH_take (i := 9) (v := .pointer (some ⟨w1.heap.size, 0, none⟩)) rfl (by kernel_rfl) (by kernel_rfl) (by kernel_rfl) (fun _ _ _ h => h) (Or.inl ⟨by rfl, fun w' hw' => by go_simp⟩) hS ?_
        try simp only [Act.put, List.setIfInBounds_toArray, List.set_cons_zero, List.set_cons_succ, List.getElem_toArray, List.getElem_cons_zero, List.getElem_cons_succ]
        refine wpAnyH_take (i := 10) (v := .slice Ar m cr) rfl (by kernel_rfl) (by kernel_rfl) (by kernel_rfl) (fun _ _ _ h => h) (Or.inl ⟨by rfl, fun w' hw' => by obtain ⟨z0, z1⟩ := rdB_cell hw'.1; have zz := rdB_lt hw'.1; go_simp⟩) hS ?_
        try simp only [Act.put, List.setIfInBounds_toArray, List.set_cons_zero, List.set_cons_succ, List.getElem_toArray, List.getElem_cons_zero, List.getElem_cons_succ]
        refine wpAnyH_take (i := 11) (v := .int .i64 m) rfl (by kernel_rfl) (by kernel_rfl) (by kernel_rfl) (fun _ _ _ h => h) (Or.inl ⟨by rfl, fun w' hw' => by go_simp⟩) hS ?_
        try simp only [Act.put, List.setIfInBounds_toArray, List.set_cons_zero, List.set_cons_succ, List.getElem_toArray, List.getElem_cons_zero, List.getElem_cons_succ]
        refine wpAnyH_take (i := 12) (v := .bool false) rfl (by kernel_rfl) (by kernel_rfl) (by kernel_rfl) (fun _ _ _ h => h) (Or.inl ⟨by rfl, fun w' hw' => by go_simp⟩) hS ?_
        try simp only [Act.put, List.setIfInBounds_toArray, List.set_cons_zero, List.set_cons_succ, List.getElem_toArray, List.getElem_cons_zero, List.getElem_cons_succ]
        refine wpAnyH_take (i := 13) (v := .bool false) rfl (by kernel_rfl) (by kernel_rfl) (by kernel_rfl) (fun _ _ _ h => h) (Or.inl ⟨by rfl, fun w' hw' => by go_simp⟩) hS ?_
        try simp only [Act.put, List.setIfInBounds_toArray, List.set_cons_zero, List.set_cons_succ, List.getElem_toArray, List.getElem_cons_zero, List.getElem_cons_succ]
        refine wpAnyH_ready (rs := [14]) (by kernel_rfl) (by simp) ?_
        refine AllReadyH.cons rfl (fun K hK => ?_) AllReadyH.nil
        have f0 := scB_free HG3d.out
        obtain ⟨g0, g1, g2, g3, g4, g5, g6, g7, g8, g9⟩ := scB_cell HG3d.out
        have gl := scB_lt HG3d.out
        go_simp
        refine hK.out _ _ ⟨HR2.out, HX2.out⟩ (fun hS => ?_)
        clear hK K f0 g0 g1 g2 g3 g4 g5 g6 g7 g8 g9
        try simp only [Act.put, List.setIfInBounds_toArray, List.set_cons_zero, List.set_cons_succ, List.getElem_toArray, List.getElem_cons_zero, List.getElem_cons_succ]
        refine wpAnyH_take (i := 15) (v := .bool false) rfl (by kernel_rfl) (by kernel_rfl) (by kernel_rfl) (fun _ _ _ h => h) (Or.inl ⟨by rfl, fun w' hw' => by go_simp⟩) hS ?_
        try simp only [Act.put, List.setIfInBounds_toArray, List.set_cons_zero, List.set_cons_succ, List.getElem_toArray, List.getElem_cons_zero, List.getElem_cons_succ]
        refine wpAnyH_done (by kernel_rfl) ?_ _
        have k := scB_cell HS.out
        obtain ⟨T, hT⟩ : ∃ T, ((((((((((t0.setCell ⟨w.heap.size, 0, none⟩ (.int .i64 x.w))).setCell ⟨w.heap.size, 1, none⟩ (.int .i64 x.h)).setCell ⟨w.heap.size, 2, none⟩ (.int .u8 x.k.r)).setCell ⟨w.heap.size, 3, none⟩ (.int .u8 x.k.g)).setCell ⟨w.heap.size, 4, none⟩ (.int .u8 x.k.b)).setCell ⟨w.heap.size, 5, none⟩ (.int .u8 x.k.a)).setCell ⟨w.heap.size, 6, none⟩ (.slice x.vA x.vs.length x.vc)).setCell ⟨w.heap.size, 7, none⟩ (.slice x.tA x.ts.length x.tc)).setCell ⟨w.heap.size, 8, none⟩ (.slice x.pA x.ps.length x.pc)).setCell ⟨w.heap.size, 9, none⟩ (.slice x.dA x.ds.length x.dc) = T := ⟨_, rfl⟩
        rw [hT] at k HK
        rw [hT]
        clear hT HS hS HR2 HX2
        go_wp2_with fail
        refine bodyPost_ret (v := .tuple #[.agg #[.int .i64 x.w, .int .i64 x.h, .int .u8 x.k.r, .int .u8 x.k.g, .int .u8 x.k.b, .int .u8 x.k.a, .slice x.vA x.vs.length x.vc, .slice x.tA x.ts.length x.tc, .slice x.pA x.ps.length x.pc, .slice x.dA x.ds.length x.dc], .bool false]) (by simp [results, Try.results16, go_sem, k]) rfl (HK.out false (by simp [h2]))
    · skip
      refine wp_region_held_drew (S := fun w' => w'.heap[w1.heap.size]? = some (rdB Ar m cr true) ∧ w'.heap[w2.heap.size]? = some (scB x)) (by kernel_rfl) (by rw [ht0]; exact ⟨HGRd.out, HGXd.out⟩) (fun hS => ?_)
      rw [ht0] at hS ⊢
      clear ht0
      refine wpAnyH_take (i := 0) (v := .agg #[.int .i64 x.w, .int .i64 x.h, .int .u8 x.k.r, .int .u8 x.k.g, .int .u8 x.k.b, .int .u8 x.k.a, .slice x.vA x.vs.length x.vc, .slice x.tA x.ts.length x.tc, .slice x.pA x.ps.length x.pc, .slice x.dA x.ds.length x.dc]) rfl (by kernel_rfl) (by kernel_rfl) (by kernel_rfl) (fun _ _ _ h => h) (Or.inl ⟨by rfl, fun w' hw' => by obtain ⟨z0, z1, z2, z3, z4, z5, z6, z7, z8, z9⟩ := scB_cell hw'.2; have zz := scB_lt hw'.2; go_simp⟩) hS ?_
      try simp only [Act.put, List.setIfInBounds_toArray, List.set_cons_zero, List.set_cons_succ, List.getElem_toArray, List.getElem_cons_zero]
      refine wpAnyH_take (i := 1) (v := .pointer (some ⟨w1.heap.size, 0, none⟩)) rfl (by kernel_rfl) (by kernel_rfl) (by kernel_rfl) (fun _ _ _ h => h) (Or.inl ⟨by rfl, fun w' hw' => by go_simp⟩) hS ?_
      try simp only [Act.put, List.setIfInBounds_toArray, List.set_cons_zero, List.set_cons_succ, List.getElem_toArray, List.getElem_cons_zero, List.getElem_cons_succ]
      refine wpAnyH_take (i := 2) (v := .pointer (some ⟨w1.heap.size, 0, none⟩)) rfl (by kernel_rfl) (by kernel_rfl) (by kernel_rfl) (fun _ _ _ h => h) (Or.inl ⟨by rfl, fun w' hw' => by go_simp⟩) hS ?_
      try simp only [Act.put, List.setIfInBounds_toArray, List.set_cons_zero, List.set_cons_succ, List.getElem_toArray, List.getElem_cons_zero, List.getElem_cons_succ]
      refine wpAnyH_take (i := 3) (v := .pointer (some ⟨w1.heap.size, 1, none⟩)) rfl (by kernel_rfl) (by kernel_rfl) (by kernel_rfl) (fun _ _ _ h => h) (Or.inl ⟨by rfl, fun w' hw' => by go_simp⟩) hS ?_
      try simp only [Act.put, List.setIfInBounds_toArray, List.set_cons_zero, List.set_cons_succ, List.getElem_toArray, List.getElem_cons_zero, List.getElem_cons_succ]
      refine wpAnyH_take (i := 4) (v := .bool true) rfl (by kernel_rfl) (by kernel_rfl) (by kernel_rfl) (fun _ _ _ h => h) (Or.inl ⟨by rfl, fun w' hw' => by obtain ⟨z0, z1⟩ := rdB_cell hw'.1; have zz := rdB_lt hw'.1; go_simp⟩) hS ?_
      try simp only [Act.put, List.setIfInBounds_toArray, List.set_cons_zero, List.set_cons_succ, List.getElem_toArray, List.getElem_cons_zero, List.getElem_cons_succ]
      refine wpAnyH_take (i := 5) (v := .bool false) rfl (by kernel_rfl) (by kernel_rfl) (by kernel_rfl) (fun _ _ _ h => h) (Or.inl ⟨by rfl, fun w' hw' => by go_simp⟩) hS ?_
      try simp only [Act.put, List.setIfInBounds_toArray, List.set_cons_zero, List.set_cons_succ, List.getElem_toArray, List.getElem_cons_zero, List.getElem_cons_succ]
      refine wpAnyH_take (i := 6) (v := .bool false) rfl (by kernel_rfl) (by kernel_rfl) (by kernel_rfl) (fun _ _ _ h => h) (Or.inl ⟨by rfl, fun w' hw' => by go_simp⟩) hS ?_
      try simp only [Act.put, List.setIfInBounds_toArray, List.set_cons_zero, List.set_cons_succ, List.getElem_toArray, List.getElem_cons_zero, List.getElem_cons_succ]
      refine wpAnyH_take (i := 7) (v := undef) rfl (by kernel_rfl) (by kernel_rfl) (by kernel_rfl) (fun _ _ _ h => h) (Or.inr ⟨by rfl, rfl⟩) hS ?_
      try simp only [Act.put, List.setIfInBounds_toArray, List.set_cons_zero, List.set_cons_succ, List.getElem_toArray, List.getElem_cons_zero, List.getElem_cons_succ]
      refine wpAnyH_take (i := 8) (v := undef) rfl (by kernel_rfl) (by kernel_rfl) (by kernel_rfl) (fun _ _ _ h => h) (Or.inr ⟨by rfl, rfl⟩) hS ?_
      try simp only [Act.put, List.setIfInBounds_toArray, List.set_cons_zero, List.set_cons_succ, List.getElem_toArray, List.getElem_cons_zero, List.getElem_cons_succ]
      refine wpAnyH_take (i := 9) (v := undef) rfl (by kernel_rfl) (by kernel_rfl) (by kernel_rfl) (fun _ _ _ h => h) (Or.inr ⟨by rfl, rfl⟩) hS ?_
      try simp only [Act.put, List.setIfInBounds_toArray, List.set_cons_zero, List.set_cons_succ, List.getElem_toArray, List.getElem_cons_zero, List.getElem_cons_succ]
      refine wpAnyH_take (i := 10) (v := undef) rfl (by kernel_rfl) (by kernel_rfl) (by kernel_rfl) (fun _ _ _ h => h) (Or.inr ⟨by rfl, rfl⟩) hS ?_
      try simp only [Act.put, List.setIfInBounds_toArray, List.set_cons_zero, List.set_cons_succ, List.getElem_toArray, List.getElem_cons_zero, List.getElem_cons_succ]
      refine wpAnyH_take (i := 11) (v := undef) rfl (by kernel_rfl) (by kernel_rfl) (by kernel_rfl) (fun _ _ _ h => h) (Or.inr ⟨by rfl, rfl⟩) hS ?_
      try simp only [Act.put, List.setIfInBounds_toArray, List.set_cons_zero, List.set_cons_succ, List.getElem_toArray, List.getElem_cons_zero, List.getElem_cons_succ]
      refine wpAnyH_take (i := 12) (v := undef) rfl (by kernel_rfl) (by kernel_rfl) (by kernel_rfl) (fun _ _ _ h => h) (Or.inr ⟨by rfl, rfl⟩) hS ?_
      try simp only [Act.put, List.setIfInBounds_toArray, List.set_cons_zero, List.set_cons_succ, List.getElem_toArray, List.getElem_cons_zero, List.getElem_cons_succ]
      refine wpAnyH_take (i := 13) (v := .bool false) rfl (by kernel_rfl) (by kernel_rfl) (by kernel_rfl) (fun _ _ _ h => h) (Or.inl ⟨by rfl, fun w' hw' => by go_simp⟩) hS ?_
      try simp only [Act.put, List.setIfInBounds_toArray, List.set_cons_zero, List.set_cons_succ, List.getElem_toArray, List.getElem_cons_zero, List.getElem_cons_succ]
      refine wpAnyH_ready (rs := [14]) (by kernel_rfl) (by simp) ?_
      refine AllReadyH.cons rfl (fun K hK => ?_) AllReadyH.nil
      have f0 := scB_free HG3d.out
      obtain ⟨g0, g1, g2, g3, g4, g5, g6, g7, g8, g9⟩ := scB_cell HG3d.out
      have gl := scB_lt HG3d.out
      go_simp
      refine hK.out _ _ ⟨HR2.out, HX2.out⟩ (fun hS => ?_)
      clear hK K f0 g0 g1 g2 g3 g4 g5 g6 g7 g8 g9
      try simp only [Act.put, List.setIfInBounds_toArray, List.set_cons_zero, List.set_cons_succ, List.getElem_toArray, List.getElem_cons_zero, List.getElem_cons_succ]
      refine wpAnyH_take (i := 15) (v := .bool false) rfl (by kernel_rfl) (by kernel_rfl) (by kernel_rfl) (fun _ _ _ h => h) (Or.inl ⟨by rfl, fun w' hw' => by go_simp⟩) hS ?_
      try simp only [Act.put, List.setIfInBounds_toArray, List.set_cons_zero, List.set_cons_succ, List.getElem_toArray, List.getElem_cons_zero, List.getElem_cons_succ]
      refine wpAnyH_done (by kernel_rfl) ?_ _
      have k := scB_cell HS.out
      obtain ⟨T, hT⟩ : ∃ T, ((((((((((t0.setCell ⟨w.heap.size, 0, none⟩ (.int .i64 x.w))).setCell ⟨w.heap.size, 1, none⟩ (.int .i64 x.h)).setCell ⟨w.heap.size, 2, none⟩ (.int .u8 x.k.r)).setCell ⟨w.heap.size, 3, none⟩ (.int .u8 x.k.g)).setCell ⟨w.heap.size, 4, none⟩ (.int .u8 x.k.b)).setCell ⟨w.heap.size, 5, none⟩ (.int .u8 x.k.a)).setCell ⟨w.heap.size, 6, none⟩ (.slice x.vA x.vs.length x.vc)).setCell ⟨w.heap.size, 7, none⟩ (.slice x.tA x.ts.length x.tc)).setCell ⟨w.heap.size, 8, none⟩ (.slice x.pA x.ps.length x.pc)).setCell ⟨w.heap.size, 9, none⟩ (.slice x.dA x.ds.length x.dc) = T := ⟨_, rfl⟩
      rw [hT] at k HK
      rw [hT]
      clear hT HS hS HR2 HX2
      go_wp2_with fail
      refine bodyPost_ret (v := .tuple #[.agg #[.int .i64 x.w, .int .i64 x.h, .int .u8 x.k.r, .int .u8 x.k.g, .int .u8 x.k.b, .int .u8 x.k.a, .slice x.vA x.vs.length x.vc, .slice x.tA x.ts.length x.tc, .slice x.pA x.ps.length x.pc, .slice x.dA x.ds.length x.dc], .bool false]) (by simp [results, Try.results16, go_sem, k]) rfl (HK.out false (by simp))
end Go.Proofs.Ytfmmfaeognoleaa
/-
  codec.Take and codec.Put.
-/
namespace Go.Proofs.Ytfmmfaeognoleaa
open Go.RowKit
attribute [local go_sem ↓] Go.wp_at_zero Go.wp_at_succ

def zS : PS := (flat0 0 0).p
/-- What Take tells (pure). -/
def takeP (xs : List Int) : PS × Int := if 65536 < xs.length then (zS, 10) else match readP xs with
  | none => (zS, 10)
  | some p => if check p = 0 then (p, 0) else (zS, check p)
theorem noS_on (w : World) (P : Nat → Prop) : noS.on w P := ⟨EsP.nil, EsP.nil, fun l h => (by cases h), EsP.nil, fun l h => (by cases h), EsP.nil, fun l h => (by cases h)⟩
theorem noS_cap : noS.cap := ⟨Nat.le_refl _, Nat.le_refl _, fun l h => (by cases h), Nat.le_refl _, fun l h => (by cases h), Nat.le_refl _, fun l h => (by cases h)⟩
theorem many_len {α : Type} {g : α → List Int} (pos : ∀ x, 1 ≤ (g x).length) : ∀ l : List α, l.length + 1 ≤ (nAll g l).length
  | [] => Nat.le_refl _
  | x :: l => by
    have h1 := many_len pos l
    have h2 := pos x
    unfold nAll at h1 ⊢
    simp only [List.flatMap_cons, List.length_cons, List.length_append] at h1 ⊢
    omega
theorem one_len {α : Type} {g : α → List Int} : ∀ {l : List α} {x : α}, x ∈ l → (g x).length + 1 ≤ (nAll g l).length
  | y :: l, x, h => by
    unfold nAll
    rw [List.flatMap_cons, List.length_cons, List.length_append]
    rcases List.mem_cons.1 h with rfl | h
    · omega
    · have := one_len (g := g) h
      unfold nAll at this
      rw [List.length_cons] at this
      omega
theorem few_len {p : PS} (h : (nS p).length ≤ 100000) : p.few := by
  unfold nS at h
  simp only [List.length_cons, List.length_append] at h
  have pV := many_len (g := nV) (fun _ => by simp [nV]) p.vs
  have pT := many_len (g := nT) (fun _ => by simp [nT]) p.ts
  have pP := many_len (g := nP) (fun _ => by simp [nP, nAll]) p.ps
  have pD := many_len (g := nD) (fun _ => by simp [nD]) p.ds
  refine ⟨by omega, by omega, fun t ht => ?_, by omega, fun l hl => ?_, by omega, fun d hd => ?_⟩
  · have h1 := one_len (g := nT) ht
    have h2 := many_len (g := nC) (fun _ => by simp [nC]) t.px
    have h3 : (nT t).length = (nAll nC t.px).length + 2 := rfl
    omega
  · have h1 := one_len (g := nP) hl
    have h2 := many_len (g := nI) (fun _ => by simp [nI]) l
    have h3 : (nP l).length = (nAll nI l).length := rfl
    omega
  · have h1 := one_len (g := nD) hd
    have h2 := many_len (g := nR) (fun _ => by simp [nR]) d.tris
    have h3 : (nD d).length = (nAll nR d.tris).length + 4 := rfl
    omega
theorem read_len {xs : List Int} {q : PS} (hb : P.Byt xs) (hl : xs.length ≤ 65536) (h : readP xs = some q) : (nS q).length ≤ 65536 := by
  obtain ⟨-, -, e⟩ := read_some hb h
  have h1 := (P.seq_len _ xs (Nat.le_refl _) hb).1
  have h2 := P.nums_le (P.seq xs)
  rw [← e]
  omega
theorem setz {a w : World} {g B : Nat} {y : Sc} (h : w.heap[g]? = some (scB y)) (hb : Below B a w) (hg : B ≤ g) :
    ∃ W, ((((((((((w).setCell ⟨g, 0, none⟩ (.int .i64 0)).setCell ⟨g, 1, none⟩ (.int .i64 0)).setCell ⟨g, 2, none⟩ (.int .u8 0)).setCell ⟨g, 3, none⟩ (.int .u8 0)).setCell ⟨g, 4, none⟩ (.int .u8 0)).setCell ⟨g, 5, none⟩ (.int .u8 0)).setCell ⟨g, 6, none⟩ (.slice none 0 0)).setCell ⟨g, 7, none⟩ (.slice none 0 0)).setCell ⟨g, 8, none⟩ (.slice none 0 0)).setCell ⟨g, 9, none⟩ (.slice none 0 0) = W ∧ W.heap[g]? = some (scB noS) ∧ Below B a W := ⟨_, rfl, sets_blk noS h, sets_below noS hb hg⟩
theorem setx {a w : World} {g B : Nat} (x : Sc) {y : Sc} (h : w.heap[g]? = some (scB y)) (hb : Below B a w) (hg : B ≤ g) :
    ∃ W, ((((((((((w.setCell ⟨g, 0, none⟩ (.int .i64 x.w))).setCell ⟨g, 1, none⟩ (.int .i64 x.h)).setCell ⟨g, 2, none⟩ (.int .u8 x.k.r)).setCell ⟨g, 3, none⟩ (.int .u8 x.k.g)).setCell ⟨g, 4, none⟩ (.int .u8 x.k.b)).setCell ⟨g, 5, none⟩ (.int .u8 x.k.a)).setCell ⟨g, 6, none⟩ (.slice x.vA x.vs.length x.vc)).setCell ⟨g, 7, none⟩ (.slice x.tA x.ts.length x.tc)).setCell ⟨g, 8, none⟩ (.slice x.pA x.ps.length x.pc)).setCell ⟨g, 9, none⟩ (.slice x.dA x.ds.length x.dc) = W ∧ W.heap[g]? = some (scB x) ∧ Below B a W ∧ ∀ k, k ≠ g → W.heap[k]? = w.heap[k]? := ⟨_, rfl, sets_blk x h, sets_below x hb hg, fun _ hk => sets_other x hk⟩
/-- What codec.Take answers. -/
def TakeA (xs : List Int) (w : World) (e : Ending) (w' : World) : Prop :=
  ∃ (x : Sc) (err : Int), e = .returned (.tuple #[.agg #[.int .i64 x.w, .int .i64 x.h, .int .u8 x.k.r, .int .u8 x.k.g, .int .u8 x.k.b, .int .u8 x.k.a, .slice x.vA x.vs.length x.vc, .slice x.tA x.ts.length x.tc, .slice x.pA x.ps.length x.pc, .slice x.dA x.ds.length x.dc], .int .i64 err]) ∧ Below w.heap.size w w' ∧ x.on w' (fun b => w.heap.size < b) ∧ x.cap ∧ takeP xs = (x.p, err)
set_option maxRecDepth 100000 in
set_option maxHeartbeats 4000000 in
theorem take_any (A : Option Addr) (c : Nat) (xs : List Int) (hc : xs.length ≤ c) (hl : xs.length ≤ 1000000) (hb : P.Byt xs) (w : World) (hs : P.Sl .u8 w w.heap.size A xs) :
    Calls Try.prog 8 #[.slice A xs.length c] w (TakeA xs w) := by
  have hB0 := new_below w (.cells #[.int .i64 0, .int .i64 0, .int .u8 0, .int .u8 0, .int .u8 0, .int .u8 0, .slice none 0 0, .slice none 0 0, .slice none 0 0, .slice none 0 0] 33)
  have HG0 := Lib.hid (show (w.alloc (.cells #[.int .i64 0, .int .i64 0, .int .u8 0, .int .u8 0, .int .u8 0, .int .u8 0, .slice none 0 0, .slice none 0 0, .slice none 0 0, .slice none 0 0] 33)).heap[w.heap.size]? = some (scB noS) from heap_alloc_new _ _)
  have HB0 := Lib.hid hB0
  by_cases hlong : 65536 < xs.length
  · have hT := Lib.hid (show takeP xs = (noS.p, 10) by unfold takeP; rw [if_pos hlong]; rfl)
    have hgt : (65536 : Int) < xs.length := by omega
    clear hs hb hc hl hB0 hlong HG0
    generalize xs.length = n at *
    go_enter Try.func8, Try.ntmps8
    go_wp2
    refine bodyPost_ret (v := .tuple #[.agg #[.int .i64 0, .int .i64 0, .int .u8 0, .int .u8 0, .int .u8 0, .int .u8 0, .slice none 0 0, .slice none 0 0, .slice none 0 0, .slice none 0 0], .int .i64 10]) (by simp [results, Try.results8, go_sem]) rfl ⟨noS, 10, rfl, HB0.out, noS_on _ _, noS_cap, hT.out⟩
  · have hle : ¬ (65536 : Int) < xs.length := by omega
    have HR := Lib.hid (read_any A c xs hc (by omega) hb (w.alloc (.cells #[.int .i64 0, .int .i64 0, .int .u8 0, .int .u8 0, .int .u8 0, .int .u8 0, .slice none 0 0, .slice none 0 0, .slice none 0 0, .slice none 0 0] 33)) ((hs.below hB0).more (by simp)))
    have HT0 := Lib.hid (fun (h : readP xs = none) => show takeP xs = (noS.p, 10) by unfold takeP; rw [if_neg hlong, h]; rfl)
    have HT1 := Lib.hid (fun q (h : readP xs = some q) (hk : check q = 0) => show takeP xs = (q, 0) by unfold takeP; rw [if_neg hlong, h]; simp only [hk, if_true])
    have HT2 := Lib.hid (fun q (h : readP xs = some q) (hk : check q ≠ 0) => show takeP xs = (noS.p, check q) by unfold takeP; rw [if_neg hlong, h]; simp only [hk, if_false]; rfl)
    have HQ := Lib.hid (fun q (h : readP xs = some q) => show q.ok ∧ q.few from ⟨(read_some hb h).1, few_len (by have := read_len hb (by omega) h; omega)⟩)
    unfold ReadA at HR
    clear hs hb hc hl hB0 hlong
    generalize xs.length = n at *
    go_enter Try.func8, Try.ntmps8
    go_wp2_with fail
    with_reducible refine (HR.out).mono ?_
    rintro e w1 ⟨x, ok, rfl, hb, hcase⟩
    have HB1 := Lib.hid (bstep HB0.out HB0.out.size hb)
    have hg1 := scB_keep HG0.out hb (scB_lt HG0.out)
    have hs1 := hb.size
    simp only [World.size_alloc] at hs1
    have HG1 := Lib.hid (scB_alloc (.cells #[.int .i64 x.w, .int .i64 x.h, .int .u8 x.k.r, .int .u8 x.k.g, .int .u8 x.k.b, .int .u8 x.k.a, .slice x.vA x.vs.length x.vc, .slice x.tA x.ts.length x.tc, .slice x.pA x.ps.length x.pc, .slice x.dA x.ds.length x.dc] 33) hg1)
    have HX1 := Lib.hid (show (w1.alloc (.cells #[.int .i64 x.w, .int .i64 x.h, .int .u8 x.k.r, .int .u8 x.k.g, .int .u8 x.k.b, .int .u8 x.k.a, .slice x.vA x.vs.length x.vc, .slice x.tA x.ts.length x.tc, .slice x.pA x.ps.length x.pc, .slice x.dA x.ds.length x.dc] 33)).heap[w1.heap.size]? = some (scB x) from heap_alloc_new _ _)
    have HB2 := Lib.hid (bstep HB1.out HB1.out.size (new_below w1 (.cells #[.int .i64 x.w, .int .i64 x.h, .int .u8 x.k.r, .int .u8 x.k.g, .int .u8 x.k.b, .int .u8 x.k.a, .slice x.vA x.vs.length x.vc, .slice x.tA x.ts.length x.tc, .slice x.pA x.ps.length x.pc, .slice x.dA x.ds.length x.dc] 33)))
    have HO1 := Lib.hid (fun (h : x.on w1 (fun b => w.heap.size + 1 < b)) => show x.on (w1.alloc (.cells #[.int .i64 x.w, .int .i64 x.h, .int .u8 x.k.r, .int .u8 x.k.g, .int .u8 x.k.b, .int .u8 x.k.a, .slice x.vA x.vs.length x.vc, .slice x.tA x.ts.length x.tc, .slice x.pA x.ps.length x.pc, .slice x.dA x.ds.length x.dc] 33)) (fun b => w.heap.size < b ∧ b < w1.heap.size) from (h.imp fun b h1 h2 => ⟨by omega, h2⟩).keep fun b h1 h2 => (new_below w1 _).block b h2)
    simp only [World.size_alloc] at hcase
    clear hb hg1 HR HB0 HG0 HB1
    rcases hcase with ⟨hn, rfl⟩ | ⟨q, hq, rfl, hx, hon, hcap⟩
    · have HT := Lib.hid (HT0.out hn)
      clear hn HT0 HT1 HT2 HQ HO1
      go_upto_region 4 with fail
      obtain ⟨t, ht⟩ : ∃ t, w1.alloc (.cells #[.int .i64 x.w, .int .i64 x.h, .int .u8 x.k.r, .int .u8 x.k.g, .int .u8 x.k.b, .int .u8 x.k.a, .slice x.vA x.vs.length x.vc, .slice x.tA x.ts.length x.tc, .slice x.pA x.ps.length x.pc, .slice x.dA x.ds.length x.dc] 33) = t := ⟨_, rfl⟩
      rw [ht] at HG1 HX1 HB2
      rw [ht]
      obtain ⟨W, hW, hS, hB⟩ := setz HG1.out HB2.out (Nat.le_refl _)
      have HS := Lib.hid hS
      have HB := Lib.hid hB
      have f0 := scB_free HG1.out
      obtain ⟨g0, g1, g2, g3, g4, g5, g6, g7, g8, g9⟩ := scB_cell HG1.out
      have gl := scB_lt HG1.out
      clear HX1 hS hB HG1 HB2 ht
      replace hW := Lib.hid hW
      go_wp2_with fail
      rw [hW.out]
      have k := scB_cell HS.out
      simp only [noS, flat0, zC, List.length_nil] at k
      refine bodyPost_ret (v := .tuple #[.agg #[.int .i64 0, .int .i64 0, .int .u8 0, .int .u8 0, .int .u8 0, .int .u8 0, .slice none 0 0, .slice none 0 0, .slice none 0 0, .slice none 0 0], .int .i64 10]) (by simp [results, Try.results8, go_sem, k]) rfl ⟨noS, 10, rfl, HB.out, noS_on _ _, noS_cap, HT.out⟩
    · obtain ⟨hqo, hqf⟩ := HQ.out q hq
      have hon1 := HO1.out hon
      have HXp := Lib.hid (And.intro hx hcap)
      have HC := Lib.hid (show Calls Try.prog 17 #[.agg #[.int .i64 x.w, .int .i64 x.h, .int .u8 x.k.r, .int .u8 x.k.g, .int .u8 x.k.b, .int .u8 x.k.a, .slice x.vA x.vs.length x.vc, .slice x.tA x.ts.length x.tc, .slice x.pA x.ps.length x.pc, .slice x.dA x.ds.length x.dc]] (w1.alloc (.cells #[.int .i64 x.w, .int .i64 x.h, .int .u8 x.k.r, .int .u8 x.k.g, .int .u8 x.k.b, .int .u8 x.k.a, .slice x.vA x.vs.length x.vc, .slice x.tA x.ts.length x.tc, .slice x.pA x.ps.length x.pc, .slice x.dA x.ds.length x.dc] 33)) (fun e w' => e = .returned (.int .i64 (check q)) ∧ Below (w1.alloc (.cells #[.int .i64 x.w, .int .i64 x.h, .int .u8 x.k.r, .int .u8 x.k.g, .int .u8 x.k.b, .int .u8 x.k.a, .slice x.vA x.vs.length x.vc, .slice x.tA x.ts.length x.tc, .slice x.pA x.ps.length x.pc, .slice x.dA x.ds.length x.dc] 33)).heap.size (w1.alloc (.cells #[.int .i64 x.w, .int .i64 x.h, .int .u8 x.k.r, .int .u8 x.k.g, .int .u8 x.k.b, .int .u8 x.k.a, .slice x.vA x.vs.length x.vc, .slice x.tA x.ts.length x.tc, .slice x.pA x.ps.length x.pc, .slice x.dA x.ds.length x.dc] 33)) w') from by
        rw [← hx]
        exact check_scene x _ hon1.at (ok_of hx hqo hcap) (few_of hx hqf))
      have HO2 := Lib.hid hon1
      have K1 := Lib.hid (HT1.out q hq)
      have K2 := Lib.hid (HT2.out q hq)
      clear hq hqo hqf hon hon1 hx hcap HT0 HT1 HT2 HQ HO1
      go_upto_region 4 with fail
      obtain ⟨t, ht⟩ : ∃ t, w1.alloc (.cells #[.int .i64 x.w, .int .i64 x.h, .int .u8 x.k.r, .int .u8 x.k.g, .int .u8 x.k.b, .int .u8 x.k.a, .slice x.vA x.vs.length x.vc, .slice x.tA x.ts.length x.tc, .slice x.pA x.ps.length x.pc, .slice x.dA x.ds.length x.dc] 33) = t := ⟨_, rfl⟩
      rw [ht] at HG1 HX1 HB2 HC HO2
      rw [ht]
      obtain ⟨x0, x1, x2, x3, x4, x5, x6, x7, x8, x9⟩ := scB_cell HX1.out
      have xl := scB_lt HX1.out
      clear ht
      go_wp2_with fail
      with_reducible refine (HC.out).mono ?_
      rintro e w3 ⟨rfl, hb⟩
      have hg3 := scB_keep HG1.out hb (scB_lt HG1.out)
      have hx3 := scB_keep HX1.out hb (scB_lt HX1.out)
      have HB3 := Lib.hid (bstep HB2.out HB2.out.size hb)
      have HO3 := Lib.hid (HO2.out.keep fun b _ hlt => hb.block b hlt)
      clear hb x0 x1 x2 x3 x4 x5 x6 x7 x8 x9 HC HG1 HX1 HB2 HO2
      have f0 := scB_free hg3
      obtain ⟨g0, g1, g2, g3, g4, g5, g6, g7, g8, g9⟩ := scB_cell hg3
      have gl := scB_lt hg3
      by_cases hk : check q = 0
      · obtain ⟨W, hW, hS, hB, hO⟩ := setx x hg3 HB3.out (Nat.le_refl _)
        have HS := Lib.hid hS
        have HB := Lib.hid hB
        have HOW := Lib.hid (show x.on W (fun b => w.heap.size < b) from (HO3.out.imp fun b h1 _ => h1.1).keep fun b h1 _ => hO b (by omega))
        have HT := Lib.hid (K1.out hk)
        obtain ⟨x0, x1, x2, x3, x4, x5, x6, x7, x8, x9⟩ := scB_cell hx3
        have xl3 := scB_lt hx3
        clear K1 K2 hS hB hO hg3 hx3 HB3 HO3
        replace hW := Lib.hid hW
        rw [hk]
        clear hk
        go_wp2_with fail
        rw [hW.out]
        have k := scB_cell HS.out
        refine bodyPost_ret (v := .tuple #[.agg #[.int .i64 x.w, .int .i64 x.h, .int .u8 x.k.r, .int .u8 x.k.g, .int .u8 x.k.b, .int .u8 x.k.a, .slice x.vA x.vs.length x.vc, .slice x.tA x.ts.length x.tc, .slice x.pA x.ps.length x.pc, .slice x.dA x.ds.length x.dc], .int .i64 0]) (by simp [results, Try.results8, go_sem, k]) rfl ⟨x, 0, rfl, HB.out, HOW.out, HXp.out.2, by rw [HT.out, HXp.out.1]⟩
      · obtain ⟨W, hW, hS, hB⟩ := setz hg3 HB3.out (Nat.le_refl _)
        have HS := Lib.hid hS
        have HB := Lib.hid hB
        have HT := Lib.hid (K2.out hk)
        have hk1 : (check q == 0) = false := by simpa using hk
        have hk2 : (check q != 0) = true := by simpa using hk
        generalize check q = cq at *
        clear K1 K2 hS hB hg3 hx3 HB3 HO3
        replace hW := Lib.hid hW
        go_wp2_with fail
        rw [hW.out]
        have k := scB_cell HS.out
        simp only [noS, flat0, zC, List.length_nil] at k
        refine bodyPost_ret (v := .tuple #[.agg #[.int .i64 0, .int .i64 0, .int .u8 0, .int .u8 0, .int .u8 0, .int .u8 0, .slice none 0 0, .slice none 0 0, .slice none 0 0, .slice none 0 0], .int .i64 cq]) (by simp [results, Try.results8, go_sem, k]) rfl ⟨noS, cq, rfl, HB.out, noS_on _ _, noS_cap, HT.out⟩
/-- What codec.Put answers. -/
def PutA (c : Int) (bs : List Int) (w : World) (e : Ending) (w' : World) : Prop :=
  Below w.heap.size w w' ∧ ((c ≠ 0 ∧ e = .returned (.tuple #[.slice none 0 0, .int .i64 c])) ∨ (c = 0 ∧ ∃ v, e = .returned (.tuple #[v, .int .i64 0]) ∧ P.OwnS 5 .u8 w' w.heap.size v bs))
set_option maxRecDepth 100000 in
set_option maxHeartbeats 2000000 in
theorem cput_any (s : Sc) (hok : s.ok) (hf : s.few) (w : World) (ha : s.at w w.heap.size) (hn : (nS s.p).length ≤ 100000000) :
    Calls Try.prog 10 #[.agg #[.int .i64 s.w, .int .i64 s.h, .int .u8 s.k.r, .int .u8 s.k.g, .int .u8 s.k.b, .int .u8 s.k.a, .slice s.vA s.vs.length s.vc, .slice s.tA s.ts.length s.tc, .slice s.pA s.ps.length s.pc, .slice s.dA s.ds.length s.dc]] w (PutA (check s.p) (P.put (nS s.p)) w) := by
  have hb0 := new_below w (.cells #[.int .i64 s.w, .int .i64 s.h, .int .u8 s.k.r, .int .u8 s.k.g, .int .u8 s.k.b, .int .u8 s.k.a, .slice s.vA s.vs.length s.vc, .slice s.tA s.ts.length s.tc, .slice s.pA s.ps.length s.pc, .slice s.dA s.ds.length s.dc] 33)
  have HB0 := Lib.hid hb0
  have HG0 := Lib.hid (show (w.alloc (.cells #[.int .i64 s.w, .int .i64 s.h, .int .u8 s.k.r, .int .u8 s.k.g, .int .u8 s.k.b, .int .u8 s.k.a, .slice s.vA s.vs.length s.vc, .slice s.tA s.ts.length s.tc, .slice s.pA s.ps.length s.pc, .slice s.dA s.ds.length s.dc] 33)).heap[w.heap.size]? = some (scB s) from heap_alloc_new _ _)
  have HC := Lib.hid (check_scene s (w.alloc (.cells #[.int .i64 s.w, .int .i64 s.h, .int .u8 s.k.r, .int .u8 s.k.g, .int .u8 s.k.b, .int .u8 s.k.a, .slice s.vA s.vs.length s.vc, .slice s.tA s.ts.length s.tc, .slice s.pA s.ps.length s.pc, .slice s.dA s.ds.length s.dc] 33)) ((ha.below hb0).more (by simp)) hok hf)
  have HBy := Lib.hid (fun w2 (h : Below w.heap.size w w2) => bytes_any s hok hf w2 ((ha.below h).more h.size) hn)
  clear hb0 hok hf ha hn
  obtain ⟨cq, hcq⟩ : ∃ c, check s.p = c := ⟨_, rfl⟩
  rw [hcq] at HC ⊢
  clear hcq
  go_enter Try.func10, Try.ntmps10
  go_wp2_with fail
  with_reducible refine (HC.out).mono ?_
  rintro e w1 ⟨rfl, hb⟩
  have hg1 := scB_keep HG0.out hb (scB_lt HG0.out)
  have HB1 := Lib.hid (bstep HB0.out HB0.out.size hb)
  have gl := scB_lt hg1
  obtain ⟨g0, g1, g2, g3, g4, g5, g6, g7, g8, g9⟩ := scB_cell hg1
  clear hb hg1 HC HB0 HG0
  by_cases hk : cq = 0
  · subst hk
    go_wp2_with fail
    with_reducible refine (HBy.out w1 HB1.out).mono ?_
    rintro e w2 ⟨v, rfl, ho, hb⟩
    have HO := Lib.hid (ho.less HB1.out.size)
    have HB2 := Lib.hid (bstep HB1.out HB1.out.size hb)
    clear ho hb
    go_wp2_with fail
    exact bodyPost_ret (v := .tuple #[v, .int .i64 0]) (by simp [results, Try.results10, go_sem]) rfl ⟨HB2.out, .inr ⟨rfl, v, rfl, HO.out⟩⟩
  · have hk1 : (cq == 0) = false := by simpa using hk
    have hk2 : (cq != 0) = true := by simpa using hk
    have HK := Lib.hid hk
    clear hk
    go_wp2_with fail
    exact bodyPost_ret (v := .tuple #[.slice none 0 0, .int .i64 cq]) (by simp [results, Try.results10, go_sem]) rfl ⟨HB1.out, .inl ⟨HK.out, rfl⟩⟩
end Go.Proofs.Ytfmmfaeognoleaa
/-
  The document's example; the range of what scene.Check tells; what laws want of bytes.
-/
namespace Go.Proofs.Ytfmmfaeognoleaa
open Go.RowKit
attribute [local go_sem ↓] Go.wp_at_zero Go.wp_at_succ

theorem flat_at (W H : Int) (w : World) (B : Nat) : (flat0 W H).at w B :=
  ⟨Es.none_, Es.none_, fun l h => (by cases h), Es.none_, fun l h => (by cases h), Es.none_, fun l h => (by cases h)⟩
theorem flat_ok {W H : Int} (hW : I64 W) (hH : I64 H) : (flat0 W H).ok :=
  ⟨hW, hH, zC_ok, fun v h => (by cases h), fun l h => (by cases h), fun l h => (by cases h), fun l h => (by cases h), Nat.le_refl _, Nat.le_refl _, Nat.le_refl _, Nat.le_refl _⟩
theorem flat_few (W H : Int) : (flat0 W H).few := by
  constructor <;> first | exact Nat.zero_le _ | (intro l h; cases h)
theorem str_shown : strOfNums (P.put (nS (flat0 1 2).p)) = { data := #[2, 4, 0, 0, 0, 0, 0, 0, 0, 0] } := by
  have e : P.put (nS (flat0 1 2).p) = [2, 4, 0, 0, 0, 0, 0, 0, 0, 0] := by
    have e1 : nS (flat0 1 2).p = [1, 2, 0, 0, 0, 0, 0, 0, 0, 0] := rfl
    rw [e1]
    simp only [P.put_cons, P.put_nil]
    rw [show P.fold 1 = 2 by decide, show P.fold 2 = 4 by decide, show P.fold 0 = 0 by decide, P.enc_lt (u := 2) (by decide), P.enc_lt (u := 4) (by decide), P.enc_lt (u := 0) (by decide)]
    rfl
  rw [e]; rfl
set_option maxRecDepth 100000 in
set_option maxHeartbeats 1000000 in
theorem cshown_any (w : World) : Calls Try.prog 6 #[] w fun e w' => e = .returned (.bool true) ∧ Below w.heap.size w w' := by
  have H := Lib.hid (show Calls Try.prog 12 #[.agg #[.int .i64 1, .int .i64 2, .int .u8 0, .int .u8 0, .int .u8 0, .int .u8 0, .slice none 0 0, .slice none 0 0, .slice none 0 0, .slice none 0 0]] w (P.Made 5 .u8 w.heap.size w (P.put (nS (flat0 1 2).p))) from
    bytes_any (flat0 1 2) (flat_ok (by unfold I64; omega) (by unfold I64; omega)) (flat_few _ _) w (flat_at _ _ _ _) (by decide))
  have hs := str_shown
  generalize P.put (nS (flat0 1 2).p) = l at *
  go_enter Try.func6, Try.ntmps6
  go_wp2_with fail
  with_reducible refine (H.out).mono ?_
  rintro e w1 ⟨v, rfl, ho, hb⟩
  obtain ⟨A, c, rfl, -, -, hsl⟩ := ho.sl
  have hcv := hsl.conv c
  have HB := Lib.hid hb
  clear hb ho hsl H
  rw [hs] at hcv
  go_wp2_with fail
  go_ret
  exact ⟨rfl, HB.out⟩
theorem check_range (p : PS) : check p = 0 ∨ check p = 1 ∨ (20 ≤ check p ∧ check p ≤ 26) := by
  have h1 : headE p = 0 ∨ headE p = 1 ∨ (20 ≤ headE p ∧ headE p ≤ 26) := by
    unfold headE
    repeat (first | (split; · omega) | omega)
  have h2 : ∀ n k, firstE (errAt p) k n = 0 ∨ (20 ≤ firstE (errAt p) k n ∧ firstE (errAt p) k n ≤ 26) := by
    intro n
    induction n with
    | zero => intro k; exact .inl rfl
    | succ n ih =>
      intro k
      unfold firstE
      split
      · exact ih (k + 1)
      · right
        rename_i hne
        revert hne
        unfold errAt
        split
        · unfold drawE
          repeat (first | (split; · omega) | omega)
        · intro h; exact absurd rfl h
  unfold check
  split
  · rcases h2 p.ds.length 0 with h | h
    · exact .inl h
    · exact .inr (.inr h)
  · exact h1
theorem takeP_err (xs : List Int) : (takeP xs).2 = 0 ∨ ((takeP xs).1 = zS ∧ ((takeP xs).2 = 10 ∨ (takeP xs).2 = 1 ∨ (20 ≤ (takeP xs).2 ∧ (takeP xs).2 ≤ 26)) ∧ (takeP xs).2 ≠ 0) := by
  unfold takeP
  split
  · exact .inr ⟨rfl, .inl rfl, by decide⟩
  · split
    · exact .inr ⟨rfl, .inl rfl, by decide⟩
    · rename_i p _
      split
      · exact .inl rfl
      · rename_i hk
        refine .inr ⟨rfl, .inr ?_, hk⟩
        rcases check_range p with h | h
        · exact absurd h hk
        · exact h
theorem takeP_zero {xs : List Int} {q : PS} (h : takeP xs = (q, 0)) : xs.length ≤ 65536 ∧ readP xs = some q ∧ check q = 0 := by
  unfold takeP at h
  split at h
  · cases h
  · rename_i hl
    split at h
    · cases h
    · rename_i p hp
      split at h
      · rename_i hk
        cases h
        exact ⟨by omega, hp, hk⟩
      · rename_i hk
        exact absurd (congrArg Prod.snd h) hk
theorem takeP_put {p : PS} (ho : p.ok) (hf : p.few) (hl : (P.put (nS p)).length ≤ 65536) : takeP (P.put (nS p)) = if check p = 0 then (p, 0) else (zS, check p) := by
  unfold takeP
  rw [if_neg (by omega), read_put ho hf]
end Go.Proofs.Ytfmmfaeognoleaa
