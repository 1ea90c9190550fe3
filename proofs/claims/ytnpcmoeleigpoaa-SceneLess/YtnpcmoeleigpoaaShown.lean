/-
  The document's examples; the reference's Count and mod; an empty scene.
-/
import Derived.Test.YtnpcmoeleigpoaaRChk
import Derived.Test.YtnpcmoeleigpoaaGone
namespace Go.Proofs.Ytnpcmoeleigpoaa
open Go.RowKit
attribute [local go_sem ↓] Go.wp_at_zero Go.wp_at_succ

/-- A scene of two sides, and nothing else. -/
def bare (W H : Int) : Sc := ⟨W, H, zC, [], none, 0, [], none, 0, [], none, 0, [], none, 0⟩
theorem bare_at (W H : Int) (w : World) (B : Nat) : (bare W H).at w B :=
  ⟨Es.none_, Es.none_, fun l h => (by cases h), Es.none_, fun l h => (by cases h), Es.none_, fun l h => (by cases h)⟩
theorem bare_ok {W H : Int} (hW : I64 W) (hH : I64 H) : (bare W H).ok :=
  ⟨hW, hH, zC_ok, fun v h => (by cases h), fun l h => (by cases h), fun l h => (by cases h), fun l h => (by cases h), Nat.le_refl _, Nat.le_refl _, Nat.le_refl _, Nat.le_refl _⟩
theorem bare_few (W H : Int) : (bare W H).few := by
  constructor <;> first | exact Nat.zero_le _ | (intro l h; cases h)
theorem bare_one : check (bare 1 1).p = 0 := by decide
theorem bare_two : check (bare 65 1).p = 20 := by decide
set_option maxRecDepth 100000 in
set_option maxHeartbeats 1000000 in
theorem shown_any (w : World) : Calls Try.prog 9 #[] w fun e w' => e = .returned (.bool true) ∧ Below w.heap.size w w' := by
  have H1 := Lib.hid (show ∀ w, Calls Try.prog 12 #[.agg #[.int .i64 1, .int .i64 1, .int .u8 0, .int .u8 0, .int .u8 0, .int .u8 0, .slice none 0 0, .slice none 0 0, .slice none 0 0, .slice none 0 0]] w fun e w' => e = .returned (.int .i64 0) ∧ Below w.heap.size w w' from fun w => by
    have h := check_scene (bare 1 1) w (bare_at _ _ _ _) (bare_ok (by unfold I64; omega) (by unfold I64; omega)) (bare_few _ _)
    rw [bare_one] at h
    exact h)
  have H2 := Lib.hid (show ∀ w, Calls Try.prog 12 #[.agg #[.int .i64 65, .int .i64 1, .int .u8 0, .int .u8 0, .int .u8 0, .int .u8 0, .slice none 0 0, .slice none 0 0, .slice none 0 0, .slice none 0 0]] w fun e w' => e = .returned (.int .i64 20) ∧ Below w.heap.size w w' from fun w => by
    have h := check_scene (bare 65 1) w (bare_at _ _ _ _) (bare_ok (by unfold I64; omega) (by unfold I64; omega)) (bare_few _ _)
    rw [bare_two] at h
    exact h)
  have H3 := Lib.hid (show ∀ w, Calls Try.prog 17 #[.agg #[.int .i64 0, .int .i64 0, .int .u8 0, .int .u8 0, .int .u8 0, .int .u8 0, .slice none 0 0, .slice none 0 0, .slice none 0 0, .slice none 0 0]] w fun e w' => e = .returned (.func (.func 39) #[] #[.pointer (some ⟨w.heap.size, 0, none⟩)]) ∧ w' = w.alloc (scB (bare 0 0)) from fun w => each_any (bare 0 0) w)
  have hn := neqF
  go_enter Try.func9, Try.ntmps9
  go_wp2_with fail
  with_reducible refine (H1.out _).mono ?_
  rintro e w1 ⟨rfl, hb⟩
  have B1 := Lib.hid hb
  clear hb H1
  go_wp2_with fail
  with_reducible refine (H2.out _).mono ?_
  rintro e w2 ⟨rfl, hb⟩
  have B2 := Lib.hid (bstep B1.out B1.out.size hb)
  clear hb H2
  go_wp2_with fail
  with_reducible refine (H3.out _).mono ?_
  rintro e w3 ⟨rfl, rfl⟩
  have B3 := Lib.hid (bstep B2.out B2.out.size (new_below w2 (scB (bare 0 0))))
  generalize w2.alloc (scB (bare 0 0)) = w3 at *
  go_wp2_with fail
  go_ret
  exact ⟨rfl, B3.out⟩

set_option maxHeartbeats 1000000 in
theorem rmod_any (n b : Int) (hn : I64 n) (hb : 0 < b) (hb2 : b ≤ 4611686018427387904) (w : World) :
    Calls Try.prog 18 #[.int .i64 n, .int .i64 b] w fun e w' => e = .returned (.int .i64 (n % b)) ∧ w = w' := by
  have hw := C.emod_ways n b hb
  have hp := Int.lt_tmod_of_pos n hb
  have hq := Int.tmod_lt_of_pos n hb
  obtain ⟨k, hk⟩ : ∃ k, n.tmod b = k := ⟨_, rfl⟩
  rw [hk] at hw hp hq
  have g0 : IntKind.i64.wrap k = k := by rw [IntKind.wrap_i64]; omega
  have g1 : IntKind.i64.wrap (k + b) = k + b := by rw [IntKind.wrap_i64]; omega
  have hb0 : ¬ b = 0 := by omega
  have HN := Lib.hid hn
  clear hn
  rcases hw with ⟨h, e⟩ | ⟨h, e⟩
  · rw [e]
    clear e hp hq hb hb2
    go_enter Try.func18, Try.ntmps18
    go_wp2_with fail
    go_ret
    exact ⟨rfl, rfl⟩
  · rw [e]
    clear e hp hq hb hb2
    go_enter Try.func18, Try.ntmps18
    go_wp2_with fail
    go_ret
    exact ⟨rfl, rfl⟩
theorem sum_le : ∀ (l : List Nat), (∀ x ∈ l, x ≤ 1000) → l.sum ≤ l.length * 1000
  | [], _ => by simp
  | a :: l, h => by
    have h1 := sum_le l fun x hx => h x (by simp [hx])
    have h2 := h a (by simp)
    rw [List.sum_cons, List.length_cons]
    omega
set_option maxRecDepth 100000 in
set_option maxHeartbeats 4000000 in
theorem rcount_any (s : Sc) (hf : s.few) (w : World) (ha : Es ED w w.heap.size s.dA s.ds) :
    Calls Try.prog 15 #[.agg #[.int .i64 s.w, .int .i64 s.h, .int .u8 s.k.r, .int .u8 s.k.g, .int .u8 s.k.b, .int .u8 s.k.a, .slice s.vA s.vs.length s.vc, .slice s.tA s.ts.length s.tc, .slice s.pA s.ps.length s.pc, .slice s.dA s.ds.length s.dc]] w fun e w' => e = .returned (.int .i64 (count s.p)) ∧ Below w.heap.size w w' := by
  have HK := Lib.hid (new_below w (.cells #[.int .i64 s.w, .int .i64 s.h, .int .u8 s.k.r, .int .u8 s.k.g, .int .u8 s.k.b, .int .u8 s.k.a, .slice s.vA s.vs.length s.vc, .slice s.tA s.ts.length s.tc, .slice s.pA s.ps.length s.pc, .slice s.dA s.ds.length s.dc] 29))
  have HG0 := Lib.hid (show (w.alloc (.cells #[.int .i64 s.w, .int .i64 s.h, .int .u8 s.k.r, .int .u8 s.k.g, .int .u8 s.k.b, .int .u8 s.k.a, .slice s.vA s.vs.length s.vc, .slice s.tA s.ts.length s.tc, .slice s.pA s.ps.length s.pc, .slice s.dA s.ds.length s.dc] 29)).heap[w.heap.size]? = some (scB s) from heap_alloc_new _ _)
  have HS := Lib.hid (fun (j : Nat) (u : Lo Dr) (hu : s.ds[j]? = some u) => ha.at hu)
  have HL := Lib.hid (fun (k : Nat) (h : k < s.ds.length) => get_lt (l := s.ds) h)
  have hc : count s.p = (lens s).sum := by unfold count lens Sc.p; rw [List.map_map]; rfl
  rw [hc]
  have HSum := Lib.hid (fun (j : Nat) (u : Lo Dr) (hu : s.ds[j]? = some u) => show ((lens s).take (j + 1)).sum = ((lens s).take j).sum + u.x.tris.length by
    have h2 : (lens s)[j]? = some u.x.tris.length := by unfold lens; rw [List.getElem?_map, hu]; rfl
    rw [take_snoc h2, List.sum_append, List.sum_cons, List.sum_nil, Nat.add_zero])
  have HMax := Lib.hid (fun (j : Nat) => show ((lens s).take j).sum ≤ 1000000 by
    have h1 := sum_le ((lens s).take j) fun x hx => by
      have hx := List.mem_of_mem_take hx
      unfold lens at hx
      obtain ⟨l, hl, rfl⟩ := List.mem_map.1 hx
      exact hf.dx l hl
    have h2 := hf.ds
    have h3 : (lens s).length = s.ds.length := by unfold lens; simp
    have h4 : ((lens s).take j).length ≤ (lens s).length := by rw [List.length_take]; omega
    omega)
  have HEnd := Lib.hid (show ((lens s).take s.ds.length).sum = (lens s).sum by rw [List.take_of_length_le (by unfold lens; simp)])
  have hds := hf.ds
  have h0 : ((lens s).take 0).sum = 0 := by simp
  generalize (lens s).sum = R at *
  generalize lens s = ls at *
  obtain ⟨dA, hdA⟩ : ∃ a, s.dA = a := ⟨_, rfl⟩
  obtain ⟨n, hn⟩ : ∃ n, s.ds.length = n := ⟨_, rfl⟩
  rw [hdA] at HK HG0 HS ⊢
  rw [hn] at HK HG0 HL HEnd hds ⊢
  replace hn := Lib.hid hn
  replace hdA := Lib.hid hdA
  replace h0 := Lib.hid h0
  clear ha hf hc
  go_enter Try.func15, Try.ntmps15
  go_wp2_with fail
  go_loopw [3, 4] (fun c i wr => ∃ j : Nat, j ≤ n ∧ i = .int .i64 j ∧ c = .int .i64 ((ls.take j).sum : Nat) ∧ Below w.heap.size w wr ∧ wr.heap[w.heap.size]? = some (scB s)) (fun _ i _ => n - (intOf i).toNat)
  case atStart => exact ⟨0, Nat.zero_le _, rfl, by rw [h0.out]; rfl, HK.out, HG0.out⟩
  case round =>
    obtain ⟨j, hk, rfl, rfl, hb, hg⟩ := hrel
    have HB := Lib.hid hb
    have HG := Lib.hid hg
    obtain ⟨c0, c1, c2, c3, c4, c5, c6, c7, c8, c9⟩ := scB_cell hg
    rw [hn.out, hdA.out] at c9
    have hg := scB_lt hg
    clear hb c0 c1 c2 c3 c4 c5 c6 c7 c8
    by_cases hlt : j < n
    · obtain ⟨u, hu⟩ := HL.out j hlt
      obtain ⟨b, off, rfl, hbB, hat⟩ := HS.out j u hu
      obtain ⟨-, -, -, -, d4⟩ := atD (show AtE ED wr b (off + j * 5) u from hat.below HB.out hbB)
      have hbw := Nat.lt_of_lt_of_le hbB HB.out.size
      have hs := HSum.out j u hu
      have hm1 := HMax.out j
      have hm2 := HMax.out (j + 1)
      rw [hs] at hm2
      replace hs := Lib.hid hs
      clear hat hu
      generalize u.x.tris.length = q at *
      generalize (ls.take j).sum = a at *
      have hw : IntKind.i64.wrap ((a : Int) + q) = ((a + q : Nat) : Int) := by rw [IntKind.wrap_i64]; omega
      have hw2 : wrap64 ((a : Int) + q) = ((a + q : Nat) : Int) := by unfold wrap64; omega
      go_wp2_with fail
      go_roundw
      case rel => exact ⟨j + 1, by omega, by go_num, by rw [hs.out]; go_num, HB.out, HG.out⟩
      case measure => simp [intOf]; omega
    · obtain rfl : n = j := by omega
      have he := HEnd.out
      rw [he]
      clear he
      go_wp2_with fail
      go_ret
      exact ⟨rfl, HB.out⟩
end Go.Proofs.Ytnpcmoeleigpoaa
