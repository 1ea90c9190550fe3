/-
  The contracts of view's small functions and of its closures.
-/
import Derived.Test.YtfdlfjecgefgfaaCFix
import Derived.Test.YtfdlfjecgefgfaaCEqP
namespace Go.Proofs.Ytfdlfjecgefgfaa.C
open Go.RowKit
attribute [local go_sem ↓] Go.wp_at_zero Go.wp_at_succ

theorem mk_func (fn : Fn) (first cap : Array Value) (w : World) : (Instr.makeFunc fn first cap).run Try.prog w = .ok (.func fn first cap) w := rfl

/-- A side that a screen may have. -/
def sideB (n : Int) : Bool := decide (1 ≤ n ∧ n ≤ 64)
def scr (w h : Int) : Bool := sideB w && sideB h
def along (n m c : Int) : Int := n * m / c + m
/-- Where a vertex is on a screen; nothing, where it is not. -/
def pt (w h : Int) (v : V) : P := ⟨along v.x (8 * w) v.w, along v.y (8 * h) v.w, along v.z 32768 v.w, v.a, v.b, v.c, v.d⟩
def pz : P := ⟨0, 0, 0, 0, 0, 0, 0⟩
def okP (w h : Int) (v : V) : Bool := scr w h && decide (1 ≤ v.w)
def ptO (w h : Int) (v : V) : P := if okP w h v = true then pt w h v else pz

theorem side_any (n : Int) (w : World) :
    Calls Try.prog 44 #[.int .i64 n] w fun e w' => e = .returned (.bool (sideB n)) ∧ w = w' := by
  unfold sideB
  by_cases h0 : 1 ≤ n
  · by_cases h1 : n ≤ 64
    · have e1 : decide (1 ≤ n ∧ n ≤ 64) = true := by simp [h0, h1]
      rw [e1]
      go_enter Try.func44, Try.ntmps44
      go_wp2
      go_ret
      exact ⟨rfl, rfl⟩
    · have e1 : decide (1 ≤ n ∧ n ≤ 64) = false := by simp [h1]
      rw [e1]
      go_enter Try.func44, Try.ntmps44
      go_wp2
      go_ret
      exact ⟨rfl, rfl⟩
  · have e1 : decide (1 ≤ n ∧ n ≤ 64) = false := by simp [h0]
    rw [e1]
    go_enter Try.func44, Try.ntmps44
    go_wp2
    go_ret
    exact ⟨rfl, rfl⟩

theorem by1_any (n m c : Int) (b : Nat) (w : World) (hn0 : -9223372036854775808 ≤ n) (hn1 : n ≤ 9223372036854775807) (hm0 : 0 ≤ m) (hm1 : m ≤ 100000) (hc0 : 0 < c) (hc1 : c ≤ 9223372036854775807)
    (hp : n.natAbs * m.natAbs < 9223372036854775807) (ha0 : -9223372036854775808 ≤ along n m c) (ha1 : along n m c ≤ 9223372036854775807) (hcell : w.cell? ⟨b, 0, none⟩ = some (.int .i64 c)) :
    Calls Try.prog 56 #[.int .i64 n, .int .i64 m, .pointer (some ⟨b, 0, none⟩)] w fun e w' => e = .returned (.int .i64 (along n m c)) ∧ Below w.heap.size w w' := by
  have MD := Lib.hid (muldiv_any n m c hn0 hn1 hm0 (by omega) hc0 hc1 hp w)
  unfold along at *
  generalize n * m / c = z at *
  go_enter Try.func56, Try.ntmps56
  go_wp2_with (go_at_call 57; with_reducible refine (MD.out).mono ?_; rintro e w' ⟨rfl, hb⟩; have HB := Lib.hid hb; clear hb)
  go_ret
  exact ⟨rfl, HB.out⟩

theorem vby_any (c : Int) (w : World) :
    Calls Try.prog 46 #[.int .i64 c] w fun e w' => e = .returned (.func (.func 56) #[] #[.pointer (some ⟨w.heap.size, 0, none⟩)]) ∧ w' = w.alloc (.cells #[.int .i64 c] 3) := by
  have hmf := mk_func
  go_enter Try.func46, Try.ntmps46
  go_wp2
  go_ret
  exact ⟨rfl, rfl⟩

theorem onto_any (m k : Int) (w : World) :
    Calls Try.prog 37 #[.int .i64 m, .int .i64 k] w fun e w' => e = .returned (.func (.func 45) #[] #[.pointer (some ⟨w.heap.size + 2, 0, none⟩), .pointer (some ⟨w.heap.size, 0, none⟩), .pointer (some ⟨w.heap.size + 1, 0, none⟩)]) ∧
      w' = ((w.alloc (.cells #[.int .i64 m] 3)).alloc (.cells #[.int .i64 k] 3)).alloc (.cells #[.bool (scr m k)] 4) := by
  have hmf := mk_func
  unfold scr
  cases h : sideB m
  · go_enter Try.func37, Try.ntmps37
    go_wp2_with (go_at_call 44; with_reducible refine (side_any _ _).mono ?_; rintro e w' ⟨rfl, rfl⟩)
    go_ret
    exact ⟨rfl, rfl⟩
  · go_enter Try.func37, Try.ntmps37
    go_wp2_with (go_at_call 44; with_reducible refine (side_any _ _).mono ?_; rintro e w' ⟨rfl, rfl⟩)
    go_ret
    exact ⟨rfl, rfl⟩

theorem along_bd {n m c : Int} (hn0 : -1048576 ≤ n) (hn1 : n ≤ 1048576) (hm0 : 0 ≤ m) (hm1 : m ≤ 32768) (hc0 : 0 < c) :
    n.natAbs * m.natAbs < 9223372036854775807 ∧ -100000000000 ≤ along n m c ∧ along n m c ≤ 100000000000 := by
  have hN : n.natAbs ≤ 1048576 := by omega
  have hM : m.natAbs ≤ 32768 := by omega
  have h := Nat.mul_le_mul hN hM
  have e : (n * m).natAbs = n.natAbs * m.natAbs := Int.natAbs_mul n m
  have p0 : -34359738368 ≤ n * m := by omega
  have p1 : n * m ≤ 34359738368 := by omega
  have d0 : -34359738368 ≤ n * m / c := by
    rw [Int.le_ediv_iff_mul_le hc0]
    have : -34359738368 * c ≤ -34359738368 * 1 := Int.mul_le_mul_of_nonpos_left (by omega) (by omega)
    omega
  have d1 : n * m / c ≤ 34359738368 := by
    rcases Int.le_total 0 (n * m) with g | g
    · exact Int.le_trans (Int.ediv_le_self c g) p1
    · have := Int.ediv_nonpos_of_nonpos_of_neg g hc0
      omega
  unfold along
  omega

set_option maxHeartbeats 1000000 in
theorem put_no (v : V) (s : Bool) (bs bw bh : Nat) (w : World) (hs : w.cell? ⟨bs, 0, none⟩ = some (.bool s)) (hno : (s && decide (1 ≤ v.w)) = false) :
    Calls Try.prog 45 #[.agg #[.int .i64 v.x, .int .i64 v.y, .int .i64 v.z, .int .i64 v.w, .int .i64 v.a, .int .i64 v.b, .int .i64 v.c, .int .i64 v.d], .pointer (some ⟨bs, 0, none⟩), .pointer (some ⟨bw, 0, none⟩), .pointer (some ⟨bh, 0, none⟩)] w fun e w' => e = .returned (.tuple #[.agg #[.int .i64 pz.x, .int .i64 pz.y, .int .i64 pz.z, .int .i64 pz.a, .int .i64 pz.b, .int .i64 pz.c, .int .i64 pz.d], .bool false]) ∧ Below w.heap.size w w' := by
  have hbs : bs < w.heap.size := World.block_lt_of_cell? _ _ hs
  have hb : ∀ o o', Below w.heap.size w ((w.alloc o).alloc o') := fun o o' => ((Below.refl _ _).alloc (Nat.le_refl _) o).alloc (by simp) o'
  have HB := Lib.hid hb
  clear hb
  have hmf := mk_func
  cases s
  · go_enter Try.func45, Try.ntmps45
    go_wp2
    refine bodyPost_ret (v := .tuple #[.agg #[.int .i64 pz.x, .int .i64 pz.y, .int .i64 pz.z, .int .i64 pz.a, .int .i64 pz.b, .int .i64 pz.c, .int .i64 pz.d], .bool false]) (by simp [results, Try.results45, go_sem, pz]) rfl ⟨rfl, ?_⟩
    exact HB.out _ _
  · have h1 : ¬ 1 ≤ v.w := by simpa using hno
    go_enter Try.func45, Try.ntmps45
    go_wp2
    refine bodyPost_ret (v := .tuple #[.agg #[.int .i64 pz.x, .int .i64 pz.y, .int .i64 pz.z, .int .i64 pz.a, .int .i64 pz.b, .int .i64 pz.c, .int .i64 pz.d], .bool false]) (by simp [results, Try.results45, go_sem, pz]) rfl ⟨rfl, ?_⟩
    exact HB.out _ _

theorem zP_cell {w : World} {g : Nat} (h : w.heap[g]? = some (.cells #[.int .i64 0, .int .i64 0, .int .i64 0, .int .i64 0, .int .i64 0, .int .i64 0, .int .i64 0] 37 (0, 0))) :
    w.cell? ⟨g, 0, none⟩ = some (.int .i64 0) ∧ w.cell? ⟨g, 1, none⟩ = some (.int .i64 0) ∧ w.cell? ⟨g, 2, none⟩ = some (.int .i64 0) ∧ w.cell? ⟨g, 3, none⟩ = some (.int .i64 0) ∧ w.cell? ⟨g, 4, none⟩ = some (.int .i64 0) ∧ w.cell? ⟨g, 5, none⟩ = some (.int .i64 0) ∧ w.cell? ⟨g, 6, none⟩ = some (.int .i64 0) ∧
      w.frozen? ⟨g, 0, none⟩ = false ∧ w.frozen? ⟨g, 1, none⟩ = false ∧ w.frozen? ⟨g, 2, none⟩ = false ∧ w.frozen? ⟨g, 3, none⟩ = false ∧ w.frozen? ⟨g, 4, none⟩ = false ∧ w.frozen? ⟨g, 5, none⟩ = false ∧ w.frozen? ⟨g, 6, none⟩ = false := by
  simp [World.cell?, World.frozen?, h]

set_option maxRecDepth 100000 in
set_option maxHeartbeats 2000000 in
theorem put_yes (v : V) (m k : Int) (bs bw bh : Nat) (w : World) (hv : v.sm) (hs : w.cell? ⟨bs, 0, none⟩ = some (.bool true)) (hm : w.cell? ⟨bw, 0, none⟩ = some (.int .i64 m)) (hk : w.cell? ⟨bh, 0, none⟩ = some (.int .i64 k)) (h1 : 1 ≤ v.w) (hm0 : 1 ≤ m) (hm1 : m ≤ 64) (hk0 : 1 ≤ k) (hk1 : k ≤ 64) :
    Calls Try.prog 45 #[.agg #[.int .i64 v.x, .int .i64 v.y, .int .i64 v.z, .int .i64 v.w, .int .i64 v.a, .int .i64 v.b, .int .i64 v.c, .int .i64 v.d], .pointer (some ⟨bs, 0, none⟩), .pointer (some ⟨bw, 0, none⟩), .pointer (some ⟨bh, 0, none⟩)] w fun e w' => e = .returned (.tuple #[.agg #[.int .i64 (pt m k v).x, .int .i64 (pt m k v).y, .int .i64 (pt m k v).z, .int .i64 (pt m k v).a, .int .i64 (pt m k v).b, .int .i64 (pt m k v).c, .int .i64 (pt m k v).d], .bool true]) ∧ Below w.heap.size w w' := by
  have hbs : bs < w.heap.size := World.block_lt_of_cell? _ _ hs
  have hbw : bw < w.heap.size := World.block_lt_of_cell? _ _ hm
  have hbh : bh < w.heap.size := World.block_lt_of_cell? _ _ hk
  have hmf := mk_func
  obtain ⟨vx, vy, vz, vw, -, -, -, -⟩ := hv
  obtain ⟨p1, p2, p3⟩ := along_bd (m := 8 * m) (c := v.w) vx.1 vx.2 (by omega) (by omega) (by omega)
  obtain ⟨p4, p5, p6⟩ := along_bd (m := 8 * k) (c := v.w) vy.1 vy.2 (by omega) (by omega) (by omega)
  obtain ⟨p7, p8, p9⟩ := along_bd (m := 32768) (c := v.w) vz.1 vz.2 (by omega) (by omega) (by omega)
  have CX := Lib.hid (fun W (hc : World.cell? W ⟨w.heap.size + 1 + 1, 0, none⟩ = some (.int .i64 v.w)) => by1_any v.x (8 * m) v.w (w.heap.size + 1 + 1) W (by omega) (by omega) (by omega) (by omega) (by omega) (by omega) p1 (by omega) (by omega) hc)
  have CY := Lib.hid (fun W (hc : World.cell? W ⟨w.heap.size + 1 + 1, 0, none⟩ = some (.int .i64 v.w)) => by1_any v.y (8 * k) v.w (w.heap.size + 1 + 1) W (by omega) (by omega) (by omega) (by omega) (by omega) (by omega) p4 (by omega) (by omega) hc)
  have CZ := Lib.hid (fun W (hc : World.cell? W ⟨w.heap.size + 1 + 1, 0, none⟩ = some (.int .i64 v.w)) => by1_any v.z 32768 v.w (w.heap.size + 1 + 1) W (by omega) (by omega) (by omega) (by omega) (by omega) (by omega) p7 (by omega) (by omega) hc)
  clear p1 p2 p3 p4 p5 p6 p7 p8 p9 vx vy vz
  obtain ⟨X, hX⟩ : ∃ X, along v.x (8 * m) v.w = X := ⟨_, rfl⟩
  obtain ⟨Y, hY⟩ : ∃ X, along v.y (8 * k) v.w = X := ⟨_, rfl⟩
  obtain ⟨Z, hZ⟩ : ∃ X, along v.z 32768 v.w = X := ⟨_, rfl⟩
  have hpt : pt m k v = ⟨X, Y, Z, v.a, v.b, v.c, v.d⟩ := by unfold pt; rw [hX, hY, hZ]
  rw [hpt]
  rw [hX] at CX
  rw [hY] at CY
  rw [hZ] at CZ
  obtain ⟨M, hM⟩ : ∃ M, 8 * m = M := ⟨_, rfl⟩
  obtain ⟨K8, hK8⟩ : ∃ M, 8 * k = M := ⟨_, rfl⟩
  rw [hM] at CX
  rw [hK8] at CY
  have wM : IntKind.i64.wrap (8 * m) = M := by rw [IntKind.wrap_i64]; omega
  have wK : IntKind.i64.wrap (8 * k) = K8 := by rw [IntKind.wrap_i64]; omega
  clear hpt hX hY hZ hM hK8
  go_enter Try.func45, Try.ntmps45
  go_wp2_with fail
  refine (vby_any v.w _).mono ?_
  rintro e w1 ⟨rfl, rfl⟩
  go_wp2_with fail
  obtain ⟨X1, hX1⟩ : ∃ X1, X1 = w.alloc (Obj.cells #[.int .i64 v.x, .int .i64 v.y, .int .i64 v.z, .int .i64 v.w, .int .i64 v.a, .int .i64 v.b, .int .i64 v.c, .int .i64 v.d] 25) := ⟨_, rfl⟩
  have g1 : X1.heap.size = w.heap.size + 1 := by rw [hX1]; simp
  have x0 : X1.cell? ⟨w.heap.size, 0, none⟩ = some (.int .i64 v.x) := by rw [hX1]; simp [go_sem]
  have x1 : X1.cell? ⟨w.heap.size, 1, none⟩ = some (.int .i64 v.y) := by rw [hX1]; simp [go_sem]
  have x2 : X1.cell? ⟨w.heap.size, 2, none⟩ = some (.int .i64 v.z) := by rw [hX1]; simp [go_sem]
  have x4 : X1.cell? ⟨w.heap.size, 4, none⟩ = some (.int .i64 v.a) := by rw [hX1]; simp [go_sem]
  have x5 : X1.cell? ⟨w.heap.size, 5, none⟩ = some (.int .i64 v.b) := by rw [hX1]; simp [go_sem]
  have x6 : X1.cell? ⟨w.heap.size, 6, none⟩ = some (.int .i64 v.c) := by rw [hX1]; simp [go_sem]
  have x7 : X1.cell? ⟨w.heap.size, 7, none⟩ = some (.int .i64 v.d) := by rw [hX1]; simp [go_sem]
  have xm : X1.cell? ⟨bw, 0, none⟩ = some (.int .i64 m) := by rw [hX1, World.cell?_alloc_past _ _ _ (by simpa using hbw)]; exact hm
  have xk : X1.cell? ⟨bh, 0, none⟩ = some (.int .i64 k) := by rw [hX1, World.cell?_alloc_past _ _ _ (by simpa using hbh)]; exact hk
  have BW := Lib.hid (show Below w.heap.size w X1 by rw [hX1]; exact (Below.refl _ _).alloc (Nat.le_refl _) _)
  rw [← hX1]
  obtain ⟨Y0, hY0⟩ : ∃ Y0, Y0 = World.drew ((X1.alloc (Obj.cells #[.int .i64 0, .int .i64 0, .int .i64 0, .int .i64 0, .int .i64 0, .int .i64 0, .int .i64 0] 37)).alloc (Obj.cells #[.int .i64 v.w] 3)) := ⟨_, rfl⟩
  have B0 := Lib.hid (show Below X1.heap.size X1 Y0 by rw [hY0]; exact (((Below.refl _ _).alloc (Nat.le_refl _) _).alloc (by simp) _).drew)
  have c0 := Lib.hid (show Y0.cell? ⟨w.heap.size + 1 + 1, 0, none⟩ = some (.int .i64 v.w) by rw [hY0, ← g1]; simp [go_sem])
  have r0 := Lib.hid (show Y0.heap[w.heap.size + 1]? = some (.cells #[.int .i64 0, .int .i64 0, .int .i64 0, .int .i64 0, .int .i64 0, .int .i64 0, .int .i64 0] 37 (0, 0)) by rw [hY0, ← g1]; exact (Below.heap_alloc _ _ _ (by simp)).trans (heap_alloc_new _ _))
  refine wp_region_held_drew (S := fun w' => ∃ x : Grow X1, w' = x.w) (by kernel_rfl) ⟨⟨Y0, B0.out⟩, hY0.symm⟩ (fun hS => ?_)
  rw [← hY0] at hS ⊢
  have y0 : ∀ x : Grow X1, x.w.cell? ⟨w.heap.size, 0, none⟩ = some (.int .i64 v.x) := fun x => x.cell x0
  have y1 : ∀ x : Grow X1, x.w.cell? ⟨w.heap.size, 1, none⟩ = some (.int .i64 v.y) := fun x => x.cell x1
  have y2 : ∀ x : Grow X1, x.w.cell? ⟨w.heap.size, 2, none⟩ = some (.int .i64 v.z) := fun x => x.cell x2
  have y4 : ∀ x : Grow X1, x.w.cell? ⟨w.heap.size, 4, none⟩ = some (.int .i64 v.a) := fun x => x.cell x4
  have y5 : ∀ x : Grow X1, x.w.cell? ⟨w.heap.size, 5, none⟩ = some (.int .i64 v.b) := fun x => x.cell x5
  have y6 : ∀ x : Grow X1, x.w.cell? ⟨w.heap.size, 6, none⟩ = some (.int .i64 v.c) := fun x => x.cell x6
  have y7 : ∀ x : Grow X1, x.w.cell? ⟨w.heap.size, 7, none⟩ = some (.int .i64 v.d) := fun x => x.cell x7
  have ym : ∀ x : Grow X1, x.w.cell? ⟨bw, 0, none⟩ = some (.int .i64 m) := fun x => x.cell xm
  have yk : ∀ x : Grow X1, x.w.cell? ⟨bh, 0, none⟩ = some (.int .i64 k) := fun x => x.cell xk
  have G2 := Lib.hid (Nat.le_of_eq g1)
  have G3 := Lib.hid (show w.heap.size ≤ X1.heap.size by omega)
  clear hX1 hY0 x0 x1 x2 x4 x5 x6 x7 xm xk g1 hs hm hk
  refine wpAnyH_take (i := 0) (v := (.func (.func 56) #[] #[.pointer (some ⟨w.heap.size + 1 + 1, 0, none⟩)])) rfl (by kernel_rfl) (by kernel_rfl) (by kernel_rfl) (fun _ _ _ h => h) (Or.inl ⟨by rfl, fun w hw => by obtain ⟨x, rfl⟩ := hw; go_simp⟩) hS ?_
  try simp only [Act.put, List.setIfInBounds_toArray, List.set_cons_zero, List.set_cons_succ, List.getElem_toArray, List.getElem_cons_zero]
  refine wpAnyH_take (i := 1) (v := (.pointer (some ⟨w.heap.size, 0, none⟩))) rfl (by kernel_rfl) (by kernel_rfl) (by kernel_rfl) (fun _ _ _ h => h) (Or.inl ⟨by rfl, fun w hw => by obtain ⟨x, rfl⟩ := hw; go_simp⟩) hS ?_
  try simp only [Act.put, List.setIfInBounds_toArray, List.set_cons_zero, List.set_cons_succ, List.getElem_toArray, List.getElem_cons_zero, List.getElem_cons_succ]
  refine wpAnyH_take (i := 2) (v := (.int .i64 v.x)) rfl (by kernel_rfl) (by kernel_rfl) (by kernel_rfl) (fun _ _ _ h => h) (Or.inl ⟨by rfl, fun w hw => by obtain ⟨x, rfl⟩ := hw; go_simp⟩) hS ?_
  try simp only [Act.put, List.setIfInBounds_toArray, List.set_cons_zero, List.set_cons_succ, List.getElem_toArray, List.getElem_cons_zero, List.getElem_cons_succ]
  refine wpAnyH_take (i := 3) (v := (.int .i64 m)) rfl (by kernel_rfl) (by kernel_rfl) (by kernel_rfl) (fun _ _ _ h => h) (Or.inl ⟨by rfl, fun w hw => by obtain ⟨x, rfl⟩ := hw; go_simp⟩) hS ?_
  try simp only [Act.put, List.setIfInBounds_toArray, List.set_cons_zero, List.set_cons_succ, List.getElem_toArray, List.getElem_cons_zero, List.getElem_cons_succ]
  refine wpAnyH_take (i := 4) (v := (.int .i64 M)) rfl (by kernel_rfl) (by kernel_rfl) (by kernel_rfl) (fun _ _ _ h => h) (Or.inl ⟨by rfl, fun w hw => by obtain ⟨x, rfl⟩ := hw; go_simp⟩) hS ?_
  try simp only [Act.put, List.setIfInBounds_toArray, List.set_cons_zero, List.set_cons_succ, List.getElem_toArray, List.getElem_cons_zero, List.getElem_cons_succ]
  refine wpAnyH_take (i := 6) (v := (.func (.func 56) #[] #[.pointer (some ⟨w.heap.size + 1 + 1, 0, none⟩)])) rfl (by kernel_rfl) (by kernel_rfl) (by kernel_rfl) (fun _ _ _ h => h) (Or.inl ⟨by rfl, fun w hw => by obtain ⟨x, rfl⟩ := hw; go_simp⟩) hS ?_
  try simp only [Act.put, List.setIfInBounds_toArray, List.set_cons_zero, List.set_cons_succ, List.getElem_toArray, List.getElem_cons_zero, List.getElem_cons_succ]
  refine wpAnyH_take (i := 7) (v := (.pointer (some ⟨w.heap.size, 1, none⟩))) rfl (by kernel_rfl) (by kernel_rfl) (by kernel_rfl) (fun _ _ _ h => h) (Or.inl ⟨by rfl, fun w hw => by obtain ⟨x, rfl⟩ := hw; go_simp⟩) hS ?_
  try simp only [Act.put, List.setIfInBounds_toArray, List.set_cons_zero, List.set_cons_succ, List.getElem_toArray, List.getElem_cons_zero, List.getElem_cons_succ]
  refine wpAnyH_take (i := 8) (v := (.int .i64 v.y)) rfl (by kernel_rfl) (by kernel_rfl) (by kernel_rfl) (fun _ _ _ h => h) (Or.inl ⟨by rfl, fun w hw => by obtain ⟨x, rfl⟩ := hw; go_simp⟩) hS ?_
  try simp only [Act.put, List.setIfInBounds_toArray, List.set_cons_zero, List.set_cons_succ, List.getElem_toArray, List.getElem_cons_zero, List.getElem_cons_succ]
  refine wpAnyH_take (i := 9) (v := (.int .i64 k)) rfl (by kernel_rfl) (by kernel_rfl) (by kernel_rfl) (fun _ _ _ h => h) (Or.inl ⟨by rfl, fun w hw => by obtain ⟨x, rfl⟩ := hw; go_simp⟩) hS ?_
  try simp only [Act.put, List.setIfInBounds_toArray, List.set_cons_zero, List.set_cons_succ, List.getElem_toArray, List.getElem_cons_zero, List.getElem_cons_succ]
  refine wpAnyH_take (i := 10) (v := (.int .i64 K8)) rfl (by kernel_rfl) (by kernel_rfl) (by kernel_rfl) (fun _ _ _ h => h) (Or.inl ⟨by rfl, fun w hw => by obtain ⟨x, rfl⟩ := hw; go_simp⟩) hS ?_
  try simp only [Act.put, List.setIfInBounds_toArray, List.set_cons_zero, List.set_cons_succ, List.getElem_toArray, List.getElem_cons_zero, List.getElem_cons_succ]
  refine wpAnyH_take (i := 12) (v := (.func (.func 56) #[] #[.pointer (some ⟨w.heap.size + 1 + 1, 0, none⟩)])) rfl (by kernel_rfl) (by kernel_rfl) (by kernel_rfl) (fun _ _ _ h => h) (Or.inl ⟨by rfl, fun w hw => by obtain ⟨x, rfl⟩ := hw; go_simp⟩) hS ?_
  try simp only [Act.put, List.setIfInBounds_toArray, List.set_cons_zero, List.set_cons_succ, List.getElem_toArray, List.getElem_cons_zero, List.getElem_cons_succ]
  refine wpAnyH_take (i := 13) (v := (.pointer (some ⟨w.heap.size, 2, none⟩))) rfl (by kernel_rfl) (by kernel_rfl) (by kernel_rfl) (fun _ _ _ h => h) (Or.inl ⟨by rfl, fun w hw => by obtain ⟨x, rfl⟩ := hw; go_simp⟩) hS ?_
  try simp only [Act.put, List.setIfInBounds_toArray, List.set_cons_zero, List.set_cons_succ, List.getElem_toArray, List.getElem_cons_zero, List.getElem_cons_succ]
  refine wpAnyH_take (i := 14) (v := (.int .i64 v.z)) rfl (by kernel_rfl) (by kernel_rfl) (by kernel_rfl) (fun _ _ _ h => h) (Or.inl ⟨by rfl, fun w hw => by obtain ⟨x, rfl⟩ := hw; go_simp⟩) hS ?_
  try simp only [Act.put, List.setIfInBounds_toArray, List.set_cons_zero, List.set_cons_succ, List.getElem_toArray, List.getElem_cons_zero, List.getElem_cons_succ]
  refine wpAnyH_take (i := 16) (v := (.pointer (some ⟨w.heap.size, 4, none⟩))) rfl (by kernel_rfl) (by kernel_rfl) (by kernel_rfl) (fun _ _ _ h => h) (Or.inl ⟨by rfl, fun w hw => by obtain ⟨x, rfl⟩ := hw; go_simp⟩) hS ?_
  try simp only [Act.put, List.setIfInBounds_toArray, List.set_cons_zero, List.set_cons_succ, List.getElem_toArray, List.getElem_cons_zero, List.getElem_cons_succ]
  refine wpAnyH_take (i := 17) (v := (.agg #[.int .i64 v.a, .int .i64 v.b, .int .i64 v.c, .int .i64 v.d])) rfl (by kernel_rfl) (by kernel_rfl) (by kernel_rfl) (fun _ _ _ h => h) (Or.inl ⟨by rfl, fun w hw => by obtain ⟨x, rfl⟩ := hw; go_simp⟩) hS ?_
  try simp only [Act.put, List.setIfInBounds_toArray, List.set_cons_zero, List.set_cons_succ, List.getElem_toArray, List.getElem_cons_zero, List.getElem_cons_succ]
  refine wpAnyH_ready (rs := [5]) (by kernel_rfl) (by simp) ?_
  refine AllReadyH.cons rfl (fun K hK => ?_) AllReadyH.nil
  go_simp
  with_reducible refine (CX.out _ c0.out).mono ?_
  rintro e t1 ⟨rfl, hb⟩
  have B1 := Lib.hid (bstep B0.out B0.out.size hb)
  have c1 := Lib.hid (show t1.cell? ⟨w.heap.size + 1 + 1, 0, none⟩ = some (.int .i64 v.w) from (hb.cell (World.block_lt_of_cell? _ _ c0.out)).trans c0.out)
  have r1 := Lib.hid (show t1.heap[w.heap.size + 1]? = some (.cells #[.int .i64 0, .int .i64 0, .int .i64 0, .int .i64 0, .int .i64 0, .int .i64 0, .int .i64 0] 37 (0, 0)) from (hb.block _ (Array.getElem?_eq_some_iff.1 r0.out).1).trans r0.out)
  clear hb c0 r0
  refine hK.out _ _ ⟨⟨_, B1.out⟩, rfl⟩ (fun hS => ?_)
  clear hK K
  try simp only [Act.put, List.setIfInBounds_toArray, List.set_cons_zero, List.set_cons_succ, List.getElem_toArray, List.getElem_cons_zero, List.getElem_cons_succ]
  refine wpAnyH_ready (rs := [11]) (by kernel_rfl) (by simp) ?_
  refine AllReadyH.cons rfl (fun K hK => ?_) AllReadyH.nil
  go_simp
  with_reducible refine (CY.out _ c1.out).mono ?_
  rintro e t2 ⟨rfl, hb⟩
  have B2 := Lib.hid (bstep B1.out B1.out.size hb)
  have c2 := Lib.hid (show t2.cell? ⟨w.heap.size + 1 + 1, 0, none⟩ = some (.int .i64 v.w) from (hb.cell (World.block_lt_of_cell? _ _ c1.out)).trans c1.out)
  have r2 := Lib.hid (show t2.heap[w.heap.size + 1]? = some (.cells #[.int .i64 0, .int .i64 0, .int .i64 0, .int .i64 0, .int .i64 0, .int .i64 0, .int .i64 0] 37 (0, 0)) from (hb.block _ (Array.getElem?_eq_some_iff.1 r1.out).1).trans r1.out)
  clear hb c1 r1
  refine hK.out _ _ ⟨⟨_, B2.out⟩, rfl⟩ (fun hS => ?_)
  clear hK K
  try simp only [Act.put, List.setIfInBounds_toArray, List.set_cons_zero, List.set_cons_succ, List.getElem_toArray, List.getElem_cons_zero, List.getElem_cons_succ]
  refine wpAnyH_ready (rs := [15]) (by kernel_rfl) (by simp) ?_
  refine AllReadyH.cons rfl (fun K hK => ?_) AllReadyH.nil
  go_simp
  with_reducible refine (CZ.out _ c2.out).mono ?_
  rintro e t3 ⟨rfl, hb⟩
  have B3 := Lib.hid (bstep B2.out B2.out.size hb)
  have c3 := Lib.hid (show t3.cell? ⟨w.heap.size + 1 + 1, 0, none⟩ = some (.int .i64 v.w) from (hb.cell (World.block_lt_of_cell? _ _ c2.out)).trans c2.out)
  have r3 := Lib.hid (show t3.heap[w.heap.size + 1]? = some (.cells #[.int .i64 0, .int .i64 0, .int .i64 0, .int .i64 0, .int .i64 0, .int .i64 0, .int .i64 0] 37 (0, 0)) from (hb.block _ (Array.getElem?_eq_some_iff.1 r2.out).1).trans r2.out)
  clear hb c2 r2
  refine hK.out _ _ ⟨⟨_, B3.out⟩, rfl⟩ (fun hS => ?_)
  clear hK K
  try simp only [Act.put, List.setIfInBounds_toArray, List.set_cons_zero, List.set_cons_succ, List.getElem_toArray, List.getElem_cons_zero, List.getElem_cons_succ]
  refine wpAnyH_take (i := 18) (v := (.agg #[.int .i64 X, .int .i64 Y, .int .i64 Z, .int .i64 v.a, .int .i64 v.b, .int .i64 v.c, .int .i64 v.d])) rfl (by kernel_rfl) (by kernel_rfl) (by kernel_rfl) (fun _ _ _ h => h) (Or.inl ⟨by rfl, fun w hw => by obtain ⟨x, rfl⟩ := hw; go_simp⟩) hS ?_
  try simp only [Act.put, List.setIfInBounds_toArray, List.set_cons_zero, List.set_cons_succ, List.getElem_toArray, List.getElem_cons_zero, List.getElem_cons_succ]
  obtain ⟨q0, q1, q2, q3, q4, q5, q6, f0, f1, f2, f3, f4, f5, f6⟩ := zP_cell r3.out
  refine wpAnyH_ready (rs := [19]) (by kernel_rfl) (by simp) ?_
  refine AllReadyH.cons rfl (fun K hK => ?_) AllReadyH.nil
  go_simp
  refine hK.out _ _ ⟨⟨_, ((((((B3.out.setCell G2.out _).setCell G2.out _).setCell G2.out _).setCell G2.out _).setCell G2.out _).setCell G2.out _).setCell G2.out _⟩, rfl⟩ (fun hS => ?_)
  clear hK K
  try simp only [Act.put, List.setIfInBounds_toArray, List.set_cons_zero, List.set_cons_succ, List.getElem_toArray, List.getElem_cons_zero, List.getElem_cons_succ]
  refine wpAnyH_ready (rs := [20]) (by kernel_rfl) (by simp) ?_
  refine AllReadyH.cons rfl (fun K hK => ?_) AllReadyH.nil
  go_simp
  refine hK.out _ _ ⟨⟨_, ((((((B3.out.setCell G2.out _).setCell G2.out _).setCell G2.out _).setCell G2.out _).setCell G2.out _).setCell G2.out _).setCell G2.out _⟩, rfl⟩ (fun hS => ?_)
  clear hK K hS
  try simp only [Act.put, List.setIfInBounds_toArray, List.set_cons_zero, List.set_cons_succ, List.getElem_toArray, List.getElem_cons_zero, List.getElem_cons_succ]
  refine wpAnyH_done (by kernel_rfl) ?_ _
  go_wp2
  refine bodyPost_ret (v := .tuple #[.agg #[.int .i64 X, .int .i64 Y, .int .i64 Z, .int .i64 v.a, .int .i64 v.b, .int .i64 v.c, .int .i64 v.d], .bool true]) (by simp [results, Try.results45, go_sem, *]) rfl ⟨rfl, ?_⟩
  exact bstep BW.out G3.out (((((((B3.out.setCell G2.out _).setCell G2.out _).setCell G2.out _).setCell G2.out _).setCell G2.out _).setCell G2.out _).setCell G2.out _)

/-- What is put onto a screen by a closure that keeps it. -/
theorem put_any (v : V) (m k : Int) (bs bw bh : Nat) (w : World) (hv : v.sm) (hs : w.cell? ⟨bs, 0, none⟩ = some (.bool (scr m k))) (hm : w.cell? ⟨bw, 0, none⟩ = some (.int .i64 m)) (hk : w.cell? ⟨bh, 0, none⟩ = some (.int .i64 k)) :
    Calls Try.prog 45 #[.agg #[.int .i64 v.x, .int .i64 v.y, .int .i64 v.z, .int .i64 v.w, .int .i64 v.a, .int .i64 v.b, .int .i64 v.c, .int .i64 v.d], .pointer (some ⟨bs, 0, none⟩), .pointer (some ⟨bw, 0, none⟩), .pointer (some ⟨bh, 0, none⟩)] w fun e w' => e = .returned (.tuple #[.agg #[.int .i64 (ptO m k v).x, .int .i64 (ptO m k v).y, .int .i64 (ptO m k v).z, .int .i64 (ptO m k v).a, .int .i64 (ptO m k v).b, .int .i64 (ptO m k v).c, .int .i64 (ptO m k v).d], .bool (okP m k v)]) ∧ Below w.heap.size w w' := by
  cases h : okP m k v
  · have e : ptO m k v = pz := by unfold ptO; rw [if_neg (by simp [h])]
    rw [e]
    exact put_no v (scr m k) bs bw bh w hs h
  · have e : ptO m k v = pt m k v := by unfold ptO; rw [if_pos h]
    rw [e]
    unfold okP scr sideB at h
    simp only [Bool.and_eq_true, decide_eq_true_eq] at h
    have hs' : w.cell? ⟨bs, 0, none⟩ = some (.bool true) := by
      rw [hs]; unfold scr sideB; simp [h.1.1.1, h.1.1.2, h.1.2.1, h.1.2.2]
    exact put_yes v m k bs bw bh w hv hs' hm hk h.2 h.1.1.1 h.1.1.2 h.1.2.1 h.1.2.2
end Go.Proofs.Ytfdlfjecgefgfaa.C
