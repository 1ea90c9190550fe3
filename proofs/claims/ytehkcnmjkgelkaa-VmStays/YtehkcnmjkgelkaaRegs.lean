/-
  Blocks that hold registers; the contracts of wrapped, of the two closures that write registers, and of the reference's Wrap.
-/
import Derived.Test.YtehkcnmjkgelkaaMach
import Derived.Test.YtehkcnmjkgelkaaFit
namespace Go.Proofs.Ytehkcnmjkgelkaa
open Go.RowKit C
attribute [local go_sem ↓] Go.wp_at_zero Go.wp_at_succ

/-- The cells of registers, and a block of them. -/
def regC (L : List Int) : Array Value := (L.map fun n => Value.int .i64 n).toArray
def RB (L : List Int) : Obj := .cells (regC L) 26 (0, 0)
theorem RB_cell {w : World} {g k : Nat} {L : List Int} (h : w.heap[g]? = some (RB L)) (hk : k < L.length) : w.cell? ⟨g, k, none⟩ = some (.int .i64 (L.getD k 0)) := by
  rw [cell_of_row w g k (regC L) 26 (0, 0) h]
  unfold regC
  rw [List.getElem?_toArray, List.getElem?_map, List.getD_eq_getElem?_getD, List.getElem?_eq_getElem hk]
  rfl
theorem RB_free {w : World} {g : Nat} {L : List Int} (h : w.heap[g]? = some (RB L)) (k : Nat) : w.frozen? ⟨g, k, none⟩ = false := by
  unfold RB at h
  simp [World.frozen?, h]
theorem RB_set {w : World} {g k : Nat} {L : List Int} (v : Int) (h : w.heap[g]? = some (RB L)) : (w.setCell ⟨g, k, none⟩ (.int .i64 v)).heap[g]? = some (RB (L.set k v)) := by
  unfold RB at h
  rw [heap_setCell_same _ _ _ _ _ _ h]
  unfold RB regC
  rw [List.map_set]
  simp
theorem RB_lt {w : World} {g : Nat} {L : List Int} (h : w.heap[g]? = some (RB L)) : g < w.heap.size := (Array.getElem?_eq_some_iff.1 h).1
/-- Numbers in a block of their own. -/
theorem ints_at {w : World} {b t : Nat} {xs : List Int} (h : w.heap[b]? = some (.cells (regC xs) t)) {j : Nat} {u : Int} (hj : xs[j]? = some u) : w.cell? ⟨b, 0 + j, none⟩ = some (.int .i64 u) := by
  rw [cell_of_row w b (0 + j) (regC xs) t (0, 0) h]
  unfold regC
  rw [List.getElem?_toArray, List.getElem?_map, Nat.zero_add, hj]
  rfl
/-- Worlds that differ in one block alone. -/
structure Only (g : Nat) (w w' : World) : Prop where
  blk : ∀ k, k ≠ g → w'.heap[k]? = w.heap[k]?
  below : ∀ base, base ≤ g → Below base w w'
theorem Only.refl (g : Nat) (w : World) : Only g w w := ⟨fun _ _ => rfl, fun b _ => Below.refl b w⟩
theorem Only.trans {g : Nat} {a b c : World} (h : Only g a b) (k : Only g b c) : Only g a c := ⟨fun j hj => (k.blk j hj).trans (h.blk j hj), fun base hb => (h.below base hb).trans (k.below base hb)⟩
theorem Only.setCell {g : Nat} {a b : World} (h : Only g a b) (o : Nat) (v : Value) : Only g a (b.setCell ⟨g, o, none⟩ v) :=
  ⟨fun j hj => (heap_setCell_other _ _ _ _ (fun e => hj e)).trans (h.blk j hj), fun base hb => (h.below base hb).setCell (p := ⟨g, o, none⟩) hb v⟩
theorem Only.cell {g : Nat} {a b : World} (h : Only g a b) {k o : Nat} (hk : k ≠ g) : b.cell? ⟨k, o, none⟩ = a.cell? ⟨k, o, none⟩ := by
  unfold World.cell?
  rw [h.blk k hk]
theorem getR {l : List Int} {k : Nat} (h : k < l.length) : ∃ u, l[k]? = some u := ⟨_, List.getElem?_eq_getElem h⟩

theorem wrapped_any (n : Int) (w : World) :
    Calls Try.prog 24 #[.int .i64 n] w fun e w' => e = .returned (.int .i64 (w32 n)) ∧ w = w' := by
  have h1 : IntKind.i32.wrap n = w32 n := w32_eq n
  have h2 := i64_w32 n
  generalize w32 n = m at *
  go_enter Try.func24, Try.ntmps24
  go_wp2
  go_ret
  exact ⟨rfl, rfl⟩
theorem rwrap32_any (n : Int) (hn : I64 n) (w : World) :
    Calls Try.prog 33 #[.int .i64 n] w fun e w' => e = .returned (.int .i64 (w32 n)) ∧ w = w' := by
  have hw := emod_ways n 4294967296 (by decide)
  have hp := Int.lt_tmod_of_pos n (show (0 : Int) < 4294967296 by decide)
  have hq := Int.tmod_lt_of_pos n (show (0 : Int) < 4294967296 by decide)
  obtain ⟨k, hk⟩ : ∃ k, n.tmod 4294967296 = k := ⟨_, rfl⟩
  rw [hk] at hw hp hq
  obtain ⟨m, hm⟩ : ∃ m, w32 n = m := ⟨_, rfl⟩
  have HN := Lib.hid hn
  have g0 : IntKind.i64.wrap k = k := by rw [IntKind.wrap_i64]; omega
  have g1 : IntKind.i64.wrap (k + 4294967296) = k + 4294967296 := by rw [IntKind.wrap_i64]; omega
  have g2 : IntKind.i64.wrap (k + 4294967296 - 4294967296) = k := by rw [IntKind.wrap_i64]; omega
  have g3 : IntKind.i64.wrap (k - 4294967296) = k - 4294967296 := by rw [IntKind.wrap_i64]; omega
  rw [hm]
  unfold w32 at hm
  have hc : (k < 0 ∧ k + 4294967296 < 2147483648 ∧ m = k + 4294967296) ∨ (k < 0 ∧ ¬ k + 4294967296 < 2147483648 ∧ m = k) ∨ (¬ k < 0 ∧ k < 2147483648 ∧ m = k) ∨ (¬ k < 0 ∧ ¬ k < 2147483648 ∧ m = k - 4294967296) := by omega
  clear hw hp hq hm hn
  rcases hc with ⟨h, h2, rfl⟩ | ⟨h, h2, rfl⟩ | ⟨h, h2, rfl⟩ | ⟨h, h2, rfl⟩
  · have h3 : ¬ 2147483648 ≤ k + 4294967296 := by omega
    go_enter Try.func33, Try.ntmps33
    go_wp2_with fail
    go_ret
    exact ⟨rfl, rfl⟩
  · have h3 : 2147483648 ≤ m + 4294967296 := by omega
    go_enter Try.func33, Try.ntmps33
    go_wp2_with fail
    go_ret
    exact ⟨rfl, rfl⟩
  · have h3 : ¬ 2147483648 ≤ m := by omega
    go_enter Try.func33, Try.ntmps33
    go_wp2_with fail
    go_ret
    exact ⟨rfl, rfl⟩
  · have h3 : 2147483648 ≤ k := by omega
    go_enter Try.func33, Try.ntmps33
    go_wp2_with fail
    go_ret
    exact ⟨rfl, rfl⟩

set_option maxRecDepth 100000 in
set_option maxHeartbeats 1000000 in
theorem put_any (d : Nat) (xs : List Int) (b off c g : Nat) (L : List Int) (hL : L.length = 8) (hd : d + xs.length ≤ 8) (w : World) (hg : w.heap[g]? = some (RB L)) (hne : b ≠ g)
    (hx : ∀ (j : Nat) u, xs[j]? = some u → w.cell? ⟨b, off + j, none⟩ = some (.int .i64 u)) :
    Calls Try.prog 23 #[.int .u8 d, .slice (some ⟨b, off, none⟩) xs.length c, .pointer (some ⟨g, 0, none⟩)] w fun e w' => e = .returned (.tuple #[]) ∧ Only g w w' ∧ w'.heap[g]? = some (RB (putL L d xs)) := by
  have HX := Lib.hid hx
  have HL := Lib.hid (fun (k : Nat) (h : k < xs.length) => getR h)
  have HP := Lib.hid (fun (j : Nat) (u : Int) (h : xs[j]? = some u) => putL_snoc xs L d j u h)
  have HN := Lib.hid (fun (j : Nat) => show (putL L d (xs.take j)).length = 8 by rw [putL_length, hL])
  have HE := Lib.hid (show putL L d (xs.take xs.length) = putL L d xs by rw [List.take_length])
  have HO0 := Lib.hid (Only.refl g w)
  have HG0 := Lib.hid hg
  clear hx hg hL
  generalize xs.length = n at *
  go_enter Try.func23, Try.ntmps23
  go_wp2_with fail
  go_loopw [9] (fun i wr => ∃ j : Nat, j ≤ n ∧ i = .int .i64 j ∧ Only g w wr ∧ wr.heap[g]? = some (RB (putL L d (xs.take j)))) (fun i _ => n - (intOf i).toNat)
  case atStart => exact ⟨0, Nat.zero_le _, rfl, HO0.out, HG0.out⟩
  case round =>
    obtain ⟨j, hj, rfl, ho, hb⟩ := hrel
    have HO := Lib.hid ho
    have HB := Lib.hid hb
    clear ho hb
    by_cases hlt : j < n
    · obtain ⟨u, hu⟩ := HL.out j hlt
      have hc := HX.out j u hu
      have hc2 : wr.cell? ⟨b, off + j, none⟩ = some (.int .i64 u) := (HO.out.cell hne).trans hc
      have HW := Lib.hid (fun w' => wrapped_any u w')
      have HS := Lib.hid (HP.out j u hu)
      have hn := HN.out j
      generalize putL L d (xs.take j) = M at *
      obtain ⟨v, hv⟩ : ∃ v, w32 u = v := ⟨_, rfl⟩
      rw [hv] at HW HS
      have hf := RB_free HB.out (d + j)
      have hcell := RB_cell HB.out (k := d + j) (by omega)
      have hblk := Lib.hid (RB_set (k := d + j) v HB.out)
      have honly := Lib.hid (HO.out.setCell (d + j) (.int .i64 v))
      have hdj : d + j < 8 := by omega
      clear hc hu hv
      go_wp2_with (go_at_call 24; (with_reducible refine (HW.out _).mono ?_); rintro e w' ⟨rfl, rfl⟩)
      go_roundw
      case rel => exact ⟨j + 1, by omega, by go_num, honly.out, by rw [HS.out]; exact hblk.out⟩
      case measure => simp [intOf]; omega
    · obtain rfl : j = n := by omega
      go_wp2_with fail
      go_end0
      exact ⟨rfl, HO.out, by rw [← HE.out]; exact HB.out⟩
theorem enters23 (args : Array Value) (w : World) : (callFunc 23 args).run Try.prog w = .ok (.enter 23 args) w := by go_simp
theorem enters25 (args : Array Value) (w : World) : (callFunc 25 args).run Try.prog w = .ok (.enter 25 args) w := by go_simp
/-- The block that holds the closure which writes the registers of block g. -/
def PB (g : Nat) : Obj := .cells #[.func (.func 23) #[] #[.pointer (some ⟨g, 0, none⟩)]] 61 (0, 0)
theorem PB_cell {w : World} {p g : Nat} (h : w.heap[p]? = some (PB g)) : w.cell? ⟨p, 0, none⟩ = some (.func (.func 23) #[] #[.pointer (some ⟨g, 0, none⟩)]) := by
  unfold PB at h
  exact Joins.cell_of_block h 0
/-- Worlds that differ in one block, and in what is new. -/
structure Onlyw (g : Nat) (w w' : World) : Prop where
  blk : ∀ k, k ≠ g → k < w.heap.size → w'.heap[k]? = w.heap[k]?
  below : ∀ base, base ≤ g → Below base w w'
theorem Onlyw.size {g : Nat} {w w' : World} (h : Onlyw g w w') : w.heap.size ≤ w'.heap.size := (h.below 0 (Nat.zero_le _)).size
theorem Onlyw.trans {g : Nat} {a b c : World} (h : Onlyw g a b) (k : Onlyw g b c) : Onlyw g a c :=
  ⟨fun j hj hl => (k.blk j hj (Nat.lt_of_lt_of_le hl h.size)).trans (h.blk j hj hl), fun base hb => (h.below base hb).trans (k.below base hb)⟩
theorem Only.w {g : Nat} {w w' : World} (h : Only g w w') : Onlyw g w w' := ⟨fun j hj _ => h.blk j hj, h.below⟩
theorem onlyw_of {g : Nat} {w w' : World} (h : Below w.heap.size w w') (hg : g ≤ w.heap.size) : Onlyw g w w' := ⟨fun j _ hl => h.block j hl, fun base hb => h.mono (by omega)⟩
theorem Onlyw.keep {g k : Nat} {w w' : World} {o : Obj} (h : Onlyw g w w') (hk : k ≠ g) (e : w.heap[k]? = some o) : w'.heap[k]? = some o := (h.blk k hk (Array.getElem?_eq_some_iff.1 e).1).trans e
set_option maxHeartbeats 1000000 in
theorem tell_any (d : Nat) (c : Col) (hc : c.ok) (g p : Nat) (L : List Int) (hL : L.length = 8) (hd : d + 4 ≤ 8) (w : World) (hg : w.heap[g]? = some (RB L)) (hp : w.heap[p]? = some (PB g)) :
    Calls Try.prog 25 #[.int .u8 d, .agg #[.int .u8 c.r, .int .u8 c.g, .int .u8 c.b, .int .u8 c.a], .pointer (some ⟨p, 0, none⟩)] w fun e w' => e = .returned (.tuple #[]) ∧ Onlyw g w w' ∧ w'.heap[g]? = some (RB (putL L d (colL c))) := by
  have hpc := PB_cell hp
  have hgl := RB_lt hg
  have hpl : p < w.heap.size := (Array.getElem?_eq_some_iff.1 hp).1
  have en := enters23
  obtain ⟨⟨r0, r1⟩, ⟨g0, g1⟩, ⟨b0, b1⟩, ⟨a0, a1⟩⟩ := hc
  have HP := Lib.hid (fun W b (hb : b ≠ g) (h : W.heap[g]? = some (RB L)) hx => put_any d (colL c) b 0 4 g L hL hd W h hb hx)
  have HG := Lib.hid hg
  clear hg hp
  go_enter Try.func25, Try.ntmps25
  have hw2 : Below w.heap.size w ((w.alloc (.cells #[.int .u8 c.r, .int .u8 c.g, .int .u8 c.b, .int .u8 c.a] 38)).alloc (.cells #[.int .i64 c.r, .int .i64 c.g, .int .i64 c.b, .int .i64 c.a] 3)) := (new_below _ _).alloc (by simp) _
  have hx2 := new_at2 w (.cells #[.int .u8 c.r, .int .u8 c.g, .int .u8 c.b, .int .u8 c.a] 38) (.cells #[.int .i64 c.r, .int .i64 c.g, .int .i64 c.b, .int .i64 c.a] 3)
  go_wp2_with fail
  generalize (w.alloc (.cells #[.int .u8 c.r, .int .u8 c.g, .int .u8 c.b, .int .u8 c.a] 38)).alloc (.cells #[.int .i64 c.r, .int .i64 c.g, .int .i64 c.b, .int .i64 c.a] 3) = W at *
  have HW := Lib.hid (onlyw_of hw2 (Nat.le_of_lt hgl))
  have HX := Lib.hid (fun (j : Nat) (u : Int) (h : (colL c)[j]? = some u) => ints_at (xs := colL c) (b := w.heap.size + 1) (t := 3) hx2 h)
  have HGW := Lib.hid ((hw2.block g hgl).trans HG.out)
  clear hw2 hx2
  refine (HP.out W (w.heap.size + 1) (by omega) HGW.out HX.out).mono ?_
  rintro e w' ⟨rfl, ho, hb⟩
  have HO := Lib.hid (HW.out.trans ho.w)
  have HB := Lib.hid hb
  clear ho hb
  go_wp2_with fail
  go_end0
  exact ⟨rfl, HO.out, HB.out⟩
end Go.Proofs.Ytehkcnmjkgelkaa
