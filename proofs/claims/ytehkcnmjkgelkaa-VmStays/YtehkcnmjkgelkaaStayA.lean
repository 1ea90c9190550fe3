/-
  Appending a program to a row; arrays of bools; what the loops of VmStays write.
-/
import Derived.Test.YtehkcnmjkgelkaaStraight
import Derived.Test.YtehkcnmjkgelkaaRRun
import Derived.Laws.OwnMore
namespace Go.Proofs.Ytehkcnmjkgelkaa
open Go.RowKit C

theorem ownI_flat {w : World} {base g n c : Nat} {xs : List In} (h : OwnE EI w base (.slice (some ⟨g, 0, none⟩) n c) xs) : ∀ j u, (EI.flat xs)[j]? = some u → w.cell? ((⟨g, 0, none⟩ : Addr).add j) = some u := by
  obtain ⟨hl, ⟨h0, _⟩ | ⟨g', cap, cur, e', hg, hh, hc, hm, hs, ht⟩⟩ := h
  · cases h0
  · cases e'
    intro j u hj
    have hjl : j < xs.length * EI.size := by
      rcases Nat.lt_or_ge j (EI.flat xs).length with h | h
      · rw [EI.flat_length] at h; exact h
      · rw [List.getElem?_eq_none h] at hj; cases hj
    have ha : (⟨g, 0, none⟩ : Addr).add j = ⟨g, j, none⟩ := by unfold Addr.add; split <;> simp_all
    rw [ha, cell_of_row w g j cur EI.t (0, 0) hh, ← hj, ← ht, List.getElem?_take_of_lt hjl, Array.getElem?_toList]
theorem flat_below {w w' : World} {B g : Nat} {fs : List Value} (h : ∀ j u, fs[j]? = some u → w.cell? ((⟨g, 0, none⟩ : Addr).add j) = some u) (hb : Below B w w') (hg : g < B) : ∀ j u, fs[j]? = some u → w'.cell? ((⟨g, 0, none⟩ : Addr).add j) = some u := by
  intro j u hj
  have ha : (⟨g, 0, none⟩ : Addr).add j = ⟨g, j, none⟩ := by unfold Addr.add; split <;> simp_all
  have := h j u hj
  rw [ha] at this ⊢
  exact (hb.cell (p := ⟨g, j, none⟩) hg).trans this
theorem own_lt {w : World} {base j : Nat} {v : Value} {xs : List In} (h : OwnE EI w base v xs) (e : v.ownBlock = some j) : j < w.heap.size := by
  obtain ⟨hl, ⟨rfl, h0⟩ | ⟨g', cap, cur, rfl, hg, hh, hr⟩⟩ := h
  · simp [Value.ownBlock] at e
  · obtain rfl : g' = j := by simpa [Value.ownBlock] using e
    exact (Array.getElem?_eq_some_iff.1 hh).1
theorem opw_appendI {o : Oper} {k : Act} {w : World} {K : Act → World → Prop} {R : Exit → Act → World → Prop} (s x : Operand) (base : Nat) (v : Value) (xs ys : List In) (gx n cx : Nat)
    (ho : o.op = .call { callee := .builtin .append, args := #[s, x], argTypes := #[22, 22] }) (hs : k.eval s = v) (hx : k.eval x = .slice (some ⟨gx, 0, none⟩) n cx)
    (hown : OwnE EI w base v xs) (hu : ∀ j c, (EI.flat ys)[j]? = some c → w.cell? ((⟨gx, 0, none⟩ : Addr).add j) = some c) (hy : ys.length = n) (hn : xs.length ≤ 100) (hn2 : n ≤ 100) (hbase : base ≤ w.heap.size)
    (h : ∀ v' w', OwnE EI w' base v' (xs ++ ys) → Below base w w' → (∀ b ob, w.heap[b]? = some ob → v.ownBlock ≠ some b → w'.heap[b]? = some ob ∧ v'.ownBlock ≠ some b) → K (k.put o.dst v') w') : o.wp Try.prog k w K R := by
  obtain ⟨i0, hi, hz0, hz1, hz2⟩ := info_parts Try.info45
  obtain ⟨v', w', hr, h2, h3, -, h5⟩ := run_append_own_at (P := Try.prog) w base 22 o.type 45 i0 _ 5 16 Try.underlying22 hi hz0 hz1 hz2 (by kernel_rfl) (by decide) v xs.length (EI.flat xs) hown.row ⟨gx, 0, none⟩ n cx (EI.flat ys) (by rw [EI.flat_length, hy]; rfl) hu (EI.flat_one ys) (by unfold maxLen; omega) (by omega) hbase
  unfold Oper.wp execOp
  simp only [ho, resolve, invoke, builtin, Sem.run_bind, Sem.run_pure, Result.andThen_ok, List.map_toArray, List.map_cons, List.map_nil, hs, hx, hr]
  refine h v' w' ?_ ((Below.refl base w).grown h3 hbase fun j ej => ownE_ge hown j ej) fun b ob hb hne => ⟨?_, fun e => ?_⟩
  · unfold OwnE
    rw [List.length_append, EI.flat_append, hy]
    exact h2
  · rw [h3.block b (Array.getElem?_eq_some_iff.1 hb).1 (fun e => hne e.symm)]
    exact hb
  · rcases h5 with h5 | h5
    · exact hne (h5 ▸ e)
    · rw [h5] at e
      have := (Array.getElem?_eq_some_iff.1 hb).1
      simp at e
      omega

/-- The cells of eight bools, and a block of them. -/
def TB (f : List Bool) : Obj := .cells (f.map fun b => Value.bool b).toArray 43
theorem TB_cell {w : World} {g k : Nat} {f : List Bool} (h : w.heap[g]? = some (TB f)) (hk : k < f.length) : w.cell? ⟨g, k, none⟩ = some (.bool (f.getD k false)) := by
  rw [cell_of_row w g k _ 43 (0, 0) h, List.getElem?_toArray, List.getElem?_map, List.getD_eq_getElem?_getD, List.getElem?_eq_getElem hk]
  rfl
theorem TB_free {w : World} {g : Nat} {f : List Bool} (h : w.heap[g]? = some (TB f)) (k : Nat) : w.frozen? ⟨g, k, none⟩ = false := by
  unfold TB at h
  simp [World.frozen?, h]
theorem TB_set {w : World} {g k : Nat} {f : List Bool} (v : Bool) (h : w.heap[g]? = some (TB f)) : (w.setCell ⟨g, k, none⟩ (.bool v)).heap[g]? = some (TB (f.set k v)) := by
  unfold TB at h
  rw [heap_setCell_same _ _ _ _ _ _ h]
  unfold TB
  rw [List.map_set]
  simp
/-- The registers that the first instructions tell. -/
def tolds (p : List In) : List Bool := p.foldl (fun f x => f.set x.d.toNat true) (List.replicate 8 false)
theorem tolds_snoc {p : List In} {j : Nat} {x : In} (h : p[j]? = some x) : tolds (p.take (j + 1)) = (tolds (p.take j)).set x.d.toNat true := by
  unfold tolds
  rw [List.take_add_one, h, List.foldl_append]
  rfl
theorem foldl_len (p : List In) : ∀ f : List Bool, (p.foldl (fun f x => f.set x.d.toNat true) f).length = f.length := by
  induction p with
  | nil => intro f; rfl
  | cons x p ih => intro f; rw [List.foldl_cons, ih, List.length_set]
theorem tolds_len (p : List In) : (tolds p).length = 8 := by unfold tolds; rw [foldl_len]; rfl
theorem foldl_true (p : List In) (j : Nat) : ∀ f : List Bool, f.getD j false = true → (p.foldl (fun f x => f.set x.d.toNat true) f).getD j false = true := by
  induction p with
  | nil => intro f h; exact h
  | cons x p ih =>
    intro f h
    rw [List.foldl_cons]
    refine ih _ ?_
    rw [List.getD_eq_getElem?_getD] at h ⊢
    rw [List.getElem?_set]
    have hj : j < f.length := by
      rcases Nat.lt_or_ge j f.length with h' | h'
      · exact h'
      · rw [List.getElem?_eq_none h'] at h; cases h
    split
    · rename_i e
      subst e
      rw [if_pos hj]
      rfl
    · exact h
theorem tolds_no {p : List In} {j : Nat} (h8 : j < 8) (h : (tolds p).getD j false = false) : ∀ x ∈ p, x.d.toNat ≠ j := by
  unfold tolds at h
  have key : ∀ (p : List In) (f : List Bool), f.length = 8 → (p.foldl (fun f x => f.set x.d.toNat true) f).getD j false = false → ∀ x ∈ p, x.d.toNat ≠ j := by
    intro p
    induction p with
    | nil => intro f _ _ x hx; cases hx
    | cons y p ih =>
      intro f hf hh x hx e
      rw [List.foldl_cons] at hh
      rcases List.mem_cons.1 hx with rfl | hx
      · have := foldl_true p j (f.set x.d.toNat true) (by rw [e, List.getD_eq_getElem?_getD, List.getElem?_set_self (by omega)]; rfl)
        rw [this] at hh
        cases hh
      · exact ih _ (by rw [List.length_set]; exact hf) hh x hx e
  exact key p _ rfl h
/-- Numbers that are more by 2^32. -/
def up32 (n : Int) : Int := IntKind.i64.wrap (n + 4294967296)
def mores (R : List Int) (j : Nat) : List Int := (R.take j).map up32 ++ zero8.drop j
theorem mores_len {R : List Int} (h : R.length = 8) {j : Nat} (hj : j ≤ 8) : (mores R j).length = 8 := by
  unfold mores
  rw [List.length_append, List.length_map, List.length_take, List.length_drop, h]
  show min j 8 + (8 - j) = 8
  omega
theorem mores_set {R : List Int} (h : R.length = 8) {j : Nat} (hj : j < 8) : (mores R j).set j (up32 (R.getD j 0)) = mores R (j + 1) := by
  match R, h with
  | [a0, a1, a2, a3, a4, a5, a6, a7], _ =>
    have hw : j = 0 ∨ j = 1 ∨ j = 2 ∨ j = 3 ∨ j = 4 ∨ j = 5 ∨ j = 6 ∨ j = 7 := by omega
    rcases hw with rfl | rfl | rfl | rfl | rfl | rfl | rfl | rfl <;> rfl
theorem mores_all {R : List Int} (h : R.length = 8) : mores R 8 = R.map up32 := by
  match R, h with
  | [a0, a1, a2, a3, a4, a5, a6, a7], _ => rfl
theorem up_w32 (R : List Int) : (R.map up32).map w32 = R.map w32 := by
  rw [List.map_map]
  exact List.map_congr_left fun n _ => w32_more n
end Go.Proofs.Ytehkcnmjkgelkaa
