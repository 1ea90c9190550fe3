/-
  Slices that are cut; append of one at an operation of a region that draws its order.
-/
import Derived.Test.YtfheipejbdfjbaaRBy
import Derived.Test.YtfheipejbdfjbaaShown
import Derived.Test.YtfheipejbdfjbaaSame
import Derived.Test.YtfheipejbdfjbaaTurnP
namespace Go.Proofs.Ytfheipejbdfjbaa
open Go.RowKit

theorem cut_low {g n c k : Nat} (hk : k < c) (hn : k ≤ n) (w : World) : (Instr.sliceAt 22 (.slice (some ⟨g, 0, none⟩) n c) (some (.int .i64 (k : Int))) none none).run Try.prog w = .ok (.slice (some ⟨g, k * 8, none⟩) (n - k) (c - k)) w := by
  have h1 : (0 : Int) ≤ (k : Int) := by omega
  have h2 : (k : Int) ≤ (n : Int) := by omega
  have h3 : ¬ c = k := by omega
  have hu : Try.prog.underlying 22 = some (.slice (Try.prog.elem 22)) := by kernel_rfl
  rw [run_sliceAt_slice w 22 _ _ _ _ hu, run_slice_l w 22 _ _ _ hu .i64 (k : Int) h1 h2]
  have hs : (sizeOf (Try.prog.elem 22)).run Try.prog w = .ok 8 w := Try.sizeOf30 w
  rw [hs, Result.andThen_ok]
  simp [sliced, h3, addr_add]
theorem cut_high {g n c k : Nat} (hk : k ≤ c) (w : World) : (Instr.sliceAt 22 (.slice (some ⟨g, 0, none⟩) n c) none (some (.int .i64 (k : Int))) none).run Try.prog w = .ok (.slice (some ⟨g, 0, none⟩) k c) w := by
  have h1 : (0 : Int) ≤ (k : Int) := by omega
  have h2 : (k : Int) ≤ (c : Int) := by omega
  have hu : Try.prog.underlying 22 = some (.slice (Try.prog.elem 22)) := by kernel_rfl
  rw [run_sliceAt_slice w 22 _ _ _ _ hu, run_slice_h w 22 _ _ _ hu .i64 (k : Int) h1 h2]
  have hs : (sizeOf (Try.prog.elem 22)).run Try.prog w = .ok 8 w := Try.sizeOf30 w
  rw [hs, Result.andThen_ok]
  simp [sliced, addr_add]

theorem Vs.cutLow {w : World} {B g off k : Nat} {xs : List V} (h : Vs w B (some ⟨g, off, none⟩) xs) : Vs w B (some ⟨g, off + k * 8, none⟩) (xs.drop k) := fun hne => by
  obtain ⟨b, o, e, hB, hc⟩ := h (by rintro rfl; simp at hne)
  cases e
  refine ⟨g, off + k * 8, rfl, hB, fun j u hj => ?_⟩
  rw [List.getElem?_drop] at hj
  have := hc _ _ hj
  rw [Nat.add_mul, ← Nat.add_assoc] at this
  exact this

theorem wp_append_verts {o : Oper} {a : Act} {w : World} {K : Act → World → Prop} {Q : Exit → Act → World → Prop} (s x : Operand)
    (ho : o.op = .call { callee := .builtin .append, args := #[s, x], argTypes := #[22, 22] }) (base B m c : Nat) (v : Value) (A : Option Addr) (k l : List V) (hs : a.eval s = v) (hx : a.eval x = .slice A m c) (hm : l.length = m)
    (hown : OwnV w base v k) (hsrc : Vs w B A l) (hn : k.length + l.length ≤ 100000) (hbase : base ≤ w.heap.size)
    (h : ∀ v' w', OwnV w' base v' (k ++ l) → w.grownBy w' v.ownBlock → K (a.put o.dst v') w') : o.wp Try.prog a w K Q := by
  subst hm
  obtain ⟨v', w', hr, h2, h3⟩ := run_append_verts w base B o.type v k l A c hown hsrc hn hbase
  unfold Oper.wp execOp
  simp only [ho, resolve, invoke, builtin, Sem.run_bind, Sem.run_pure, Result.andThen_ok, List.map_toArray, List.map_cons, List.map_nil, hs, hx, hr]
  exact h v' w' h2 h3
theorem below_grownV {w0 w w' : World} {base : Nat} {v : Value} {xs : List V} (hb : Below base w0 w) (ho : OwnV w base v xs) (hz : base ≤ w.heap.size) (hg : w.grownBy w' v.ownBlock) : Below base w0 w' :=
  hb.grown hg hz fun j e => ownV_ge ho j e
end Go.Proofs.Ytfheipejbdfjbaa
