/-
  A region that draws its order, whose operations read old cells and whose callees make new memory only: one walk of the text's order serves every order; three points read in it.
-/
import Derived.Test.YtfdlfjecgefgfaaTurned
namespace Go.Proofs.Ytfdlfjecgefgfaa
open Go.RowKit

theorem Grow.ne (w : World) : Nonempty (Grow w) := ⟨⟨w, Below.refl _ _⟩⟩
theorem wp_region_grow {P : Program} {id : Nat} {Q : Exit → Act → World → Prop} {a : Act} {w : World} {l : List Oper} (hm : P.follows .mixedOrders = true) (hB : Region.lexB .any l.toArray = true)
    (h : wpQuiet P l.toArray (fun w' => ∃ x : Grow w, w' = x.w) (fun a' => ∀ w', (∃ x : Grow w, w' = x.w) → Q .normal a' w') l a) : (Code.region id l.toArray true).wp P Q a w :=
  wp_region_quiet (C := fun w' => ∃ x : Grow w, w' = x.w) hm hB ⟨⟨_, (Below.refl _ _).drew⟩, rfl⟩ (by simpa using h)
theorem Grow.calls {P : Program} {f : FuncId} {args : Array Value} {w : World} {x : Grow w} {v : Value}
    (h : Calls P f args x.w fun e w' => e = .returned v ∧ Below x.w.heap.size x.w w') : Calls P f args x.w fun e w'' => e = .returned v ∧ ∃ y : Grow w, w'' = y.w :=
  h.mono fun _ _ ⟨he, hb⟩ => ⟨he, ⟨_, x.below.trans (hb.mono x.below.size)⟩, rfl⟩
theorem quiet_loadT {ops : Array Oper} {rest : List Oper} {o : Oper} {k : Act} {X : World} {Q : Act → Prop} {g : Nat} {a b c : P} (x : Operand) (ho : o.op = .load 38 x) (hw : Region.wanted o (yielded ops k.tmps) = true)
    (hx : k.eval x = .pointer (some ⟨g, 0, none⟩)) (hg : X.heap[g]? = some (tB a b c))
    (h : wpQuiet Try.prog ops (fun w' => ∃ x : Grow X, w' = x.w) Q rest (k.put o.dst (.agg #[.int .i64 a.x, .int .i64 a.y, .int .i64 a.z, .int .i64 a.a, .int .i64 a.b, .int .i64 a.c, .int .i64 a.d, .int .i64 b.x, .int .i64 b.y, .int .i64 b.z, .int .i64 b.a, .int .i64 b.b, .int .i64 b.c, .int .i64 b.d, .int .i64 c.x, .int .i64 c.y, .int .i64 c.z, .int .i64 c.a, .int .i64 c.b, .int .i64 c.c, .int .i64 c.d]))) : wpQuiet Try.prog ops (fun w' => ∃ x : Grow X, w' = x.w) Q (o :: rest) k :=
  BigFrame.wpQuiet_want hw fun K hK => ⟨.agg #[.int .i64 a.x, .int .i64 a.y, .int .i64 a.z, .int .i64 a.a, .int .i64 a.b, .int .i64 a.c, .int .i64 a.d, .int .i64 b.x, .int .i64 b.y, .int .i64 b.z, .int .i64 b.a, .int .i64 b.b, .int .i64 b.c, .int .i64 b.d, .int .i64 c.x, .int .i64 c.y, .int .i64 c.z, .int .i64 c.a, .int .i64 c.b, .int .i64 c.c, .int .i64 c.d], fun w hw => by
    obtain ⟨y, rfl⟩ := hw
    unfold Oper.quietAt
    have hl := loadT (tB_grow hg y.below)
    simp [execOp, ho, hx, hl, Result.andThen]
    exact ⟨rfl, rfl⟩, hK _ h⟩
end Go.Proofs.Ytfdlfjecgefgfaa
