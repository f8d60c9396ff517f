/-
  A value of one cell laid into a field of a variable. No condition.
-/
import Derived.Test.YtebflcpoecolbaaKit
import Derived.Laws.Tables
namespace Go.Proofs.Ytebflcpoecolbaa
open Go.RowKit

section
variable {P : Program}
theorem run_storeVar_fld (w : World) (g i : Nat) (t ty : TypeId) (cur : Array Value) (v : Value) (hg : w.heap[g]? = some (.cells cur t (0, 0))) (hi : i < cur.size) (hz : (P.info? ty).map (·.size) = some 1) (h1 : v.oneCell' = true) :
    (storeVar ty ⟨g, i, none⟩ v).run P w = .ok () (w.setRow g (cur.setIfInBounds i v)) := by
  have hs := store_cell (P := P) (v := v) hg hi h1
  have hc : v.cells = #[v] := by cases v <;> first | rfl | cases h1
  have ha : (⟨g, i, none⟩ : Addr).add 0 = ⟨g, i, none⟩ := rfl
  rw [setCell_eq_setRow w g i _ t (0, 0) v hg] at hs
  cases hq : P.info? ty with
  | none => simp [hq] at hz
  | some j =>
    have hs1 : j.size = 1 := by simpa [hq] using hz
    simp [storeVar, sizeOf, typeInfo, hq, hc, hs1, storeCells, ha, Sem.run_bind, hs]
theorem wp_store_fld {o : Oper} {a : Act} {w : World} {K : Act → World → Prop} {Q : Exit → Act → World → Prop} (ty : TypeId) (x y : Operand) (ho : o.op = .store ty x y)
    (g i : Nat) (hx : a.eval x = .pointer (some ⟨g, i, none⟩)) (v : Value) (hy : a.eval y = v) (t : TypeId) (cur : Array Value) (hg : w.heap[g]? = some (.cells cur t (0, 0))) (hi : i < cur.size) (hz : (P.info? ty).map (·.size) = some 1) (h1 : v.oneCell' = true)
    (h : K (a.put o.dst undef) (w.setRow g (cur.setIfInBounds i v))) : o.wp P a w K Q := by
  unfold Oper.wp execOp
  simp only [ho, hx, hy, Instr.storeAt, Instr.sureAddr, Sem.run_bind, Sem.run_pure, Result.andThen_ok, run_storeVar_fld w g i t ty cur v hg hi hz h1]
  exact h
theorem wpList_store_fld {w : World} {ops : Array Oper} {rest : List Oper} {op : Oper} {a : Act} {Q : Exit → Act → World → Prop} (hgd : op.guard = none) (ty : TypeId) (x y : Operand) (ho : op.op = .store ty x y)
    (g i : Nat) (hx : a.eval x = .pointer (some ⟨g, i, none⟩)) (v : Value) (hy : a.eval y = v) (t : TypeId) (cur : Array Value) (hg : w.heap[g]? = some (.cells cur t (0, 0))) (hi : i < cur.size) (hz : (P.info? ty).map (·.size) = some 1) (h1 : v.oneCell' = true)
    (cur2 : Array Value) (hc2 : cur.setIfInBounds i v = cur2)
    (h : wpList P ops Q rest (a.put op.dst undef) (w.setRow g cur2)) : wpList P ops Q (op :: rest) a w := by
  subst hc2
  exact wpList_plain hgd fun _ hK => wp_store_fld ty x y ho g i hx v hy t cur hg hi hz h1 (hK _ _ h)
end
end Go.Proofs.Ytebflcpoecolbaa
