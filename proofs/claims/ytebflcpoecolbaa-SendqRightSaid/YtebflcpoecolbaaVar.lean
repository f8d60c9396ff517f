/-
  Cells of variables and of elements, for quiet walks: kept over all that only adds. No condition.
-/
import Derived.Test.YtebflcpoecolbaaElem
namespace Go.Proofs.Ytebflcpoecolbaa
open Go.RowKit

theorem reg_cells {w0 w : World} {ad : Addr} {C : Array Value} (hb : Below w0.heap.size w0 w) (h : ∀ w', Below w0.heap.size w0 w' → ∀ (j : Nat) v, C[j]? = some v → w'.cell? (ad.add j) = some v) : ∀ w', Reg w w' → ∀ (j : Nat) v, C[j]? = some v → w'.cell? (ad.add j) = some v :=
  fun w' hr => h w' (hb.trans ((reg_below hr).mono hb.size))
theorem var_all {w : World} {b : Nat} {C : Array Value} {t : TypeId} {fr : Nat × Nat} (h : w.heap[b]? = some (.cells C t fr)) : ∀ w', Below w.heap.size w w' → ∀ (j : Nat) v, C[j]? = some v → w'.cell? ((⟨b, 0, none⟩ : Addr).add j) = some v := fun w' hb j v hv => by
  rw [Addr.add_mid, Nat.zero_add, cell_of_row _ _ _ _ _ _ (old_below h hb (row_lt h))]
  exact hv
theorem all_part {w : World} {ad : Addr} {C D : Array Value} {o : Nat} (h : ∀ w', Below w.heap.size w w' → ∀ (j : Nat) v, C[j]? = some v → w'.cell? (ad.add j) = some v) (hD : ∀ (j : Nat) v, D[j]? = some v → C[o + j]? = some v) : ∀ w', Reg w w' → ∀ (j : Nat) v, D[j]? = some v → w'.cell? ((ad.add o).add j) = some v := fun w' hr j v hv => by
  rw [add_twice]
  exact h w' (reg_below hr) _ v (hD j v hv)
theorem all_part0 {w : World} {ad : Addr} {C D : Array Value} (h : ∀ w', Below w.heap.size w w' → ∀ (j : Nat) v, C[j]? = some v → w'.cell? (ad.add j) = some v) (hD : ∀ (j : Nat) v, D[j]? = some v → C[j]? = some v) : ∀ w', Reg w w' → ∀ (j : Nat) v, D[j]? = some v → w'.cell? (ad.add j) = some v := fun w' hr j v hv =>
  h w' (reg_below hr) _ v (hD j v hv)
theorem all_cell {w : World} {ad : Addr} {C : Array Value} {o : Nat} {v : Value} (h : ∀ w', Below w.heap.size w w' → ∀ (j : Nat) v, C[j]? = some v → w'.cell? (ad.add j) = some v) (hv : C[o]? = some v) : ∀ w', Reg w w' → w'.cell? (ad.add o) = some v := fun w' hr => h w' (reg_below hr) _ v hv
/-- a cell of a variable, in a quiet walk -/
theorem var_cell {w : World} {b : Nat} {C : Array Value} {t : TypeId} {fr : Nat × Nat} (h : w.heap[b]? = some (.cells C t fr)) (o : Nat) {v : Value} (hv : C[o]? = some v) : ∀ w', Reg w w' → w'.cell? ((⟨b, 0, none⟩ : Addr).add o) = some v := all_cell (var_all h) hv
/-- whatever cell there was -/
theorem old_cell {w : World} {ad : Addr} {v : Value} (h : w.cell? ad = some v) : ∀ w', Reg w w' → w'.cell? ad = some v := fun _ hr => ((reg_below hr).cell (cell_lt h)).trans h
/-- a conversion that only reads, in a quiet walk -/
theorem quiet_conv {P : Program} {ops : Array Oper} {C : World → Prop} {K : Act → Prop} {o : Oper} {a : Act} (hg : Region.wanted o (yielded ops a.tmps) = true) (s d : TypeId) (x : Operand) (ho : o.op = .convert s d x) (u v : Value) (hx : a.eval x = u)
    (hgg : ∀ w, C w → (convert s d u).run P w = .ok v w) (h : K (a.put o.dst v)) : if Region.wanted o (yielded ops a.tmps) = true then o.quiet P a C K else K (a.put o.dst undef) := by
  rw [if_pos hg]
  refine ⟨v, fun w hw => ?_, h⟩
  unfold Oper.quietAt execOp
  simp only [ho, hx, Sem.run_bind, hgg w hw, Result.andThen_ok, Sem.run_pure]
  exact ⟨rfl, rfl⟩
end Go.Proofs.Ytebflcpoecolbaa
