/-
  A variable that holds a heap; what the laws' loops keep of it. No condition.
-/
import Derived.Test.YtagajijjcjfopaaOpsL
namespace Go.Proofs.Ytagajijjcjfopaa
open Go.RowKit

/-- block N holds a heap -/
def VarH (N : Nat) (B : List UInt8) (L : List Bk) (D : List Bool) (w : World) : Prop :=
  ∃ v1 v2 v3, w.heap[N]? = some (.cells #[v1, v2, v3] 29 (0, 0)) ∧ HpV 0 B L D w v1 v2 v3
theorem VarH.below {N b : Nat} {B : List UInt8} {L : List Bk} {D : List Bool} {w w' : World} (h : VarH N B L D w) (hb : Below b w w') (hB : w.heap.size ≤ b := by first | exact Nat.le_refl _ | simp) : VarH N B L D w' := by
  obtain ⟨v1, v2, v3, h1, h2⟩ := h
  exact ⟨v1, v2, v3, old_below h1 hb (by have := row_lt h1; omega), h2.below hb hB⟩
theorem VarH.alloc {N : Nat} {B : List UInt8} {L : List Bk} {D : List Bool} {w : World} (h : VarH N B L D w) (o : Obj) : VarH N B L D (w.alloc o) := h.below ((Below.refl _ _).alloc (Nat.le_refl _) o)
theorem var_set {N b : Nat} {B : List UInt8} {L : List Bk} {D : List Bool} {w : World} {v1 v2 v3 : Value} {old : Array Value} (hp : HpV b B L D w v1 v2 v3) (hx : w.heap[N]? = some (.cells old 29 (0, 0))) : VarH N B L D (w.setRow N #[v1, v2, v3]) :=
  ⟨v1, v2, v3, setRow_heap _ _ _ _ _ _ hx, (hp.wide (Nat.zero_le _)).other hx (by decide) (by decide) (by decide) (setRow_cells _ _ _)⟩
theorem var_new {b : Nat} {B : List UInt8} {L : List Bk} {D : List Bool} {w : World} {v1 v2 v3 : Value} (hp : HpV b B L D w v1 v2 v3) : VarH w.heap.size B L D (w.alloc (.cells #[v1, v2, v3] 29)) :=
  ⟨v1, v2, v3, heap_alloc_new w _, (hp.wide (Nat.zero_le _)).alloc _⟩
theorem VarH.lt {N : Nat} {B : List UInt8} {L : List Bk} {D : List Bool} {w : World} (h : VarH N B L D w) : N < w.heap.size := by
  obtain ⟨v1, v2, v3, h1, _⟩ := h
  exact row_lt h1
/-- another variable of the same make -/
theorem VarH.set {N M : Nat} {B : List UInt8} {L : List Bk} {D : List Bool} {w : World} {old : Array Value} (h : VarH N B L D w) (hx : w.heap[M]? = some (.cells old 29 (0, 0))) (hne : N ≠ M) (cs : Array Value) : VarH N B L D (w.setRow M cs) := by
  obtain ⟨v1, v2, v3, h1, h2⟩ := h
  exact ⟨v1, v2, v3, (setRow_other w M N cs hne).trans h1, h2.other hx (by decide) (by decide) (by decide) (setRow_cells _ _ _)⟩
theorem five_cells {w : World} {b : Nat} {v0 v1 v2 v3 v4 : Value} {t : TypeId} {fr : Nat × Nat} (h : w.heap[b]? = some (.cells #[v0, v1, v2, v3, v4] t fr)) :
    w.cell? ⟨b, 0, none⟩ = some v0 ∧ w.cell? ⟨b, 1, none⟩ = some v1 ∧ w.cell? ⟨b, 2, none⟩ = some v2 ∧ w.cell? ⟨b, 3, none⟩ = some v3 ∧ w.cell? ⟨b, 4, none⟩ = some v4 := by
  refine ⟨?_, ?_, ?_, ?_, ?_⟩ <;> (rw [cell_of_row _ _ _ _ _ _ h]; rfl)
theorem u64_rem (z : Int) (m : Nat) (hm : 0 < m) (hm2 : m < 1000) : ∃ r : Nat, (IntKind.u64.wrap z).tmod (m : Int) = (r : Int) ∧ r < m := by
  have h : 0 ≤ IntKind.u64.wrap z := by
    rw [IntKind.wrap_u64]
    exact Int.emod_nonneg _ (by decide)
  obtain ⟨q, hq⟩ := Int.eq_ofNat_of_zero_le h
  refine ⟨q % m, ?_, Nat.mod_lt _ hm⟩
  rw [hq]
  rfl
end Go.Proofs.Ytagajijjcjfopaa
