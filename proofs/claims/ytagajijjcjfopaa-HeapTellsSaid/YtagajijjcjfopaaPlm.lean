/-
  A variable that holds the document's heap; what step leaves right; which pages were written. No condition.
-/
import Derived.Test.YtagajijjcjfopaaStp
namespace Go.Proofs.Ytagajijjcjfopaa
open Go.RowKit

def VarR (N : Nat) (B : List UInt8) (L : List Bk) (D : List Bool) (w : World) : Prop :=
  ∃ v1 v2 v3, w.heap[N]? = some (.cells #[v1, v2, v3] 35 (0, 0)) ∧ RfV B L D w v1 v2 v3
theorem VarR.below {N b : Nat} {B : List UInt8} {L : List Bk} {D : List Bool} {w w' : World} (h : VarR N B L D w) (hb : Below b w w') (hB : w.heap.size ≤ b := by first | exact Nat.le_refl _ | simp) : VarR N B L D w' := by
  obtain ⟨v1, v2, v3, h1, h2⟩ := h
  exact ⟨v1, v2, v3, old_below h1 hb (by have := row_lt h1; omega), h2.below hb hB⟩
theorem varr_new {B : List UInt8} {L : List Bk} {D : List Bool} {w : World} {v1 v2 v3 : Value} (hp : RfV B L D w v1 v2 v3) : VarR w.heap.size B L D (w.alloc (.cells #[v1, v2, v3] 35)) :=
  ⟨v1, v2, v3, heap_alloc_new w _, hp.alloc _⟩
theorem right_step {B : List UInt8} {L : List Bk} {D : List Bool} (h : RightH B L D) (r : Nat) (x n : Int) (d : List UInt8) (sh : Bool) :
    RightH (stepO r x n d sh (B, L, D)).1 (stepO r x n d sh (B, L, D)).2.1 (stepO r x n d sh (B, L, D)).2.2 := by
  unfold stepO
  split
  · exact h.alloc n
  · split
    · exact h.free x
    · split
      · exact h.store x d
      · split
        · exact h
        · split
          · exact h.tell x
          · exact h.hear x _
theorem two_end {B B' : List UInt8} {L L' : List Bk} {D D' : List Bool} {w w5 : World} {z1 z2 z3 u1 u2 u3 : Value} {a b C base : Nat} {o1 o2 : Array Value} (hab : a ≠ b) (hh : HpV base B L D w5 z1 z2 z3) (hr : RfV B' L' D' w5 u1 u2 u3) (hM : w5.heap[a]? = some (.cells o1 29 (0, 0))) (hK : w5.heap[b]? = some (.cells o2 35 (0, 0))) (hb : Below C w w5) (ha : C ≤ a) (hcb : C ≤ b) :
    (VarH a B L D ((w5.setRow a #[z1, z2, z3]).setRow b #[u1, u2, u3]) ∧ VarR b B' L' D' ((w5.setRow a #[z1, z2, z3]).setRow b #[u1, u2, u3]) ∧ Below C w ((w5.setRow a #[z1, z2, z3]).setRow b #[u1, u2, u3])) ∧
    (VarH a B L D ((w5.setRow b #[u1, u2, u3]).setRow a #[z1, z2, z3]) ∧ VarR b B' L' D' ((w5.setRow b #[u1, u2, u3]).setRow a #[z1, z2, z3]) ∧ Below C w ((w5.setRow b #[u1, u2, u3]).setRow a #[z1, z2, z3])) := by
  have hM2 := setRow_heap w5 a _ #[z1, z2, z3] _ _ hM
  have hK2 := setRow_heap w5 b _ #[u1, u2, u3] _ _ hK
  have hMK : (w5.setRow a #[z1, z2, z3]).heap[b]? = some (.cells o2 35 (0, 0)) := (setRow_other _ _ _ _ (fun e => hab e.symm)).trans hK
  have hKM : (w5.setRow b #[u1, u2, u3]).heap[a]? = some (.cells o1 29 (0, 0)) := (setRow_other _ _ _ _ hab).trans hM
  have hh0 := hh.wide (Nat.zero_le _)
  refine ⟨⟨⟨z1, z2, z3, (setRow_other _ _ _ _ hab).trans hM2, ?_⟩, ⟨u1, u2, u3, setRow_heap _ _ _ _ _ _ hMK, ?_⟩, below_setRow (below_setRow hb ha _) hcb _⟩, ⟨⟨z1, z2, z3, setRow_heap _ _ _ _ _ _ hKM, ?_⟩, ⟨u1, u2, u3, (setRow_other _ _ _ _ (fun e => hab e.symm)).trans hK2, ?_⟩, below_setRow (below_setRow hb hcb _) ha _⟩⟩
  · exact (hh0.other hM (by decide) (by decide) (by decide) (setRow_cells _ _ _)).other hMK (by decide) (by decide) (by decide) (setRow_cells _ _ _)
  · exact (hr.other hM (by decide) (by decide) (setRow_cells _ _ _)).other hMK (by decide) (by decide) (setRow_cells _ _ _)
  · exact (hh0.other hK (by decide) (by decide) (by decide) (setRow_cells _ _ _)).other hKM (by decide) (by decide) (by decide) (setRow_cells _ _ _)
  · exact (hr.other hK (by decide) (by decide) (setRow_cells _ _ _)).other hKM (by decide) (by decide) (setRow_cells _ _ _)
theorem pages_prefix (D : List Bool) (k n : Nat) (h : k ≤ n) : ∃ r, pagesTo D n = pagesTo D k ++ r := by
  induction n with
  | zero => obtain rfl : k = 0 := by omega
            exact ⟨[], by simp⟩
  | succ n ih =>
    by_cases hk : k = n + 1
    · subst hk; exact ⟨[], by simp⟩
    · obtain ⟨r, hr⟩ := ih (by omega)
      refine ⟨r ++ ([n].filter fun i => D[i]?.getD false), ?_⟩
      rw [← List.append_assoc, ← hr]
      unfold pagesTo
      rw [List.range_succ, List.filter_append]
theorem pages_at (D : List Bool) (k : Nat) (h : D[k]? = some true) : (pagesTo D D.length)[(pagesTo D k).length]? = some k ∧ (pagesTo D k).length < (pagesTo D D.length).length := by
  have hlt := (List.getElem?_eq_some_iff.1 h).1
  obtain ⟨r, hr⟩ := pages_prefix D (k + 1) D.length hlt
  have hs := pages_step D k true h
  rw [if_pos rfl] at hs
  rw [hs] at hr
  have h1 : (pagesTo D D.length)[(pagesTo D k).length]? = some k := by
    rw [hr, List.append_assoc, List.getElem?_append_right (Nat.le_refl _), Nat.sub_self]
    rfl
  exact ⟨h1, (List.getElem?_eq_some_iff.1 h1).1⟩
end Go.Proofs.Ytagajijjcjfopaa
