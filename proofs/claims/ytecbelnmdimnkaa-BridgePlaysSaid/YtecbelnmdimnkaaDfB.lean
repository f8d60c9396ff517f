/-
  slices.DeleteFunc of what is learnt, in a row of the call's own. No condition.
-/
import Derived.Test.YtecbelnmdimnkaaIdB
namespace Go.Proofs.Ytecbelnmdimnkaa
open Go.RowKit

theorem grown_below {w w' w2 : World} {row : Option Nat} (h : w.grownBy w' row) (hb : Below w'.heap.size w' w2) : w.grownBy w2 row :=
  ⟨hb.os.trans h.os, hb.tape.trans h.tape, hb.output.trans h.output, Nat.le_trans h.size hb.size, fun k hk hx => (hb.block k (Nat.lt_of_lt_of_le hk h.size)).trans (h.block k hk hx)⟩
theorem grown_setRow {w w' : World} {g : Nat} (h : w.grownBy w' (some g)) (cs : Array Value) : w.grownBy (w'.setRow g cs) (some g) :=
  ⟨h.os, h.tape, h.output, by simp; exact h.size, fun k hk hx => (setRow_other w' g k cs (fun e => hx (by rw [e]))).trans (h.block k hk hx)⟩
theorem grown_of {w w' : World} {row : Option Nat} (h : Below w.heap.size w w') : w.grownBy w' row := ⟨h.os, h.tape, h.output, h.size, fun k hk _ => h.block k hk⟩
/-- what is kept -/
def keepK (K : List Ln) (a : Mac) : List Ln := K.filter fun l => !isM a l
def keepP (L : List Nat) (q : Nat) : List Nat := L.filter fun n => !isP q n
theorem filter_succ {α : Type} (f : α → Bool) (l : List α) (k : Nat) (h : α) (hk : l[k]? = some h) : (l.take (k + 1)).filter f = (l.take k).filter f ++ (if f h = true then [h] else []) := by
  have hlt := (List.getElem?_eq_some_iff.1 hk).1
  rw [List.take_succ_eq_append_getElem hlt, List.filter_append, (List.getElem?_eq_some_iff.1 hk).2]
  congr 1
  cases hf : f h <;> simp [hf]
theorem idxV_cases {α : Type} (f : α → Bool) (l : List α) : (idxV f l = -1 ∧ l.filter (fun x => !f x) = l) ∨ ∃ i, idxV f l = ((i : Nat) : Int) ∧ i < l.length ∧ (∃ h, l[i]? = some h ∧ f h = true) ∧ (l.take i).filter (fun x => !f x) = l.take i := by
  unfold idxV
  cases h : l.findIdx? f with
  | none =>
    refine .inl ⟨rfl, List.filter_eq_self.2 fun x hx => ?_⟩
    have := List.findIdx?_eq_none_iff.1 h x hx
    simp [this]
  | some i =>
    obtain ⟨h1, h2, h3⟩ := List.findIdx?_eq_some_iff_getElem.1 h
    refine .inr ⟨i, rfl, h1, ⟨l[i], List.getElem?_eq_getElem h1, h2⟩, List.filter_eq_self.2 fun x hx => ?_⟩
    obtain ⟨j, hj, rfl⟩ := List.mem_iff_getElem.1 hx
    rw [List.length_take] at hj
    rw [List.getElem_take]
    have := h3 j (by omega)
    simpa using this
/-- clear(s[i:]): what lies ahead of i stands -/
theorem zero_one (z : Array Value) (m : Nat) (h : ∀ u ∈ z.toList, u.oneCell' = true) (hz : 0 < z.size) : ∀ u ∈ (Builtin.zeroCells z m).toList, u.oneCell' = true := by
  intro u hu
  unfold Builtin.zeroCells at hu
  simp only [Array.toList_map, List.mem_map] at hu
  obtain ⟨j, _, rfl⟩ := hu
  have hj : j % z.size < z.size := Nat.mod_lt _ hz
  rw [getElem!_pos z (j % z.size) hj]
  exact h _ (by rw [← Array.getElem_toList]; exact List.getElem_mem _)
theorem clear_rest (w : World) (g o m c k b : Nat) (t e ty : TypeId) (z : Value) (cur : Array Value) (hu : Try.prog.underlying t = some (.slice e)) (hz : ∀ w, (zeroValue e).run Try.prog w = .ok z w) (hzc : z.cells.size = k) (hk : 0 < k) (hz1 : ∀ u ∈ z.cells.toList, u.oneCell' = true)
    (hg : w.heap[g]? = some (.cells cur b (0, 0))) (hf : o + (m + 1) * k ≤ cur.size) :
    ∃ cur3 : Array Value, (Builtin.clear_ #[t] ty #[.slice (some ⟨g, o, none⟩) (m + 1) c]).run Try.prog w = .ok (.tuple #[]) (w.setRow g cur3) ∧ cur3.size = cur.size ∧ cur3.toList.take o = cur.toList.take o := by
  have hzl : (Builtin.zeroCells z.cells (m + 1)).toList.length = (m + 1) * k := by rw [Array.length_toList, size_zeroCells, hzc]
  have hst := run_storeCells_at (P := Try.prog) g o b (Builtin.zeroCells z.cells (m + 1)).toList 0 cur w hg (by rw [hzl]; omega) (zero_one _ _ hz1 (by omega))
  rw [Nat.add_zero] at hst
  refine ⟨(cur.toList.take o ++ (Builtin.zeroCells z.cells (m + 1)).toList ++ cur.toList.drop (o + (Builtin.zeroCells z.cells (m + 1)).toList.length)).toArray, ?_, ?_, ?_⟩
  · simp at hst
    simp [Builtin.clear_, run_underlying hu, hz, hst]
  · rw [List.size_toArray, List.length_append, List.length_append, List.length_take, List.length_drop, hzl, Array.length_toList]
    omega
  · show (cur.toList.take o ++ _ ++ _).take o = _
    rw [List.append_assoc, List.take_left' (by rw [List.length_take, Array.length_toList]; omega)]
end Go.Proofs.Ytecbelnmdimnkaa
