/-
  A struct's value laid into a new variable, and read out of it whole, whatever its cells; what a frame's and an Arp's cells are. No condition.
-/
import Derived.Test.YtooepllgefndnaaBuild
import Derived.Test.YtooepllgefndnaaParse
import Derived.Test.YtooepllgefndnaaSame
import Derived.Test.YtooepllgefndnaaArp
import Derived.Deep.WholeRow
namespace Go.Proofs.Ytooepllgefndnaa
open Go.RowKit

theorem wpList_store_new {P : Program} {ops : Array Oper} {rest : List Oper} {o : Oper} {a : Act} {Q : Exit → Act → World → Prop} (hgd : o.guard = none) (ty : TypeId) (x y : Operand) (ho : o.op = .store ty x y)
    (w0 : World) (zs cs : Array Value) (hx : a.eval x = .pointer (some ⟨w0.heap.size, 0, none⟩)) (hy : a.eval y = .agg cs) (hi : (P.info? ty).map (·.size) = some cs.size) (hs : zs.size = cs.size) (h1 : cs.all (·.oneCell') = true)
    (h : wpList P ops Q rest (a.put o.dst undef) (w0.alloc (.cells cs ty))) : wpList P ops Q (o :: rest) a (w0.alloc (.cells zs ty)) := by
  refine wpList_store_row hgd ty x y ho w0.heap.size cs hx hy ty zs (heap_alloc_new w0 _) hi hs h1 ?_
  rw [World.setRow_alloc_new]
  exact h
theorem wpList_load_rowg {P : Program} {ops : Array Oper} {rest : List Oper} {o : Oper} {a : Act} {w : World} {Q : Exit → Act → World → Prop} (hg : Region.wanted o (yielded ops a.tmps) = true) (ty : TypeId) (x : Operand) (ho : o.op = .load ty x) (g : Nat) (hx : a.eval x = .pointer (some ⟨g, 0, none⟩))
    (t : TypeId) (cs : Array Value) (fr : Nat × Nat) (d : TypeDesc) (hgg : w.heap[g]? = some (.cells cs t fr)) (hu : P.underlying ty = some d) (hd : d.isRow = true) (hi : (P.info? ty).map (·.size) = some cs.size)
    (h : wpList P ops Q rest (a.put o.dst (.agg cs)) w) : wpList P ops Q (o :: rest) a w :=
  wpList_wanted hg fun _ hK => wp_load_row ty x ho g hx t cs fr d hgg hu (by cases d <;> first | rfl | cases hd) hi (hK _ _ h)

theorem size_fr {cs : Array Value} (h : cs.size = 14) : (Try.prog.info? 27).map (·.size) = some cs.size := by
  rw [h]
  kernel_rfl
theorem size_ar {cs : Array Value} (h : cs.size = 21) : (Try.prog.info? 44).map (·.size) = some cs.size := by
  rw [h]
  kernel_rfl
theorem all_one {cs : List Value} (h : ∀ u ∈ cs, u.oneCell' = true) : cs.toArray.all (·.oneCell') = true :=
  Array.all_eq_true_iff_forall_mem.2 fun v hv => h v (by simpa using hv)
theorem FrV.one {w : World} {lo hi : Nat} {cs : Array Value} {f : Fr} (h : FrV w lo hi cs f) : cs.all (·.oneCell') = true := by
  obtain ⟨A, c, rfl, _⟩ := h
  refine all_one fun u hu => ?_
  simp only [frC, List.mem_append, List.mem_cons, List.not_mem_nil, or_false] at hu
  rcases hu with (hu | hu) | rfl | rfl
  · exact cells_one _ u hu
  · exact cells_one _ u hu
  · rfl
  · rfl
theorem ArV.one {cs : Array Value} {a : Ar} (h : ArV cs a) : cs.all (·.oneCell') = true := by
  obtain ⟨rfl, _⟩ := h
  refine all_one fun u hu => ?_
  simp only [arC, List.mem_append, List.mem_singleton] at hu
  rcases hu with (((rfl | hu) | hu) | hu) | hu
  · rfl
  · exact cells_one _ u hu
  · exact cells_one _ u hu
  · exact cells_one _ u hu
  · exact cells_one _ u hu
/-- a frame's type and body among its cells -/
theorem FrV.parts {w : World} {lo hi : Nat} {cs : Array Value} {f : Fr} (h : FrV w lo hi cs f) : ∃ A c, cs[12]? = some (.int .u16 (f.t : Int)) ∧ cs[13]? = some (.slice A f.b.length c) ∧ Rd w lo hi A (cells f.b) ∧ f.b.length ≤ c ∧ c ≤ maxLen ∧ (A = none → c = 0) := by
  obtain ⟨A, c, rfl, ⟨h1, h2, _⟩, h3⟩ := h
  exact ⟨A, c, by simp [frC, cells_length, h1, h2], by simp [frC, cells_length, h1, h2], h3⟩
theorem FrV.ok {w : World} {lo hi : Nat} {cs : Array Value} {f : Fr} (h : FrV w lo hi cs f) : f.ok := by
  obtain ⟨A, c, rfl, h, _⟩ := h
  exact h
theorem FrV.alloc {w : World} {lo hi : Nat} {cs : Array Value} {f : Fr} (h : FrV w lo hi cs f) (hB : hi ≤ w.heap.size) (o : Obj) : FrV (w.alloc o) lo hi cs f := by
  obtain ⟨A, c, e, h1, h2, h3⟩ := h
  exact ⟨A, c, e, h1, h2.alloc hB o, h3⟩
end Go.Proofs.Ytooepllgefndnaa
