/-
  Regions that draw their order, with guards, and lay values into known variables: what each store leaves. No condition.
-/
import Derived.Test.YtebflcpoecolbaaTwe
import Derived.Test.YtebflcpoecolbaaRelyQ
namespace Go.Proofs.Ytebflcpoecolbaa
open Go.RowKit

/-- laid: these cells -/
def Sto (g : Nat) (C : Array Value) (T : TypeId) : Pred := fun _ w => w.heap[g]? = some (.cells C T (0, 0))
theorem sto_mono (g : Nat) (C : Array Value) (T : TypeId) : Mono (Sto g C T) := fun _ _ _ hb h => old_below h hb (row_lt h)
theorem sto_set {g h : Nat} {C D : Array Value} {T : TypeId} {u : Value} {w : World} (hr : Sto g C T u w) (hne : g ≠ h) : Sto g C T u (w.setRow h D) := (setRow_other w h g D hne).trans hr
/-- laid: cells that read as these data -/
def StoD (S : Nat → Prop) (g : Nat) (D : List Dat) (T : TypeId) : Pred := fun _ w => ∃ C, w.heap[g]? = some (.cells C T (0, 0)) ∧ Rvs w S C.toList D
theorem stod_mono (S : Nat → Prop) (g : Nat) (D : List Dat) (T : TypeId) : Mono (StoD S g D T) := fun _ _ _ hb ⟨C, h, hr⟩ => ⟨C, old_below h hb (row_lt h), rvs_call hr hb⟩
theorem stod_set {S : Nat → Prop} {g h : Nat} {D : List Dat} {C : Array Value} {T : TypeId} {u : Value} {w : World} (hr : StoD S g D T u w) (hne : g ≠ h) (hS : ¬ S h) : StoD S g D T u (w.setRow h C) := by
  obtain ⟨E, h1, h2⟩ := hr
  exact ⟨E, (setRow_other w h g C hne).trans h1, h2.setRow hS C⟩
theorem gro_old {X : Nat → Prop} {a b : World} {g : Nat} {C : Array Value} {T : TypeId} (h : Gro X a b) (hg : a.heap[g]? = some (.cells C T (0, 0))) (hX : ¬ X g) : b.heap[g]? = some (.cells C T (0, 0)) := (h.block g (row_lt hg) hX).trans hg
end Go.Proofs.Ytebflcpoecolbaa
