/-
  What wheel's functions answer: gathered. No condition.
-/
import Derived.Test.YtljochpomgjjeaaRwg
import Derived.Test.YtljochpomgjjeaaRfl
namespace Go.Proofs.Ytljochpomgjjeaa
open Go.RowKit

theorem clone_any (v : Value) (n : Nat) (T : List Tm) (w : World) (hv : WhS w v n T) (hl : T.length ≤ 1000) : Calls Try.prog 8 #[v] w fun e w' => ∃ v', e = .returned v' ∧ WhT w' v' n T ∧ Below w.heap.size w w' :=
  (clonew_any v n T w hv hl).mono (by
    rintro e w' ⟨v', h1, h2, h3⟩
    exact ⟨v', h1, h2.wht, h3⟩)
end Go.Proofs.Ytljochpomgjjeaa
