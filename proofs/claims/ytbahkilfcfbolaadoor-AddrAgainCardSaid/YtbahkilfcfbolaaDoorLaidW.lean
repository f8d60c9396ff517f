/-
  A settled world in which the five listed variables lie as the program's text lays them (the rows' witness), and what a row's list and its world's shape give the walks. No condition.
-/
import Derived.Test.YtbahkilfcfbolaaDoorRows
import Derived.Test.YtbahkilfcfbolaaDoorTab
import Derived.WalkKit
import Derived.ProofKit
import Derived.Deep.DeepHandedRow
import Derived.LaidSub
import Derived.Lib.LaidTab
namespace Go.Proofs.YtbahkilfcfbolaaDoor
open Go.ChangeShapes Go.WideShapes Go.ChangeAt Go.RowKit

/-- the variables' list, as each row of this seat has it -/
noncomputable def laidAll : List (String × DataW Unit) := Rows.addrHostsRow.laid
def flat {H : Type} : DataW H → List Value
  | .lit (.int k n) => [.int k n]
  | .agg ds => flatAll ds
  | _ => []
where
  flatAll {H : Type} : List (DataW H) → List Value
    | [] => []
    | d :: r => flat d ++ flatAll r
/-- a world for the witness: the settled one, each listed variable holding what it lists -/
noncomputable def laidWorld (os : Os) : World :=
  laidAll.foldl (fun w x => match Tryd.prog.globalNamed x.1 with
    | some g => { w with heap := w.heap.modify g fun
        | .cells _ t frozen => .cells (flat x.2).toArray t frozen
        | o => o }
    | none => w) (World.holding Tryd.prog os ⟨#[], #[], []⟩)
theorem laid_met (os : Os) (args : Array Value) : laidMet Tryd.prog laidAll ((laidWorld os).forCall (fun _ _ => 0) ⟨#[], args, []⟩).memory :=
  laidMet_of_run' 8 (by kernel_rfl) (by kernel_rfl)
theorem ready_of {W : World} (h : laidMetH Tryd.prog laidAll W) (hs : W.ShapedOpen Tryd.prog) : Ready W := by
  refine ⟨?_, Tryd.laysM145.s1_3 W hs⟩
  have h1 := laidMetH.filter (fun x => x.1 == "internal/strconv.uint64pow10") h
  exact Lib.tabIs_of_head (rest := []) gPow (t := 116) (by kernel_rfl) Tryd.underlying116 Tryd.underlying76 (by kernel_rfl) (by kernel_rfl) h1
end Go.Proofs.YtbahkilfcfbolaaDoor
