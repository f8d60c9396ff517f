/-
  What a function of bytes leaves that hands back new bytes and an error (where octets.Put itself is not in the seat). No condition.
-/
import Derived.Test.YtbahkilfcfbolaaDoorMem
import Derived.Test.YtbahkilfcfbolaaDoorNum
namespace Go.Proofs.YtbahkilfcfbolaaDoor
open Go.RowKit

def PutPost (w : World) (r : List UInt8 × Int) (e : Ending) (w' : World) : Prop :=
  ∃ A c, e = .returned (.tuple #[.slice A r.1.length c, .int .i64 r.2]) ∧ Rd w' w.heap.size w'.heap.size A (cells r.1) ∧ Below w.heap.size w w'

theorem info5 : (Tryd.prog.info? 5).map (fun i => (i.zero, i.size, i.bytes)) = some (some (.int .u8 0), 1, 1) := by kernel_rfl
end Go.Proofs.YtbahkilfcfbolaaDoor
