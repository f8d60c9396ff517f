/-
  Texts of bytes (where caravelref01.Put and Get are not in the seat). No condition.
-/
import Derived.Test.YtooepllgefndnaaPut
import Derived.Test.YtooepllgefndnaaGet
namespace Go.Proofs.Ytooepllgefndnaa
open Go.RowKit

/-- a text of bytes -/
abbrev txt (l : List UInt8) : Value := .string ⟨l.toArray⟩

theorem run_one (w : World) (b : UInt8) : (convert 25 9 (.slice (some ⟨w.heap.size, 0, none⟩) 1 1)).run Try.prog (w.alloc (.cells #[.int .u8 (b.toNat : Int)] 5)) = .ok (.string ⟨#[b]⟩) (w.alloc (.cells #[.int .u8 (b.toNat : Int)] 5)) :=
  run_text (P := Try.prog) (l := [b]) _ 25 9 5 1 Try.underlying25 Try.underlying5 Try.underlying9 (rd_new w (cells [b]) 5 (0, 0))
theorem byte_mod (m : Nat) : (m : Int) % 256 = ((UInt8.ofNat m).toNat : Int) := by
  rw [UInt8.toNat_ofNat', show (2 : Nat) ^ 8 = 256 from rfl, Int.natCast_emod]
  rfl

theorem ba_cons (b : UInt8) (l : List UInt8) : (⟨#[b]⟩ : ByteArray) ++ ⟨l.toArray⟩ = ⟨(b :: l).toArray⟩ := by
  apply ByteArray.ext
  simp
end Go.Proofs.Ytooepllgefndnaa
