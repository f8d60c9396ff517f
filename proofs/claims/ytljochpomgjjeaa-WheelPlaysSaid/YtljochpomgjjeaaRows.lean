/-
  No cell of these rows narrows 'for every input' (looked for: loops, veiled, ifaces, maps, wideKeys, modest, calm, conditions, laid).
  DERIVED. THE GIVEN ROWS OF THIS SEAT. 4 by the template 'for every input the law returns true; each argument reads behind the call as it read before'; 0 by the template 'total and deterministic' (their statements: YtljochpomgjjeaaTotals.lean).
  GIVEN WITH THE SEED: the statements are not yours to turn. If you find one false, say at which input.
  Laid BY PROGRAM, IN A SANDBOX (cutbox-rows.mjs): the forced cells as the released guide's own fill.sh prints them over the translation e4aa21a5d83e3afd… (all of the seat's roots in one cut). By AI agents, Wed Nov 11 2026. No macro, syntax, notation, axiom, sorry.
-/
import Derived.Test.YtljochpomgjjeaaChecked
import GoSem.Claim
import GoSem.ClaimJoined
import GoSem.ClaimMapViews
import Derived.JoinedTies
import Derived.KernelRfl
namespace Go.Proofs.Ytljochpomgjjeaa
/- THE CELL 'sum', in the pinned program and in every row, IS THE sha256 OF THE DUMP (.gsa) THAT YtljochpomgjjeaaProg.lean LOADS. Nothing in Lean hashes anything: it is a label: what it is worth is what the hold of that sum in a sandbox is worth. -/
noncomputable def Try.pinned : Pinned := { name := "ytljochpomgjjeaa", sum := "e4aa21a5d83e3afd067ebad97d2177a93ad96a014b798802bdec2ca21d829327", checked := Try.checked }
namespace Rows
def none {H : Type} : Left H := { results := [], args := [] }

/-- 'caravellaw16.WheelPlays': WHATEVER THE INPUT: true; the input reads as it did. -/
def wheelPlaysSpec : ChangeSpec := { name := "wheelPlays", fn := fun _ => fun
  | [d1, d2] => { results := [.lit (.bool true)], args := [d1, d2] }
  | _ => none }
def wheelPlaysRow : OpenClaim := { program := "ytljochpomgjjeaa", sum := "e4aa21a5d83e3afd067ebad97d2177a93ad96a014b798802bdec2ca21d829327", func := "caravel/caravellaw16.WheelPlays", spec := "wheelPlays", inPlace := ["slices.overlaps[caravel/api.Timer]"], unfollowed := true, recurses := true, apart := false }
def WheelPlaysSaid : Prop := wheelPlaysRow.holds Try.pinned (OpenSpec.ofChange wheelPlaysSpec)

/-- ITS FALSE NEIGHBOUR: 'it returns false'. Refute it at one input. -/
def wheelPlaysWrong : ChangeSpec := { name := "wheelPlays", fn := fun _ => fun
  | [d1, d2] => { results := [.lit (.bool false)], args := [d1, d2] }
  | _ => none }
def WheelPlaysWrongFalsely : Prop := wheelPlaysRow.holds Try.pinned (OpenSpec.ofChange wheelPlaysWrong)

/-- 'caravellaw16.WheelOnce': WHATEVER THE INPUT: true; the input reads as it did. -/
def wheelOnceSpec : ChangeSpec := { name := "wheelOnce", fn := fun _ => fun
  | [d] => { results := [.lit (.bool true)], args := [d] }
  | _ => none }
def wheelOnceRow : OpenClaim := { program := "ytljochpomgjjeaa", sum := "e4aa21a5d83e3afd067ebad97d2177a93ad96a014b798802bdec2ca21d829327", func := "caravel/caravellaw16.WheelOnce", spec := "wheelOnce", inPlace := ["slices.overlaps[caravel/api.Timer]"], unfollowed := true, recurses := true, apart := false }
def WheelOnceSaid : Prop := wheelOnceRow.holds Try.pinned (OpenSpec.ofChange wheelOnceSpec)

/-- ITS FALSE NEIGHBOUR: 'it returns false'. Refute it at one input. -/
def wheelOnceWrong : ChangeSpec := { name := "wheelOnce", fn := fun _ => fun
  | [d] => { results := [.lit (.bool false)], args := [d] }
  | _ => none }
def WheelOnceWrongFalsely : Prop := wheelOnceRow.holds Try.pinned (OpenSpec.ofChange wheelOnceWrong)

/-- 'caravellaw16.WheelRight': WHATEVER THE INPUT: true; the input reads as it did. -/
def wheelRightSpec : ChangeSpec := { name := "wheelRight", fn := fun _ => fun
  | [d] => { results := [.lit (.bool true)], args := [d] }
  | _ => none }
def wheelRightRow : OpenClaim := { program := "ytljochpomgjjeaa", sum := "e4aa21a5d83e3afd067ebad97d2177a93ad96a014b798802bdec2ca21d829327", func := "caravel/caravellaw16.WheelRight", spec := "wheelRight", inPlace := ["slices.overlaps[caravel/api.Timer]"], unfollowed := true, recurses := true, apart := false }
def WheelRightSaid : Prop := wheelRightRow.holds Try.pinned (OpenSpec.ofChange wheelRightSpec)

/-- ITS FALSE NEIGHBOUR: 'it returns false'. Refute it at one input. -/
def wheelRightWrong : ChangeSpec := { name := "wheelRight", fn := fun _ => fun
  | [d] => { results := [.lit (.bool false)], args := [d] }
  | _ => none }
def WheelRightWrongFalsely : Prop := wheelRightRow.holds Try.pinned (OpenSpec.ofChange wheelRightWrong)

/-- 'caravellaw16.WheelMoved': WHATEVER THE INPUT: true; the input reads as it did. -/
def wheelMovedSpec : ChangeSpec := { name := "wheelMoved", fn := fun _ => fun
  | [d1, d2] => { results := [.lit (.bool true)], args := [d1, d2] }
  | _ => none }
def wheelMovedRow : OpenClaim := { program := "ytljochpomgjjeaa", sum := "e4aa21a5d83e3afd067ebad97d2177a93ad96a014b798802bdec2ca21d829327", func := "caravel/caravellaw16.WheelMoved", spec := "wheelMoved", inPlace := ["slices.overlaps[caravel/api.Timer]"], unfollowed := true, recurses := true, apart := false }
def WheelMovedSaid : Prop := wheelMovedRow.holds Try.pinned (OpenSpec.ofChange wheelMovedSpec)

/-- ITS FALSE NEIGHBOUR: 'it returns false'. Refute it at one input. -/
def wheelMovedWrong : ChangeSpec := { name := "wheelMoved", fn := fun _ => fun
  | [d1, d2] => { results := [.lit (.bool false)], args := [d1, d2] }
  | _ => none }
def WheelMovedWrongFalsely : Prop := wheelMovedRow.holds Try.pinned (OpenSpec.ofChange wheelMovedWrong)

/- THE SECOND FORM. 'bulk': how many values and letters a reading holds, each counted each time it is reached (what is shared counts as often as it is met; a slice's spare places count too). A statement '..UptoSaid' is the law's where the arguments, and the package variables that the reading takes, are together of bulk at most 1048576: NARROWER than '..Said'. Prove '..Said' where nothing that the law and all that it calls make is longer than what came in: it says more and counts as full. Else prove '..UptoSaid'. A law counts once. -/
mutual
def uptoBulk {H : Type} : DataW H → Nat
  | .lit (.string bytes) => bytes.length + 1
  | .lit _ => 1
  | .nil => 1
  | .ptr d => uptoBulk d + 1
  | .slice elems spare => uptoBulkAll elems + uptoBulkAll spare + 1
  | .agg parts => uptoBulkAll parts + 1
  | .iface _ d => uptoBulk d + 1
  | .map entries => uptoBulkEntries entries + 1
  | .held _ => 1
def uptoBulkAll {H : Type} : List (DataW H) → Nat
  | [] => 0
  | d :: r => uptoBulk d + uptoBulkAll r
def uptoBulkEntries {H : Type} : List (Lit × DataW H) → Nat
  | [] => 0
  | x :: r => uptoBulkEntry x + uptoBulkEntries r
def uptoBulkEntry {H : Type} : Lit × DataW H → Nat
  | (.string bytes, d) => bytes.length + uptoBulk d + 1
  | (_, d) => uptoBulk d + 1
 end
def uptoSmall : (H : Type) → List (DataW H) → Bool := fun _ ds => decide (uptoBulkAll ds ≤ 1048576)
def OpenSpec.upto (s : _root_.Go.ChangeSpec) : _root_.Go.OpenSpec := { _root_.Go.OpenSpec.ofChange s with cond := some uptoSmall }

/-- 'caravellaw16.WheelPlays', WHERE WHAT IT READS IS OF BULK AT MOST 1048576: true; the input reads as it did. -/
def wheelPlaysUptoRow : OpenClaim := { program := "ytljochpomgjjeaa", sum := "e4aa21a5d83e3afd067ebad97d2177a93ad96a014b798802bdec2ca21d829327", func := "caravel/caravellaw16.WheelPlays", spec := "wheelPlays", inPlace := ["slices.overlaps[caravel/api.Timer]"], unfollowed := true, recurses := true, apart := false, narrowed := true }
def WheelPlaysUptoSaid : Prop := wheelPlaysUptoRow.holds Try.pinned (OpenSpec.upto wheelPlaysSpec)

/-- 'caravellaw16.WheelOnce', WHERE WHAT IT READS IS OF BULK AT MOST 1048576: true; the input reads as it did. -/
def wheelOnceUptoRow : OpenClaim := { program := "ytljochpomgjjeaa", sum := "e4aa21a5d83e3afd067ebad97d2177a93ad96a014b798802bdec2ca21d829327", func := "caravel/caravellaw16.WheelOnce", spec := "wheelOnce", inPlace := ["slices.overlaps[caravel/api.Timer]"], unfollowed := true, recurses := true, apart := false, narrowed := true }
def WheelOnceUptoSaid : Prop := wheelOnceUptoRow.holds Try.pinned (OpenSpec.upto wheelOnceSpec)

/-- 'caravellaw16.WheelRight', WHERE WHAT IT READS IS OF BULK AT MOST 1048576: true; the input reads as it did. -/
def wheelRightUptoRow : OpenClaim := { program := "ytljochpomgjjeaa", sum := "e4aa21a5d83e3afd067ebad97d2177a93ad96a014b798802bdec2ca21d829327", func := "caravel/caravellaw16.WheelRight", spec := "wheelRight", inPlace := ["slices.overlaps[caravel/api.Timer]"], unfollowed := true, recurses := true, apart := false, narrowed := true }
def WheelRightUptoSaid : Prop := wheelRightUptoRow.holds Try.pinned (OpenSpec.upto wheelRightSpec)

/-- 'caravellaw16.WheelMoved', WHERE WHAT IT READS IS OF BULK AT MOST 1048576: true; the input reads as it did. -/
def wheelMovedUptoRow : OpenClaim := { program := "ytljochpomgjjeaa", sum := "e4aa21a5d83e3afd067ebad97d2177a93ad96a014b798802bdec2ca21d829327", func := "caravel/caravellaw16.WheelMoved", spec := "wheelMoved", inPlace := ["slices.overlaps[caravel/api.Timer]"], unfollowed := true, recurses := true, apart := false, narrowed := true }
def WheelMovedUptoSaid : Prop := wheelMovedUptoRow.holds Try.pinned (OpenSpec.upto wheelMovedSpec)

end Rows
end Go.Proofs.Ytljochpomgjjeaa
