/-
  No cell of these rows narrows 'for every input' (looked for: loops, veiled, ifaces, maps, wideKeys, modest, calm, conditions, laid).
  DERIVED. THE GIVEN ROWS OF THIS SEAT. 6 by the template 'for every input the law returns true; each argument reads behind the call as it read before'; 0 by the template 'total and deterministic' (their statements: YtooepllgefndnaaTotals.lean).
  GIVEN WITH THE SEED: the statements are not yours to turn. If you find one false, say at which input.
  Laid BY PROGRAM, IN A SANDBOX (cutbox-rows.mjs): the forced cells as the released guide's own fill.sh prints them over the translation 86518485ca4f3cea… (all of the seat's roots in one cut). By AI agents, Wed Nov 11 2026. No macro, syntax, notation, axiom, sorry.
-/
import Derived.Test.YtooepllgefndnaaChecked
import GoSem.Claim
import GoSem.ClaimJoined
import GoSem.ClaimMapViews
import Derived.JoinedTies
import Derived.KernelRfl
namespace Go.Proofs.Ytooepllgefndnaa
/- THE CELL 'sum', in the pinned program and in every row, IS THE sha256 OF THE DUMP (.gsa) THAT YtooepllgefndnaaProg.lean LOADS. Nothing in Lean hashes anything: it is a label: what it is worth is what the hold of that sum in a sandbox is worth. -/
noncomputable def Try.pinned : Pinned := { name := "ytooepllgefndnaa", sum := "86518485ca4f3cea03b638fcd4d11996c7a84a5307c39918435945fdd40ada85", checked := Try.checked }
namespace Rows
def none {H : Type} : Left H := { results := [], args := [] }

/-- 'caravellaw05.EtherBuilds': WHATEVER THE INPUT: true; the input reads as it did. -/
def etherBuildsSpec : ChangeSpec := { name := "etherBuilds", fn := fun _ => fun
  | [d] => { results := [.lit (.bool true)], args := [d] }
  | _ => none }
def etherBuildsRow : OpenClaim := { program := "ytooepllgefndnaa", sum := "86518485ca4f3cea03b638fcd4d11996c7a84a5307c39918435945fdd40ada85", func := "caravel/caravellaw05.EtherBuilds", spec := "etherBuilds", apart := false }
def EtherBuildsSaid : Prop := etherBuildsRow.holds Try.pinned (OpenSpec.ofChange etherBuildsSpec)

/-- ITS FALSE NEIGHBOUR: 'it returns false'. Refute it at one input. -/
def etherBuildsWrong : ChangeSpec := { name := "etherBuilds", fn := fun _ => fun
  | [d] => { results := [.lit (.bool false)], args := [d] }
  | _ => none }
def EtherBuildsWrongFalsely : Prop := etherBuildsRow.holds Try.pinned (OpenSpec.ofChange etherBuildsWrong)

/-- 'caravellaw05.EtherParses': WHATEVER THE INPUT: true; the input reads as it did. -/
def etherParsesSpec : ChangeSpec := { name := "etherParses", fn := fun _ => fun
  | [d] => { results := [.lit (.bool true)], args := [d] }
  | _ => none }
def etherParsesRow : OpenClaim := { program := "ytooepllgefndnaa", sum := "86518485ca4f3cea03b638fcd4d11996c7a84a5307c39918435945fdd40ada85", func := "caravel/caravellaw05.EtherParses", spec := "etherParses", apart := false }
def EtherParsesSaid : Prop := etherParsesRow.holds Try.pinned (OpenSpec.ofChange etherParsesSpec)

/-- ITS FALSE NEIGHBOUR: 'it returns false'. Refute it at one input. -/
def etherParsesWrong : ChangeSpec := { name := "etherParses", fn := fun _ => fun
  | [d] => { results := [.lit (.bool false)], args := [d] }
  | _ => none }
def EtherParsesWrongFalsely : Prop := etherParsesRow.holds Try.pinned (OpenSpec.ofChange etherParsesWrong)

/-- 'caravellaw05.EtherArps': WHATEVER THE INPUT: true; the input reads as it did. -/
def etherArpsSpec : ChangeSpec := { name := "etherArps", fn := fun _ => fun
  | [d1, d2] => { results := [.lit (.bool true)], args := [d1, d2] }
  | _ => none }
def etherArpsRow : OpenClaim := { program := "ytooepllgefndnaa", sum := "86518485ca4f3cea03b638fcd4d11996c7a84a5307c39918435945fdd40ada85", func := "caravel/caravellaw05.EtherArps", spec := "etherArps", apart := false }
def EtherArpsSaid : Prop := etherArpsRow.holds Try.pinned (OpenSpec.ofChange etherArpsSpec)

/-- ITS FALSE NEIGHBOUR: 'it returns false'. Refute it at one input. -/
def etherArpsWrong : ChangeSpec := { name := "etherArps", fn := fun _ => fun
  | [d1, d2] => { results := [.lit (.bool false)], args := [d1, d2] }
  | _ => none }
def EtherArpsWrongFalsely : Prop := etherArpsRow.holds Try.pinned (OpenSpec.ofChange etherArpsWrong)

/-- 'caravellaw05.EtherReads': WHATEVER THE INPUT: true; the input reads as it did. -/
def etherReadsSpec : ChangeSpec := { name := "etherReads", fn := fun _ => fun
  | [d] => { results := [.lit (.bool true)], args := [d] }
  | _ => none }
def etherReadsRow : OpenClaim := { program := "ytooepllgefndnaa", sum := "86518485ca4f3cea03b638fcd4d11996c7a84a5307c39918435945fdd40ada85", func := "caravel/caravellaw05.EtherReads", spec := "etherReads", apart := false }
def EtherReadsSaid : Prop := etherReadsRow.holds Try.pinned (OpenSpec.ofChange etherReadsSpec)

/-- ITS FALSE NEIGHBOUR: 'it returns false'. Refute it at one input. -/
def etherReadsWrong : ChangeSpec := { name := "etherReads", fn := fun _ => fun
  | [d] => { results := [.lit (.bool false)], args := [d] }
  | _ => none }
def EtherReadsWrongFalsely : Prop := etherReadsRow.holds Try.pinned (OpenSpec.ofChange etherReadsWrong)

/-- 'caravellaw05.EtherUnlike': WHATEVER THE INPUT: true; the input reads as it did. -/
def etherUnlikeSpec : ChangeSpec := { name := "etherUnlike", fn := fun _ => fun
  | [d1, d2, d3] => { results := [.lit (.bool true)], args := [d1, d2, d3] }
  | _ => none }
def etherUnlikeRow : OpenClaim := { program := "ytooepllgefndnaa", sum := "86518485ca4f3cea03b638fcd4d11996c7a84a5307c39918435945fdd40ada85", func := "caravel/caravellaw05.EtherUnlike", spec := "etherUnlike", apart := false }
def EtherUnlikeSaid : Prop := etherUnlikeRow.holds Try.pinned (OpenSpec.ofChange etherUnlikeSpec)

/-- ITS FALSE NEIGHBOUR: 'it returns false'. Refute it at one input. -/
def etherUnlikeWrong : ChangeSpec := { name := "etherUnlike", fn := fun _ => fun
  | [d1, d2, d3] => { results := [.lit (.bool false)], args := [d1, d2, d3] }
  | _ => none }
def EtherUnlikeWrongFalsely : Prop := etherUnlikeRow.holds Try.pinned (OpenSpec.ofChange etherUnlikeWrong)

/-- 'caravellaw05.EtherBack': WHATEVER THE INPUT: true; the input reads as it did. -/
def etherBackSpec : ChangeSpec := { name := "etherBack", fn := fun _ => fun
  | [d] => { results := [.lit (.bool true)], args := [d] }
  | _ => none }
def etherBackRow : OpenClaim := { program := "ytooepllgefndnaa", sum := "86518485ca4f3cea03b638fcd4d11996c7a84a5307c39918435945fdd40ada85", func := "caravel/caravellaw05.EtherBack", spec := "etherBack", apart := false }
def EtherBackSaid : Prop := etherBackRow.holds Try.pinned (OpenSpec.ofChange etherBackSpec)

/-- ITS FALSE NEIGHBOUR: 'it returns false'. Refute it at one input. -/
def etherBackWrong : ChangeSpec := { name := "etherBack", fn := fun _ => fun
  | [d] => { results := [.lit (.bool false)], args := [d] }
  | _ => none }
def EtherBackWrongFalsely : Prop := etherBackRow.holds Try.pinned (OpenSpec.ofChange etherBackWrong)

/- THE SECOND FORM. 'bulk': how many values and letters a reading holds, each counted each time it is reached (what is shared counts as often as it is met; a slice's spare places count too). A statement '..UptoSaid' is the law's where the arguments, and the package variables that the reading takes, are together of bulk at most 1048576: NARROWER than '..Said'. Prove '..Said' where nothing that the law and all that it calls make is longer than what came in: it says more and counts as full. Else prove '..UptoSaid'. A law counts once. -/
mutual
def uptoBulk {H : Type} : DataW H → Nat
  | .lit (.string bytes) => bytes.length + 1
  | .lit _ => 1
  | .nil => 1
  | .ptr d => uptoBulk d + 1
  | .slice elems spare => uptoBulkAll elems + uptoBulkAll spare + 1
  | .agg parts => uptoBulkAll parts + 1
  | .iface _ d => uptoBulk d + 1
  | .map entries => uptoBulkEntries entries + 1
  | .held _ => 1
def uptoBulkAll {H : Type} : List (DataW H) → Nat
  | [] => 0
  | d :: r => uptoBulk d + uptoBulkAll r
def uptoBulkEntries {H : Type} : List (Lit × DataW H) → Nat
  | [] => 0
  | x :: r => uptoBulkEntry x + uptoBulkEntries r
def uptoBulkEntry {H : Type} : Lit × DataW H → Nat
  | (.string bytes, d) => bytes.length + uptoBulk d + 1
  | (_, d) => uptoBulk d + 1
 end
def uptoSmall : (H : Type) → List (DataW H) → Bool := fun _ ds => decide (uptoBulkAll ds ≤ 1048576)
def OpenSpec.upto (s : _root_.Go.ChangeSpec) : _root_.Go.OpenSpec := { _root_.Go.OpenSpec.ofChange s with cond := some uptoSmall }

/-- 'caravellaw05.EtherBuilds', WHERE WHAT IT READS IS OF BULK AT MOST 1048576: true; the input reads as it did. -/
def etherBuildsUptoRow : OpenClaim := { program := "ytooepllgefndnaa", sum := "86518485ca4f3cea03b638fcd4d11996c7a84a5307c39918435945fdd40ada85", func := "caravel/caravellaw05.EtherBuilds", spec := "etherBuilds", apart := false, narrowed := true }
def EtherBuildsUptoSaid : Prop := etherBuildsUptoRow.holds Try.pinned (OpenSpec.upto etherBuildsSpec)

/-- 'caravellaw05.EtherParses', WHERE WHAT IT READS IS OF BULK AT MOST 1048576: true; the input reads as it did. -/
def etherParsesUptoRow : OpenClaim := { program := "ytooepllgefndnaa", sum := "86518485ca4f3cea03b638fcd4d11996c7a84a5307c39918435945fdd40ada85", func := "caravel/caravellaw05.EtherParses", spec := "etherParses", apart := false, narrowed := true }
def EtherParsesUptoSaid : Prop := etherParsesUptoRow.holds Try.pinned (OpenSpec.upto etherParsesSpec)

/-- 'caravellaw05.EtherArps', WHERE WHAT IT READS IS OF BULK AT MOST 1048576: true; the input reads as it did. -/
def etherArpsUptoRow : OpenClaim := { program := "ytooepllgefndnaa", sum := "86518485ca4f3cea03b638fcd4d11996c7a84a5307c39918435945fdd40ada85", func := "caravel/caravellaw05.EtherArps", spec := "etherArps", apart := false, narrowed := true }
def EtherArpsUptoSaid : Prop := etherArpsUptoRow.holds Try.pinned (OpenSpec.upto etherArpsSpec)

/-- 'caravellaw05.EtherReads', WHERE WHAT IT READS IS OF BULK AT MOST 1048576: true; the input reads as it did. -/
def etherReadsUptoRow : OpenClaim := { program := "ytooepllgefndnaa", sum := "86518485ca4f3cea03b638fcd4d11996c7a84a5307c39918435945fdd40ada85", func := "caravel/caravellaw05.EtherReads", spec := "etherReads", apart := false, narrowed := true }
def EtherReadsUptoSaid : Prop := etherReadsUptoRow.holds Try.pinned (OpenSpec.upto etherReadsSpec)

/-- 'caravellaw05.EtherUnlike', WHERE WHAT IT READS IS OF BULK AT MOST 1048576: true; the input reads as it did. -/
def etherUnlikeUptoRow : OpenClaim := { program := "ytooepllgefndnaa", sum := "86518485ca4f3cea03b638fcd4d11996c7a84a5307c39918435945fdd40ada85", func := "caravel/caravellaw05.EtherUnlike", spec := "etherUnlike", apart := false, narrowed := true }
def EtherUnlikeUptoSaid : Prop := etherUnlikeUptoRow.holds Try.pinned (OpenSpec.upto etherUnlikeSpec)

/-- 'caravellaw05.EtherBack', WHERE WHAT IT READS IS OF BULK AT MOST 1048576: true; the input reads as it did. -/
def etherBackUptoRow : OpenClaim := { program := "ytooepllgefndnaa", sum := "86518485ca4f3cea03b638fcd4d11996c7a84a5307c39918435945fdd40ada85", func := "caravel/caravellaw05.EtherBack", spec := "etherBack", apart := false, narrowed := true }
def EtherBackUptoSaid : Prop := etherBackUptoRow.holds Try.pinned (OpenSpec.upto etherBackSpec)

end Rows
end Go.Proofs.Ytooepllgefndnaa
