/-
  A slice of what is done, as the laws are handed it. No condition.
-/
import Derived.Test.YtljochpomgjjeaaLiW
namespace Go.Proofs.Ytljochpomgjjeaa
open Go.RowKit

/-- something that is done -/
structure Op16 where
  kind : Int
  id : Int
  after : Nat
def opA (o : Op16) : Array Value := #[.int .i64 o.kind, .int .i64 o.id, .int .u64 (o.after : Int)]
theorem opE : El opA 3 := ⟨fun _ => rfl, fun a => by simp [opA, Value.oneCell']⟩
def okO (o : Op16) : Prop := I64 o.kind ∧ I64 o.id ∧ o.after < 18446744073709551616
abbrev ShOp16 : Sh := .cat (.num .i64) (.cat (.num .i64) (.cat (.num .u64) .non))
theorem ops_of {w : World} {A : Option Addr} {len cap : Nat} (h : (Sh.sl ShOp16).ok w [.slice A len cap]) : ∃ l : List Op16, l.length = len ∧ SlT opA w (.slice A len cap) l ∧ (∀ o ∈ l, okO o) ∧ len ≤ 140737488351232 :=
  sl_of (s := ShOp16) (Pr := okO) opE (by decide) rfl (fun cs h => by
    obtain ⟨c1, c2, rfl, ⟨k, rfl, hk⟩, c3, c4, rfl, ⟨d, rfl, hd⟩, c5, c6, rfl, ⟨a, rfl, ha⟩, rfl⟩ := h
    obtain ⟨n, rfl, hn⟩ := u64_of ha
    exact ⟨⟨k, d, n⟩, rfl, i64_of hk, i64_of hd, hn⟩) h
end Go.Proofs.Ytljochpomgjjeaa
