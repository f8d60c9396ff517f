/-
  A wheel as the laws are handed it. No condition.
-/
import Derived.Test.YtljochpomgjjeaaLiW
namespace Go.Proofs.Ytljochpomgjjeaa
open Go.RowKit

abbrev ShTm : Sh := .cat (.num .i64) (.cat (.num .u64) .non)
theorem tms_of {w : World} {A : Option Addr} {len cap : Nat} (h : (Sh.sl ShTm).ok w [.slice A len cap]) : ∃ T : List Tm, T.length = len ∧ SlT tmA w (.slice A len cap) T ∧ (∀ t ∈ T, I64 t.id ∧ t.due < 18446744073709551616) ∧ len ≤ 140737488351232 :=
  sl_of (s := ShTm) (Pr := fun t : Tm => I64 t.id ∧ t.due < 18446744073709551616) tmE (by decide) rfl (fun cs h => by
    obtain ⟨c1, c2, rfl, ⟨k, rfl, hk⟩, c3, c4, rfl, ⟨a, rfl, ha⟩, rfl⟩ := h
    obtain ⟨n, rfl, hn⟩ := u64_of ha
    exact ⟨⟨k, n⟩, rfl, i64_of hk, hn⟩) h
theorem wheel_of {w : World} {cs : List Value} (h : (Sh.cat (.num .u64) (.cat (.sl ShTm) .non)).ok w cs) : ∃ (n : Nat) (T : List Tm) (s : Value), cs = [.int .u64 (n : Int), s] ∧ n < 18446744073709551616 ∧ SlT tmA w s T ∧ okT T ∧ T.length ≤ 140737488351232 := by
  obtain ⟨x1, x2, rfl, ⟨z, rfl, hz⟩, x3, x4, rfl, hs, rfl⟩ := h
  obtain ⟨n, rfl, hn⟩ := u64_of hz
  obtain ⟨A, len, cap, rfl⟩ : ∃ A len cap, x3 = [.slice A len cap] := by
    rcases hs with h | ⟨ad, len, cap, h, _⟩
    · exact ⟨_, _, _, h⟩
    · exact ⟨_, _, _, h⟩
  obtain ⟨T, hl, ht, hT, hm⟩ := tms_of hs
  exact ⟨n, T, _, rfl, hn, ht, hT, by omega⟩
end Go.Proofs.Ytljochpomgjjeaa
