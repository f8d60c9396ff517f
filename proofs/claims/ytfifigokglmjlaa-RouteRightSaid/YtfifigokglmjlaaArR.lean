/-
  Routes, acts and addresses as arguments. No condition.
-/
import Derived.Test.YtfifigokglmjlaaRo
namespace Go.Proofs.Ytfifigokglmjlaa
open Go.RowKit

abbrev ShIp : Sh := .rep 4 (.num .u8)
abbrev ShRo : Sh := .cat ShIp (.cat (.num .i64) (.cat ShIp .non))
theorem ip_of {w : World} {cs : List Value} (h : ShIp.ok w cs) : ∃ a : Ip, cs = (ipA a).toList := by
  obtain ⟨l, hl, rfl⟩ := rep_bytes h
  match l, hl with
  | [x0, x1, x2, x3], _ => exact ⟨⟨x0, x1, x2, x3⟩, rfl⟩
theorem ro_of {w : World} {cs : List Value} (h : ShRo.ok w cs) : ∃ r : Ro, cs = (roA r).toList ∧ I64 r.bits := by
  obtain ⟨c1, c2, rfl, h1, c3, c4, rfl, ⟨n, rfl, hn⟩, c5, c6, rfl, h5, rfl⟩ := h
  obtain ⟨a, rfl⟩ := ip_of h1
  obtain ⟨b, rfl⟩ := ip_of h5
  exact ⟨⟨a, n, b⟩, rfl, i64_of hn⟩
theorem ros_of {w : World} {A : Option Addr} {len cap : Nat} (h : (Sh.sl ShRo).ok w [.slice A len cap]) : ∃ l : List Ro, l.length = len ∧ RoT w (.slice A len cap) l ∧ (∀ r ∈ l, I64 r.bits) ∧ len ≤ 140737488351232 :=
  sl_of roE (by decide) rfl (fun _ h => ro_of h) h
end Go.Proofs.Ytfifigokglmjlaa
