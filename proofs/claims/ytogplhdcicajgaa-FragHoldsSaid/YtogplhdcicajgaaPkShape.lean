/-
  A packet among a law's arguments, as the laws' frames tell of it. No condition.
-/
import Derived.Test.YtogplhdcicajgaaPv
import Derived.Test.YtogplhdcicajgaaShape
namespace Go.Proofs.Ytogplhdcicajgaa
open Go.RowKit

theorem u8_of (n : Nat) : (UInt8.ofNat n).toNat = n % 256 := by rw [UInt8.toNat_ofNat']
/-- a packet, as the laws' frames tell of it -/
theorem pk_of_ok {w : World} {cs : List Value} (h : (Sh.cat (.num .u16) (.cat .bit (.cat (.num .i64) (.cat (.num .u8) (.cat (.num .u8) (.cat (.rep 4 (.num .u8)) (.cat (.rep 4 (.num .u8)) (.cat (.sl (.num .u8)) .non)))))))).ok w cs) : ∃ p : Pk, PkV w 0 w.heap.size cs.toArray p := by
  obtain ⟨c1, c2, rfl, ⟨id, rfl, hid⟩, c3, c4, rfl, ⟨mr, rfl⟩, c5, c6, rfl, ⟨off, rfl, hoff⟩, c7, c8, rfl, ⟨ttl, rfl, httl⟩, c9, c10, rfl, ⟨pr, rfl, hpr⟩, c11, c12, rfl, h11, c13, c14, rfl, h13, c15, c16, rfl, h15, rfl⟩ := h
  obtain ⟨s, hs, rfl⟩ := rep_bytes h11
  obtain ⟨d, hd, rfl⟩ := rep_bytes h13
  have hb : 0 ≤ id ∧ id ≤ 65535 := by
    simp [Lit.wf, IntKind.min, IntKind.max, IntKind.signed, IntKind.bits] at hid
    omega
  obtain ⟨idn, rfl⟩ := Int.eq_ofNat_of_zero_le hb.1
  have ht : 0 ≤ ttl ∧ ttl ≤ 255 := by
    simp [Lit.wf, IntKind.min, IntKind.max, IntKind.signed, IntKind.bits] at httl
    omega
  obtain ⟨tx, rfl⟩ : ∃ y : UInt8, ttl = (y.toNat : Int) := ⟨UInt8.ofNat ttl.toNat, by rw [u8_of]; omega⟩
  have hp : 0 ≤ pr ∧ pr ≤ 255 := by
    simp [Lit.wf, IntKind.min, IntKind.max, IntKind.signed, IntKind.bits] at hpr
    omega
  obtain ⟨px, rfl⟩ : ∃ y : UInt8, pr = (y.toNat : Int) := ⟨UInt8.ofNat pr.toNat, by rw [u8_of]; omega⟩
  have ho : -9223372036854775808 ≤ off ∧ off ≤ 9223372036854775807 := by
    simp [Lit.wf, IntKind.min, IntKind.max, IntKind.signed, IntKind.bits] at hoff
    omega
  obtain ⟨A, len, cap, rfl⟩ : ∃ A len cap, c15 = [.slice A len cap] := by
    rcases h15 with rfl | ⟨ad, len, cap, rfl, _⟩
    · exact ⟨none, 0, 0, rfl⟩
    · exact ⟨some ad, len, cap, rfl⟩
  obtain ⟨l, hl, hc, hm, hr, hA⟩ := sl_bytes h15
  refine ⟨⟨idn, mr, off, tx, px, s, d, l⟩, A, cap, ?_, ⟨by simp only; omega, hs, hd⟩, ho, hr, by simp only; omega, by unfold maxLen; omega, hA⟩
  simp [pkC, hl]

end Go.Proofs.Ytogplhdcicajgaa
