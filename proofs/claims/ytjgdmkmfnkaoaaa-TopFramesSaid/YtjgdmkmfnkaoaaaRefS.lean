/-
  caravelref02.Fold, Sum (not Adjust): the document's own answers, of every text: they are the plain functions of the contracts.
-/
import Derived.Test.YtjgdmkmfnkaoaaaFoldS
namespace Go.Proofs.Ytjgdmkmfnkaoaaa
open Go.RowKit

/-- the bytes of a text -/
abbrev txt (l : List UInt8) : Value := .string ⟨l.toArray⟩
theorem tot_snoc (l : List UInt8) (k : Nat) (h : k < l.length) : tot true (l.take (k + 1)) = tot true (l.take k) + if k % 2 = 0 then 256 * l[k].toNat else l[k].toNat := by
  have hk : (l.take k).length = k := by rw [List.length_take]; omega
  rw [List.take_succ_eq_append_getElem h, tot_append]
  unfold par
  rw [hk]
  by_cases h2 : k % 2 = 0
  · rw [if_pos h2, h2]; rfl
  · rw [if_neg h2, show k % 2 = 1 from by omega]; rfl

set_option maxHeartbeats 1000000 in
theorem reffold_any (l : List UInt8) (w : World) (hl : l.length ≤ 1000000) :
    Calls Try.prog 41 #[txt l] w fun e w' => e = .returned (.int .u16 (sumL l : Nat)) ∧ w = w' := by
  go_enter Try.func41, Try.ntmps41
  go_wp2
  go_loop [3, 4] (fun n i => ∃ k m : Nat, k ≤ l.length ∧ i = .int .i64 k ∧ n = .int .i64 m ∧ Hid (m = tot true (l.take k)) ∧ m ≤ 65280 * k) (fun _ i => l.length - (intOf i).toNat)
  case atStart => exact ⟨0, 0, Nat.zero_le _, rfl, rfl, by show _ = _; simp [tot], by omega⟩
  case round =>
    obtain ⟨k, m, hk, rfl, rfl, HM, hm⟩ := hrel
    by_cases hks : k < l.length
    · have ht := tot_snoc l k hks
      obtain ⟨x, hx⟩ : ∃ x, l[k] = x := ⟨_, rfl⟩
      have hxl := x.toNat_lt
      rw [hx] at ht
      have hx2 : (⟨l.toArray⟩ : ByteArray)[k]'(by show k < l.length; exact hks) = x := hx
      clear hx
      by_cases h2 : k % 2 = 0
      · rw [if_pos h2, ← HM.out] at ht
        have HT : Hid (m + 256 * x.toNat = tot true (l.take (k + 1))) := ht.symm
        have hd : ((k : Int) % 2 == 0) = true := beqT (by omega)
        clear ht h2
        go_wp2
        go_round
        case rel => exact ⟨k + 1, _, by omega, by go_num, by go_num, HT, by omega⟩
        case measure => simp [intOf]; omega
      · rw [if_neg h2, ← HM.out] at ht
        have HT : Hid (m + x.toNat = tot true (l.take (k + 1))) := ht.symm
        have hd : ((k : Int) % 2 == 0) = false := beqF (by omega)
        clear ht h2
        go_wp2
        go_round
        case rel => exact ⟨k + 1, _, by omega, by go_num, by go_num, HT, by omega⟩
        case measure => simp [intOf]; omega
    · obtain rfl : k = l.length := by omega
      have HS : Hid (sumL l = fold16 m) := by show _ = _; rw [HM.out, List.take_length]; rfl
      clear HM
      by_cases h0 : m = 0
      · have HF : Hid (sumL l = 0) := by show _ = _; rw [HS.out, h0]; rfl
        have hd : (m : Int) ≤ 0 := by omega
        have HV : Hid ((m : Int) % 65535 = 0) := by show _ = _; omega
        clear h0
        go_wp2
        go_ret
        exact ⟨by rw [HF.out]; exact ret_i HV.out, rfl⟩
      · have hd : 0 < (m : Int) := by omega
        by_cases h1 : m % 65535 = 0
        · have HF : Hid (sumL l = 65535) := by show _ = _; rw [HS.out]; unfold fold16; rw [if_neg h0, if_pos h1]
          have hd1 : ((m : Int) % 65535 == 0) = true := beqT (by omega)
          clear h0 h1
          go_wp2
          go_ret
          exact ⟨by rw [HF.out]; rfl, rfl⟩
        · have HF : Hid (sumL l = m % 65535) := by show _ = _; rw [HS.out]; unfold fold16; rw [if_neg h0, if_neg h1]
          have hd1 : ((m : Int) % 65535 == 0) = false := beqF (by omega)
          clear h0
          go_wp2
          go_ret
          exact ⟨by rw [HF.out]; exact ret_i (by omega), rfl⟩
theorem refsum_any (l : List UInt8) (w : World) (hl : l.length ≤ 1000000) :
    Calls Try.prog 35 #[txt l] w fun e w' => e = .returned (.int .u16 (65535 - sumL l : Nat)) ∧ w = w' := by
  have HL := sumL_le l
  go_enter Try.func35, Try.ntmps35
  go_wp2_with fail
  refine (reffold_any l _ hl).mono ?_
  rintro e w1 ⟨rfl, rfl⟩
  go_wp2_with fail
  go_ret
  exact ⟨ret_i (by omega), rfl⟩
end Go.Proofs.Ytjgdmkmfnkaoaaa
