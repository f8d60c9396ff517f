/-
  OctetsAgain returns true for every n and size, and turns nothing that was there.
-/
import Derived.Test.YtclnmihcjkbopaaLives
import Derived.Test.YtclnmihcjkbopaaGet
namespace Go.Proofs.Ytclnmihcjkbopaa
open Go.RowKit

theorem putS_bad (n : Nat) (size : Int) (h : (putS n size).2 ≠ 0) : (putS n size).1 = [] := by
  unfold putS at h ⊢
  split
  · rfl
  · split
    · rfl
    · rename_i h1 h2
      rw [if_neg h1, if_neg h2] at h
      exact absurd rfl h
theorem putS_good (n : Nat) (size : Int) (h : (putS n size).2 = 0) : ∃ s : Nat, size = s ∧ 1 ≤ s ∧ s ≤ 8 ∧ n < 2 ^ (8 * s) ∧ (putS n size).1 = putL n s := by
  unfold putS at h ⊢
  split
  · rename_i h1
    rw [if_pos h1] at h
    cases h
  · rename_i h1
    split
    · rename_i h2
      rw [if_neg h1, if_pos h2] at h
      cases h
    · rename_i h2
      exact ⟨size.toNat, by omega, by omega, by omega, by omega, rfl⟩
theorem get_put (n s : Nat) (h1 : s ≤ 8) (h2 : n < 2 ^ (8 * s)) : getS (putL n s) = (n, 0) := by
  unfold getS
  rw [putL_length, if_neg (by omega), getV_putL, Nat.mod_eq_of_lt h2]

set_option maxHeartbeats 400000 in
theorem again_walk (n : Nat) (size : Int) (w : World) (hn : n < 2 ^ 64) :
    Calls Try.prog 4 #[.int .u64 n, .int .i64 size] w fun e w' => e = .returned (.bool true) ∧ Below w.heap.size w w' := by
  obtain ⟨r, hr⟩ : ∃ r, putS n size = r := ⟨_, rfl⟩
  have HR := Lib.hid hr
  go_enter Try.func4, Try.ntmps4
  go_wp2_with fail
  refine (lives_any _).mono ?_
  rintro e w1 ⟨rfl, hb1⟩
  go_wp2_with fail
  have hput := put_any n size w1 hn
  rw [hr] at hput
  clear hr
  refine hput.mono ?_
  rintro e w2 ⟨A, c, rfl, hrd, hb2⟩
  have hB2 : Below w.heap.size w w2 := hb1.trans (hb2.mono hb1.size)
  by_cases h0 : r.2 = 0
  · obtain ⟨s, hs, hs1, hs8, hns, hl⟩ := putS_good n size (by rw [HR.out]; exact h0)
    rw [HR.out] at hl
    have hg := get_any A r.1 c _ _ w2 hrd (by rw [hl, putL_length]; unfold maxLen; omega)
    rw [hl, get_put n s hs8 hns, putL_length] at hg
    rw [hl, putL_length, h0, hs]
    clear hl hrd h0 hs hput HR hns hn hb1 hb2
    go_wp2_with fail
    refine hg.mono ?_
    rintro e w3 ⟨rfl, rfl⟩
    clear hg
    go_wp2
    go_ret
    exact ⟨rfl, hB2⟩
  · have he := putS_bad n size (by rw [HR.out]; exact h0)
    rw [HR.out] at he
    rw [he]
    have hne : (r.2 == 0) = false := by simpa using h0
    have hne2 : (r.2 != 0) = true := by simpa using h0
    clear hrd he hput HR h0 hn hb1 hb2
    go_wp2
    go_ret
    exact ⟨rfl, hB2⟩
end Go.Proofs.Ytclnmihcjkbopaa
