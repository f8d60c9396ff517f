/-
  The document's clocks: bound, Right, Measure, Double. Every clock that is right (Right: every clock), every time.
-/
import Derived.Test.YtafpnmmkaanjaaaCk
namespace Go.Proofs.Ytafpnmmkaanjaaa
open Go.RowKit

theorem refbound_any (n : Int) (w : World) : Calls Try.prog 17 #[.int .i64 n] w fun e w' => e = .returned (.int .i64 (boundX n)) ∧ Below w.heap.size w w' := by
  unfold boundX
  rcases Int.lt_or_le n 4 with h | h
  · rw [if_pos h]
    go_enter Try.func17, Try.ntmps17
    go_wp2
    go_ret
    exact ⟨rfl, Below.refl _ _⟩
  · have h4 : ¬ n < 4 := by omega
    rw [if_neg h4]
    rcases Int.lt_or_le 240 n with k | k
    · rw [if_pos k]
      go_enter Try.func17, Try.ntmps17
      go_wp2
      go_ret
      exact ⟨rfl, Below.refl _ _⟩
    · have k4 : ¬ 240 < n := by omega
      rw [if_neg k4]
      go_enter Try.func17, Try.ntmps17
      go_wp2
      go_ret
      exact ⟨rfl, Below.refl _ _⟩
theorem right_split (s d v : Int) : rightX ⟨s, d, v⟩ = ((decide (4 ≤ v) && decide (v ≤ 240)) && ((decide (s = -1) && decide (d = -1)) || (((decide (0 ≤ s) && decide (s < 1928)) && decide (0 ≤ d)) && decide (d < 964)))) := by
  rw [Bool.eq_iff_iff, right_iff]
  simp
  omega
set_option maxHeartbeats 4000000 in
theorem refright_any (c : Ck) (w : World) : Calls Try.prog 9 #[.agg (ckA c)] w fun e w' => e = .returned (.bool (rightX c)) ∧ Below w.heap.size w w' := by
  obtain ⟨s, d, v⟩ := c
  have HR := Lib.hid (right_split s d v)
  rw [HR.out]
  simp only [ckA]
  clear HR
  by_cases h1 : s = -1
  · subst h1
    by_cases h2 : d = -1
    · subst h2
      by_cases h3 : 4 ≤ v
      · by_cases h4 : v ≤ 240
        · go_enter Try.func9, Try.ntmps9
          go_wp2
          go_ret
          exact ⟨by simp [*] <;> omega, (Below.refl _ _).alloc (Nat.le_refl _) _⟩
        · go_enter Try.func9, Try.ntmps9
          go_wp2
          go_ret
          exact ⟨by simp [*] <;> omega, (Below.refl _ _).alloc (Nat.le_refl _) _⟩
      · go_enter Try.func9, Try.ntmps9
        go_wp2
        go_ret
        exact ⟨by simp [*] <;> omega, (Below.refl _ _).alloc (Nat.le_refl _) _⟩
    · by_cases h3 : 4 ≤ v
      · by_cases h4 : v ≤ 240
        · go_enter Try.func9, Try.ntmps9
          go_wp2
          go_ret
          exact ⟨by simp [*] <;> omega, (Below.refl _ _).alloc (Nat.le_refl _) _⟩
        · go_enter Try.func9, Try.ntmps9
          go_wp2
          go_ret
          exact ⟨by simp [*] <;> omega, (Below.refl _ _).alloc (Nat.le_refl _) _⟩
      · go_enter Try.func9, Try.ntmps9
        go_wp2
        go_ret
        exact ⟨by simp [*] <;> omega, (Below.refl _ _).alloc (Nat.le_refl _) _⟩
  · by_cases h5 : 0 ≤ s
    · by_cases h6 : s < 1928
      · by_cases h7 : 0 ≤ d
        · by_cases h8 : d < 964
          · by_cases h3 : 4 ≤ v
            · by_cases h4 : v ≤ 240
              · go_enter Try.func9, Try.ntmps9
                go_wp2
                go_ret
                exact ⟨by simp [*] <;> omega, (Below.refl _ _).alloc (Nat.le_refl _) _⟩
              · go_enter Try.func9, Try.ntmps9
                go_wp2
                go_ret
                exact ⟨by simp [*] <;> omega, (Below.refl _ _).alloc (Nat.le_refl _) _⟩
            · go_enter Try.func9, Try.ntmps9
              go_wp2
              go_ret
              exact ⟨by simp [*] <;> omega, (Below.refl _ _).alloc (Nat.le_refl _) _⟩
          · by_cases h3 : 4 ≤ v
            · by_cases h4 : v ≤ 240
              · go_enter Try.func9, Try.ntmps9
                go_wp2
                go_ret
                exact ⟨by simp [*] <;> omega, (Below.refl _ _).alloc (Nat.le_refl _) _⟩
              · go_enter Try.func9, Try.ntmps9
                go_wp2
                go_ret
                exact ⟨by simp [*] <;> omega, (Below.refl _ _).alloc (Nat.le_refl _) _⟩
            · go_enter Try.func9, Try.ntmps9
              go_wp2
              go_ret
              exact ⟨by simp [*] <;> omega, (Below.refl _ _).alloc (Nat.le_refl _) _⟩
        · by_cases h3 : 4 ≤ v
          · by_cases h4 : v ≤ 240
            · go_enter Try.func9, Try.ntmps9
              go_wp2
              go_ret
              exact ⟨by simp [*] <;> omega, (Below.refl _ _).alloc (Nat.le_refl _) _⟩
            · go_enter Try.func9, Try.ntmps9
              go_wp2
              go_ret
              exact ⟨by simp [*] <;> omega, (Below.refl _ _).alloc (Nat.le_refl _) _⟩
          · go_enter Try.func9, Try.ntmps9
            go_wp2
            go_ret
            exact ⟨by simp [*] <;> omega, (Below.refl _ _).alloc (Nat.le_refl _) _⟩
      · by_cases h3 : 4 ≤ v
        · by_cases h4 : v ≤ 240
          · go_enter Try.func9, Try.ntmps9
            go_wp2
            go_ret
            exact ⟨by simp [*] <;> omega, (Below.refl _ _).alloc (Nat.le_refl _) _⟩
          · go_enter Try.func9, Try.ntmps9
            go_wp2
            go_ret
            exact ⟨by simp [*] <;> omega, (Below.refl _ _).alloc (Nat.le_refl _) _⟩
        · go_enter Try.func9, Try.ntmps9
          go_wp2
          go_ret
          exact ⟨by simp [*] <;> omega, (Below.refl _ _).alloc (Nat.le_refl _) _⟩
    · by_cases h3 : 4 ≤ v
      · by_cases h4 : v ≤ 240
        · go_enter Try.func9, Try.ntmps9
          go_wp2
          go_ret
          exact ⟨by simp [*] <;> omega, (Below.refl _ _).alloc (Nat.le_refl _) _⟩
        · go_enter Try.func9, Try.ntmps9
          go_wp2
          go_ret
          exact ⟨by simp [*] <;> omega, (Below.refl _ _).alloc (Nat.le_refl _) _⟩
      · go_enter Try.func9, Try.ntmps9
        go_wp2
        go_ret
        exact ⟨by simp [*] <;> omega, (Below.refl _ _).alloc (Nat.le_refl _) _⟩
end Go.Proofs.Ytafpnmmkaanjaaa
