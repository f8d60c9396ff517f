/-
  SeqTouch returns true for every two numbers and every two bytes, and turns nothing that was there.
-/
import Derived.Test.YtmkbbhgfclpbeaaRef
import Derived.RegionTactic
import Derived.Deep.QuietTactic
import Derived.BigQuiet
import Derived.LoopTactic
namespace Go.Proofs.Ytmkbbhgfclpbeaa
open Go.RowKit

/-- one of the first so many numbers from a on is among the v numbers from f on -/
def touch (a f v : Int) : Nat → Bool
  | 0 => false
  | k + 1 => touch a f v k || inS (addS a k) f v
theorem touch_iff (a f v : Int) (n : Nat) : touch a f v n = true ↔ ∃ j : Nat, j < n ∧ inS (addS a j) f v = true := by
  induction n with
  | zero => simp [touch]
  | succ n ih =>
    unfold touch
    rw [Bool.or_eq_true, ih]
    constructor
    · rintro (⟨j, h1, h2⟩ | h)
      · exact ⟨j, by omega, h2⟩
      · exact ⟨n, by omega, h⟩
    · rintro ⟨j, h1, h2⟩
      by_cases hj : j = n
      · subst hj; exact .inr h2
      · exact .inl ⟨j, by omega, h2⟩
theorem touch_fits (a f v : Int) (n : Nat) (hn : 0 < n) (hm : n ≤ 255) : fitsS a n f v = touch a f v n := by
  rw [Bool.eq_iff_iff, touch_iff]
  unfold fitsS
  rw [if_pos (by omega), Bool.and_eq_true, Bool.or_eq_true]
  unfold inS
  simp only [Bool.and_eq_true, decide_eq_true_eq]
  constructor
  · rintro ⟨hv, ⟨_, h⟩ | ⟨_, h⟩⟩
    · exact ⟨0, hn, hv, by unfold addS; omega⟩
    · exact ⟨((f - a) % 4294967296).toNat, by omega, hv, by unfold addS; omega⟩
  · rintro ⟨j, hj, hv, h⟩
    refine ⟨hv, ?_⟩
    unfold addS at h
    by_cases hc : (a - f) % 4294967296 < v
    · exact .inl ⟨hv, hc⟩
    · exact .inr ⟨by omega, by omega⟩

set_option maxHeartbeats 1000000 in
theorem touch_walk (a f : Int) (n v : Nat) (w : World) (hn : n ≤ 255) (hv : v ≤ 255) :
    Calls Try.prog 6 #[.int .u32 a, .int .u32 f, .agg #[.int .u8 n, .int .u8 v]] w fun e w' => e = .returned (.bool true) ∧ Below w.heap.size w w' := by
  go_enter Try.func6, Try.ntmps6
  go_wp2_with fail
  go_quiet (fail)
  rename_i nq
  have hB : Below w.heap.size w ((w.alloc (.cells #[.int .u8 n, .int .u8 v] 32)).drewN nq) := below_drewN' ((Below.refl _ _).alloc (Nat.le_refl _) _) nq
  generalize (w.alloc (.cells #[.int .u8 n, .int .u8 v] 32)).drewN nq = wq at hB ⊢
  go_wp2_with fail
  refine (lives_any _).mono ?_
  rintro e w1 ⟨rfl, rfl⟩
  go_wp2
  go_loop [9, 19] (fun t i => ∃ k : Nat, k ≤ n ∧ i = .int .i64 k ∧ t = .bool (touch a f v k)) (fun _ i => n - (intOf i).toNat)
  case atStart => exact ⟨0, Nat.zero_le _, rfl, rfl⟩
  case round =>
    obtain ⟨k, hk, rfl, rfl⟩ := hrel
    by_cases hkn : k < n
    · have e : touch a f v (k + 1) = (touch a f v k || inS (addS a k) f v) := rfl
      have E := Lib.hid e
      clear e
      generalize touch a f v k = b at E ⊢
      cases b
      · go_wp2_with fail
        refine (add_any _ _ _).mono ?_
        rintro e w1 ⟨rfl, rfl⟩
        go_wp2_with fail
        refine (in_any _ _ _ _ (by omega)).mono ?_
        rintro e w1 ⟨rfl, rfl⟩
        go_wp2
        go_round
        case rel => exact ⟨k + 1, by omega, by go_num, by rw [E.out, Bool.false_or]⟩
        case measure => simp [intOf]; omega
      · go_wp2
        go_round
        case rel => exact ⟨k + 1, by omega, by go_num, by rw [E.out, Bool.true_or]⟩
        case measure => simp [intOf]; omega
    · obtain rfl : n = k := by omega
      by_cases h0 : n = 0
      · subst h0
        by_cases hv0 : v = 0
        · subst hv0
          have k1 := in_any a f 0 wq (by omega)
          have k2 := fits_any a 0 f 0 wq (by omega) (by omega)
          rw [show inS a f 0 = false from rfl] at k1
          rw [show fitsS a 0 f 0 = (a == f) from rfl] at k2
          go_wp2_with fail
          refine (k1).mono ?_
          rintro e w1 ⟨rfl, rfl⟩
          go_wp2_with fail
          refine (k2).mono ?_
          rintro e w1 ⟨rfl, rfl⟩
          go_wp2
          go_ret
          exact ⟨rfl, hB⟩
        · have hv1 : 0 < v := by omega
          have hz : ((v : Int) == 0) = false := beqF (by omega)
          clear hv0
          have k1 := in_any a f v wq (by omega)
          have k2 := fits_any a 0 f v wq (by omega) (by omega)
          rw [show fitsS a 0 f v = inS a f v by unfold fitsS; rw [if_neg (by omega), if_pos (by omega)]] at k2
          generalize inS a f v = b at k1 k2
          cases b
          all_goals
            go_wp2_with fail
            refine (k1).mono ?_
            rintro e w1 ⟨rfl, rfl⟩
            go_wp2_with fail
            refine (k2).mono ?_
            rintro e w1 ⟨rfl, rfl⟩
            go_wp2
            go_ret
            exact ⟨rfl, hB⟩
      · have hz : ((n : Int) == 0) = false := beqF (by omega)
        have hf := Lib.hid (touch_fits a f v n (by omega) hn)
        clear h0
        go_wp2_with fail
        refine (fits_any _ _ _ _ _ (by omega) (by omega)).mono ?_
        rintro e w1 ⟨rfl, rfl⟩
        rw [hf.out]
        go_wp2
        go_ret
        exact ⟨rfl, hB⟩
end Go.Proofs.Ytmkbbhgfclpbeaa
