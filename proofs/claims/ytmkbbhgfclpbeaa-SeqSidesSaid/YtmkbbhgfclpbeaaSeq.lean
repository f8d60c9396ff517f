/-
  What each of seq's functions answers. Every world; nothing turns.
-/
import Derived.Test.YtmkbbhgfclpbeaaMem
import Derived.Test.YtmkbbhgfclpbeaaNum
import Derived.WalkKit
namespace Go.Proofs.Ytmkbbhgfclpbeaa
open Go.RowKit

theorem add_any (a n : Int) (w : World) : Calls Try.prog 12 #[.int .u32 a, .int .i64 n] w fun e w' => e = .returned (.int .u32 (addS a n)) ∧ w = w' := by
  go_enter Try.func12, Try.ntmps12
  go_wp2
  go_ret
  exact ⟨congrArg (fun z => Ending.returned (.int .u32 z)) (wrap_add a n), rfl⟩
theorem diff_any (a b : Int) (w : World) : Calls Try.prog 14 #[.int .u32 a, .int .u32 b] w fun e w' => e = .returned (.int .i64 (diffS a b)) ∧ w = w' := by
  go_enter Try.func14, Try.ntmps14
  go_wp2
  go_ret
  exact ⟨congrArg (fun z => Ending.returned (.int .i64 z)) (wrap_diff a b), rfl⟩
theorem less_any (a b : Int) (w : World) : Calls Try.prog 15 #[.int .u32 a, .int .u32 b] w fun e w' => e = .returned (.bool (decide (diffS a b < 0))) ∧ w = w' := by
  go_enter Try.func15, Try.ntmps15
  go_wp2_with fail
  refine (diff_any _ _ _).mono ?_
  rintro e w1 ⟨rfl, rfl⟩
  go_wp2
  go_ret
  exact ⟨rfl, rfl⟩
theorem max_any (a b : Int) (w : World) : Calls Try.prog 16 #[.int .u32 a, .int .u32 b] w fun e w' => e = .returned (.int .u32 (maxS a b)) ∧ w = w' := by
  unfold maxS
  by_cases h : diffS a b < 0
  all_goals
    simp only [h, if_true, if_false]
    go_enter Try.func16, Try.ntmps16
    go_wp2_with fail
    refine (less_any _ _ _).mono ?_
    rintro e w1 ⟨rfl, rfl⟩
    go_wp2
    go_ret
    exact ⟨rfl, rfl⟩
theorem in_any (a f n : Int) (w : World) (hn : n ≤ 9223372036854775807) : Calls Try.prog 17 #[.int .u32 a, .int .u32 f, .int .i64 n] w fun e w' => e = .returned (.bool (inS a f n)) ∧ w = w' := by
  by_cases h : 0 < n
  · go_enter Try.func17, Try.ntmps17
    go_wp2
    go_ret
    exact ⟨congrArg (fun z => Ending.returned (.bool z)) (inS_pos a f n h).symm, rfl⟩
  · rw [inS_neg a f n h]
    go_enter Try.func17, Try.ntmps17
    go_wp2
    go_ret
    exact ⟨rfl, rfl⟩
theorem fits_any (a n f v : Int) (w : World) (hn : n ≤ 9223372036854775807) (hv : v ≤ 9223372036854775807) :
    Calls Try.prog 19 #[.int .u32 a, .int .i64 n, .int .u32 f, .int .i64 v] w fun e w' => e = .returned (.bool (fitsS a n f v)) ∧ w = w' := by
  by_cases h1 : 0 < n
  · by_cases h2 : 0 < v
    · have e : fitsS a n f v = (inS a f v || inS f a n) := by unfold fitsS; simp [h1, h2]
      rw [e]
      clear e
      obtain ⟨b, hb⟩ : ∃ b, inS a f v = b := ⟨_, rfl⟩
      have hc := in_any a f v w hv
      rw [hb] at hc ⊢
      clear hb
      cases b
      · go_enter Try.func19, Try.ntmps19
        go_wp2_with fail
        refine hc.mono ?_
        rintro e w1 ⟨rfl, rfl⟩
        clear hc
        go_wp2_with fail
        refine (in_any _ _ _ _ hn).mono ?_
        rintro e w1 ⟨rfl, rfl⟩
        go_wp2
        go_ret
        exact ⟨rfl, rfl⟩
      · go_enter Try.func19, Try.ntmps19
        go_wp2_with fail
        refine hc.mono ?_
        rintro e w1 ⟨rfl, rfl⟩
        clear hc
        go_wp2
        go_ret
        exact ⟨rfl, rfl⟩
    · have e : fitsS a n f v = false := by unfold fitsS; simp [h1, h2]
      rw [e]
      clear e
      go_enter Try.func19, Try.ntmps19
      go_wp2
      go_ret
      exact ⟨rfl, rfl⟩
  · by_cases h2 : 0 < v
    · have e : fitsS a n f v = inS a f v := by unfold fitsS; simp [h1, h2]
      rw [e]
      clear e
      go_enter Try.func19, Try.ntmps19
      go_wp2_with fail
      refine (in_any _ _ _ _ hv).mono ?_
      rintro e w1 ⟨rfl, rfl⟩
      go_wp2
      go_ret
      exact ⟨rfl, rfl⟩
    · have e : fitsS a n f v = (a == f) := by unfold fitsS; simp [h1, h2]
      rw [e]
      clear e
      go_enter Try.func19, Try.ntmps19
      go_wp2
      go_ret
      exact ⟨rfl, rfl⟩

/-- the chapter's examples -/
theorem lives_any (w : World) : Calls Try.prog 10 #[] w fun e w' => e = .returned (.bool true) ∧ w = w' := by
  have e1 : diffS 0 4294967295 = 1 := by decide
  have e2 : fitsS 98 4 100 2 = true := by decide
  have e3 : fitsS 96 4 100 2 = false := by decide
  have e4 : addS 4294967295 2 = 1 := by decide
  have k1 := diff_any 0 4294967295 w
  have k2 := fits_any 98 4 100 2 w (by decide) (by decide)
  have k3 := fits_any 96 4 100 2 w (by decide) (by decide)
  have k4 := add_any 4294967295 2 w
  rw [e1] at k1
  rw [e2] at k2
  rw [e3] at k3
  rw [e4] at k4
  clear e1 e2 e3 e4
  go_enter Try.func10, Try.ntmps10
  go_wp2_with fail
  refine k1.mono ?_
  rintro e w1 ⟨rfl, rfl⟩
  clear k1
  go_wp2_with fail
  refine k2.mono ?_
  rintro e w1 ⟨rfl, rfl⟩
  clear k2
  go_wp2_with fail
  refine k3.mono ?_
  rintro e w1 ⟨rfl, rfl⟩
  clear k3
  go_wp2_with fail
  refine k4.mono ?_
  rintro e w1 ⟨rfl, rfl⟩
  clear k4
  go_wp2
  go_ret
  exact ⟨rfl, rfl⟩
end Go.Proofs.Ytmkbbhgfclpbeaa
