/-
  What each of the document's own answers of layer 3 is: the same as seq's. Every world; nothing turns.
-/
import Derived.Test.YtmkbbhgfclpbeaaSeq
import Derived.WalkLawsBesides
namespace Go.Proofs.Ytmkbbhgfclpbeaa
open Go.RowKit

theorem tmod_neg (n : Int) (h : n < 0) : -4294967296 < n.tmod 4294967296 ∧ n.tmod 4294967296 ≤ 0 ∧ (n.tmod 4294967296 = n % 4294967296 ∨ n.tmod 4294967296 + 4294967296 = n % 4294967296) := by
  have e : n.tmod 4294967296 = -((-n) % 4294967296) := by
    rw [← Int.tmod_eq_emod_of_nonneg (by omega), Int.neg_tmod, Int.neg_neg]
  rw [e]
  omega
theorem mod_any (n : Int) (w : World) (h1 : -9223372036854775808 ≤ n) (h2 : n ≤ 9223372036854775807) :
    Calls Try.prog 21 #[.int .i64 n] w fun e w' => e = .returned (.int .i64 (n % 4294967296)) ∧ w = w' := by
  by_cases h0 : 0 ≤ n
  · have h3 : 0 ≤ n % 4294967296 := by omega
    go_enter Try.func21, Try.ntmps21
    go_wp2
    go_ret
    exact ⟨rfl, rfl⟩
  · obtain ⟨ha, hb, hc⟩ := tmod_neg n (by omega)
    by_cases hz : n.tmod 4294967296 < 0
    · have he : n.tmod 4294967296 + 4294967296 = n % 4294967296 := by omega
      rw [← he]
      clear hc he
      go_enter Try.func21, Try.ntmps21
      go_wp2
      go_ret
      exact ⟨rfl, rfl⟩
    · have he : n.tmod 4294967296 = n % 4294967296 := by omega
      rw [← he]
      clear hc he
      have hz' : 0 ≤ n.tmod 4294967296 := by omega
      go_enter Try.func21, Try.ntmps21
      go_wp2
      go_ret
      exact ⟨rfl, rfl⟩
theorem refadd_any (a n : Int) (w : World) (h0 : 0 ≤ a) (h1 : a ≤ 4294967295) (h2 : -9223372036854775808 ≤ n) (h3 : n ≤ 9223372036854775807) :
    Calls Try.prog 13 #[.int .u32 a, .int .i64 n] w fun e w' => e = .returned (.int .u32 (addS a n)) ∧ w = w' := by
  by_cases hn : 0 ≤ n
  · have e : (a + n % 4294967296) % 4294967296 = addS a n := wrap_add a n
    have e2 : (addS a n) % 4294967296 = addS a n := by unfold addS; omega
    have E := Lib.hid e
    have E2 := Lib.hid e2
    clear e e2
    go_enter Try.func13, Try.ntmps13
    go_wp2_with fail
    refine (mod_any _ _ (by omega) (by omega)).mono ?_
    rintro e w1 ⟨rfl, rfl⟩
    rw [E.out]
    go_wp2
    go_ret
    exact ⟨congrArg (fun z => Ending.returned (.int .u32 z)) E2.out, rfl⟩
  · obtain ⟨ha, hb, hc⟩ := tmod_neg n (by omega)
    have e : (a + n.tmod 4294967296) % 4294967296 = addS a n := by unfold addS; omega
    have e2 : (addS a n) % 4294967296 = addS a n := by unfold addS; omega
    have E := Lib.hid e
    have E2 := Lib.hid e2
    clear e e2 hc
    go_enter Try.func13, Try.ntmps13
    go_wp2_with fail
    refine (mod_any _ _ (by omega) (by omega)).mono ?_
    rintro e w1 ⟨rfl, rfl⟩
    rw [E.out]
    go_wp2
    go_ret
    exact ⟨congrArg (fun z => Ending.returned (.int .u32 z)) E2.out, rfl⟩
theorem refdiff_any (a b : Int) (w : World) (h0 : 0 ≤ a) (h1 : a ≤ 4294967295) (h2 : 0 ≤ b) (h3 : b ≤ 4294967295) :
    Calls Try.prog 11 #[.int .u32 a, .int .u32 b] w fun e w' => e = .returned (.int .i64 (diffS a b)) ∧ w = w' := by
  obtain ⟨r, hr⟩ : ∃ r, (a - b) % 4294967296 = r := ⟨_, rfl⟩
  have hb : 0 ≤ r ∧ r ≤ 4294967295 := by omega
  have he : (r < 2147483648 ∧ diffS a b = r) ∨ (2147483648 ≤ r ∧ diffS a b = r - 4294967296) := by unfold diffS; omega
  have HR := Lib.hid hr
  clear hr
  rcases he with ⟨hz, he⟩ | ⟨hz, he⟩
  all_goals
    rw [he]
    clear he
    go_enter Try.func11, Try.ntmps11
    go_wp2_with fail
    refine (mod_any _ _ (by omega) (by omega)).mono ?_
    rintro e w1 ⟨rfl, rfl⟩
    rw [HR.out]
    go_wp2
    go_ret
    exact ⟨rfl, rfl⟩
theorem refin_any (a f n : Int) (w : World) (h0 : 0 ≤ a) (h1 : a ≤ 4294967295) (h2 : 0 ≤ f) (h3 : f ≤ 4294967295) :
    Calls Try.prog 18 #[.int .u32 a, .int .u32 f, .int .i64 n] w fun e w' => e = .returned (.bool (inS a f n)) ∧ w = w' := by
  by_cases h : 0 < n
  · rw [inS_pos a f n h]
    go_enter Try.func18, Try.ntmps18
    go_wp2_with fail
    refine (mod_any _ _ (by omega) (by omega)).mono ?_
    rintro e w1 ⟨rfl, rfl⟩
    go_wp2
    go_ret
    exact ⟨rfl, rfl⟩
  · rw [inS_neg a f n h]
    go_enter Try.func18, Try.ntmps18
    go_wp2
    go_ret
    exact ⟨rfl, rfl⟩

/-- the document's own way to say it -/
theorem fits_ref (a n f v : Int) (hn : 0 < n) (hv : 0 < v) (r : Int) (hr : (a - f) % 4294967296 = r) :
    (r < v → fitsS a n f v = true) ∧ (v ≤ r → n ≤ 4294967296 → fitsS a n f v = decide (4294967296 < r + n)) ∧ (v ≤ r → 4294967296 < n → fitsS a n f v = decide (4294967296 < r + 4294967296)) := by
  have hx : (r = 0 ∧ (f - a) % 4294967296 = 0) ∨ (0 < r ∧ (f - a) % 4294967296 = 4294967296 - r) := by omega
  have e : fitsS a n f v = (decide (r < v) || decide ((f - a) % 4294967296 < n)) := by unfold fitsS inS; simp [hn, hv, hr]
  rw [e]
  clear hr e
  generalize (f - a) % 4294967296 = s at hx ⊢
  refine ⟨fun h => by simp [h], fun h h' => ?_, fun h h' => ?_⟩
  all_goals
    rw [decide_eq_false (show ¬ r < v by omega), Bool.false_or, decide_eq_decide]
    omega

theorem reffits_any (a n f v : Int) (w : World) (h0 : 0 ≤ a) (h1 : a ≤ 4294967295) (h2 : 0 ≤ f) (h3 : f ≤ 4294967295) (hn : n ≤ 9223372036854775807) (hv : v ≤ 9223372036854775807) :
    Calls Try.prog 20 #[.int .u32 a, .int .i64 n, .int .u32 f, .int .i64 v] w fun e w' => e = .returned (.bool (fitsS a n f v)) ∧ w = w' := by
  obtain ⟨r, hr⟩ : ∃ r, (a - f) % 4294967296 = r := ⟨_, rfl⟩
  have hb : 0 ≤ r ∧ r ≤ 4294967295 := by omega
  have HR := Lib.hid hr
  by_cases hn0 : 0 < n
  · by_cases hv0 : 0 < v
    · obtain ⟨k1, k2, k3⟩ := fits_ref a n f v hn0 hv0 r hr
      clear hr
      by_cases hc : r < v
      · rw [k1 hc]
        clear k1 k2 k3
        go_enter Try.func20, Try.ntmps20
        go_wp2_with fail
        refine (mod_any _ _ (by omega) (by omega)).mono ?_
        rintro e w1 ⟨rfl, rfl⟩
        rw [HR.out]
        go_wp2
        go_ret
        exact ⟨rfl, rfl⟩
      · have hc' : v ≤ r := by omega
        by_cases hd : n ≤ 4294967296
        · rw [k2 hc' hd]
          clear k1 k2 k3
          go_enter Try.func20, Try.ntmps20
          go_wp2_with fail
          refine (mod_any _ _ (by omega) (by omega)).mono ?_
          rintro e w1 ⟨rfl, rfl⟩
          rw [HR.out]
          go_wp2
          go_ret
          exact ⟨congrArg (fun z => Ending.returned (.bool z)) (show (decide (r < v) || _) = _ by rw [decide_eq_false (show ¬ r < v by omega), Bool.false_or]), rfl⟩
        · have hd' : 4294967296 < n := by omega
          rw [k3 hc' hd']
          clear k1 k2 k3 hd
          go_enter Try.func20, Try.ntmps20
          go_wp2_with fail
          refine (mod_any _ _ (by omega) (by omega)).mono ?_
          rintro e w1 ⟨rfl, rfl⟩
          rw [HR.out]
          go_wp2
          go_ret
          exact ⟨congrArg (fun z => Ending.returned (.bool z)) (show (decide (r < v) || _) = _ by rw [decide_eq_false (show ¬ r < v by omega), Bool.false_or]), rfl⟩
    · have e : fitsS a n f v = false := by unfold fitsS; simp [hn0, hv0]
      rw [e]
      clear e hr
      rcases (by omega : v < 0 ∨ v = 0) with hv1 | rfl
      all_goals
        clear hv0
        go_enter Try.func20, Try.ntmps20
        go_wp2_with fail
        refine (mod_any _ _ (by omega) (by omega)).mono ?_
        rintro e w1 ⟨rfl, rfl⟩
        rw [HR.out]
        go_wp2
        go_ret
        exact ⟨rfl, rfl⟩
  · by_cases hv0 : 0 < v
    · have e : fitsS a n f v = decide (r < v) := by unfold fitsS inS; simp [hn0, hv0, hr]
      rw [e]
      clear e hr
      rcases (by omega : n < 0 ∨ n = 0) with hn1 | rfl
      all_goals
        clear hn0
        go_enter Try.func20, Try.ntmps20
        go_wp2_with fail
        refine (mod_any _ _ (by omega) (by omega)).mono ?_
        rintro e w1 ⟨rfl, rfl⟩
        rw [HR.out]
        go_wp2
        go_ret
        exact ⟨rfl, rfl⟩
    · have e : fitsS a n f v = (r == 0) := by
        have : fitsS a n f v = (a == f) := by unfold fitsS; simp [hn0, hv0]
        rw [this]
        rw [Bool.eq_iff_iff, beq_iff_eq, beq_iff_eq]
        omega
      rw [e]
      clear e hr
      rcases (by omega : n < 0 ∨ n = 0) with hn1 | rfl
      all_goals
        clear hn0
        rcases (by omega : v < 0 ∨ v = 0) with hv1 | rfl
        all_goals
          clear hv0
          go_enter Try.func20, Try.ntmps20
          go_wp2_with fail
          refine (mod_any _ _ (by omega) (by omega)).mono ?_
          rintro e w1 ⟨rfl, rfl⟩
          rw [HR.out]
          go_wp2
          go_ret
          exact ⟨rfl, rfl⟩
end Go.Proofs.Ytmkbbhgfclpbeaa
