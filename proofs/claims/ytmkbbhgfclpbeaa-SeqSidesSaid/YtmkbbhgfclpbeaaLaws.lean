/-
  The laws of layer 3 that have no loop return true, and turn nothing that was there. Every number.
-/
import Derived.Test.YtmkbbhgfclpbeaaRef
import Derived.RegionTactic
import Derived.Deep.QuietTactic
import Derived.BigQuiet
namespace Go.Proofs.Ytmkbbhgfclpbeaa
open Go.RowKit

theorem numbers_walk (a b n : Int) (w : World) (h0 : 0 ≤ a) (h1 : a ≤ 4294967295) (h2 : 0 ≤ b) (h3 : b ≤ 4294967295) (h4 : -9223372036854775808 ≤ n) (h5 : n ≤ 9223372036854775807) :
    Calls Try.prog 3 #[.int .u32 a, .int .u32 b, .int .i64 n] w fun e w' => e = .returned (.bool true) ∧ Below w.heap.size w w' := by
  obtain ⟨d, hd⟩ : ∃ d, diffS a b = d := ⟨_, rfl⟩
  have hm : (d < 0 ∧ maxS a b = b) ∨ (0 ≤ d ∧ maxS a b = a) := by unfold maxS; rw [hd]; split <;> omega
  have k1 := refdiff_any a b w h0 h1 h2 h3
  have k4 := diff_any a b w
  have k5 := less_any a b w
  have k6 := max_any a b w
  rw [hd] at k1 k4 k5
  clear hd
  rcases hm with ⟨hd, hm⟩ | ⟨hd, hm⟩
  all_goals
    rw [hm] at k6
    clear hm
    go_enter Try.func3, Try.ntmps3
    go_wp2_with fail
    refine (lives_any _).mono ?_
    rintro e w1 ⟨rfl, rfl⟩
    go_wp2_with fail
    refine (k1).mono ?_
    rintro e w1 ⟨rfl, rfl⟩
    go_wp2_with fail
    refine (add_any _ _ _).mono ?_
    rintro e w1 ⟨rfl, rfl⟩
    go_wp2_with fail
    refine (refadd_any _ _ _ h0 h1 h4 h5).mono ?_
    rintro e w1 ⟨rfl, rfl⟩
    go_wp2_with fail
    refine (k4).mono ?_
    rintro e w1 ⟨rfl, rfl⟩
    go_wp2_with fail
    refine (k1).mono ?_
    rintro e w1 ⟨rfl, rfl⟩
    go_wp2_with fail
    refine (k5).mono ?_
    rintro e w1 ⟨rfl, rfl⟩
    go_wp2_with fail
    refine (k1).mono ?_
    rintro e w1 ⟨rfl, rfl⟩
    go_wp2_with fail
    refine (k6).mono ?_
    rintro e w1 ⟨rfl, rfl⟩
    go_wp2
    go_ret
    exact ⟨rfl, Below.refl _ _⟩

set_option maxHeartbeats 400000 in
theorem windows_walk (a f n v : Int) (w : World) (h0 : 0 ≤ a) (h1 : a ≤ 4294967295) (h2 : 0 ≤ f) (h3 : f ≤ 4294967295) (hn : n ≤ 9223372036854775807) (hv : v ≤ 9223372036854775807) :
    Calls Try.prog 4 #[.int .u32 a, .int .u32 f, .agg #[.int .i64 n, .int .i64 v]] w fun e w' => e = .returned (.bool true) ∧ Below w.heap.size w w' := by
  go_enter Try.func4, Try.ntmps4
  go_wp2_with fail
  go_quiet (fail)
  rename_i nq
  have hB : Below w.heap.size w ((w.alloc (.cells #[.int .i64 n, .int .i64 v] 29)).drewN nq) := below_drewN' ((Below.refl _ _).alloc (Nat.le_refl _) _) nq
  generalize (w.alloc (.cells #[.int .i64 n, .int .i64 v] 29)).drewN nq = wq at hB ⊢
  go_wp2_with fail
  refine (lives_any _).mono ?_
  rintro e w1 ⟨rfl, rfl⟩
  go_wp2_with fail
  refine (in_any _ _ _ _ hv).mono ?_
  rintro e w1 ⟨rfl, rfl⟩
  go_wp2_with fail
  refine (refin_any _ _ _ _ h0 h1 h2 h3).mono ?_
  rintro e w1 ⟨rfl, rfl⟩
  go_wp2_with fail
  refine (fits_any _ _ _ _ _ hn hv).mono ?_
  rintro e w1 ⟨rfl, rfl⟩
  go_wp2_with fail
  refine (reffits_any _ _ _ _ _ h0 h1 h2 h3 hn hv).mono ?_
  rintro e w1 ⟨rfl, rfl⟩
  go_wp2
  go_ret
  exact ⟨rfl, hB⟩

theorem max_mid (a b : Int) (h : (a - b) % 4294967296 = 2147483648) : maxS a b = b := by
  unfold maxS diffS
  rw [if_pos (by omega)]
theorem max_facts (a b : Int) (h0 : 0 ≤ a) (h1 : a ≤ 4294967295) (h2 : 0 ≤ b) (h3 : b ≤ 4294967295) (h : (a - b) % 4294967296 ≠ 2147483648) :
    (maxS a b = a ∨ maxS a b = b) ∧ 0 ≤ diffS (maxS a b) a ∧ 0 ≤ diffS (maxS a b) b ∧ maxS b a = maxS a b := by
  by_cases hd : diffS a b < 0
  · have e : maxS a b = b := by unfold maxS; rw [if_pos hd]
    have e2 : maxS b a = b := by unfold maxS; rw [if_neg (by unfold diffS at hd ⊢; omega)]
    rw [e, e2]
    refine ⟨.inr rfl, ?_, ?_, rfl⟩ <;> (unfold diffS at hd ⊢; omega)
  · have e : maxS a b = a := by unfold maxS; rw [if_neg hd]
    have e2 : maxS b a = a := by unfold maxS; split <;> (unfold diffS at *; omega)
    rw [e, e2]
    refine ⟨.inl rfl, ?_, ?_, rfl⟩ <;> (unfold diffS at hd ⊢; omega)
theorem seqmax_walk (a b : Int) (w : World) (h0 : 0 ≤ a) (h1 : a ≤ 4294967295) (h2 : 0 ≤ b) (h3 : b ≤ 4294967295) :
    Calls Try.prog 9 #[.int .u32 a, .int .u32 b] w fun e w' => e = .returned (.bool true) ∧ Below w.heap.size w w' := by
  by_cases h : (a - b) % 4294967296 = 2147483648
  · have k1 := max_any a b w
    have k2 := max_any b a w
    rw [max_mid a b h] at k1
    rw [max_mid b a (by omega)] at k2
    have hd := beqT h
    clear h
    go_enter Try.func9, Try.ntmps9
    go_wp2_with fail
    refine (lives_any _).mono ?_
    rintro e w1 ⟨rfl, rfl⟩
    go_wp2_with fail
    refine (k1).mono ?_
    rintro e w1 ⟨rfl, rfl⟩
    go_wp2_with fail
    refine (k2).mono ?_
    rintro e w1 ⟨rfl, rfl⟩
    go_wp2
    go_ret
    exact ⟨rfl, Below.refl _ _⟩
  · obtain ⟨m1, m2, m3, m4⟩ := max_facts a b h0 h1 h2 h3 h
    have k1 := max_any a b w
    have k2 := max_any b a w
    rw [m4] at k2
    have hd := beqF h
    clear h m4
    generalize maxS a b = m at m1 m2 m3 k1 k2
    have k3 := less_any m a w
    have k4 := less_any m b w
    rw [decide_eq_false (Int.not_lt.2 m2)] at k3
    rw [decide_eq_false (Int.not_lt.2 m3)] at k4
    clear m2 m3
    by_cases hm : m = a
    · subst hm
      clear m1
      go_enter Try.func9, Try.ntmps9
      go_wp2_with fail
      refine (lives_any _).mono ?_
      rintro e w1 ⟨rfl, rfl⟩
      go_wp2_with fail
      refine (k1).mono ?_
      rintro e w1 ⟨rfl, rfl⟩
      go_wp2_with fail
      refine (k3).mono ?_
      rintro e w1 ⟨rfl, rfl⟩
      go_wp2_with fail
      refine (k4).mono ?_
      rintro e w1 ⟨rfl, rfl⟩
      go_wp2_with fail
      refine (k2).mono ?_
      rintro e w1 ⟨rfl, rfl⟩
      go_wp2
      go_ret
      exact ⟨rfl, Below.refl _ _⟩
    · have hb : m = b := by omega
      subst hb
      have hc := beqF hm
      clear m1 hm
      go_enter Try.func9, Try.ntmps9
      go_wp2_with fail
      refine (lives_any _).mono ?_
      rintro e w1 ⟨rfl, rfl⟩
      go_wp2_with fail
      refine (k1).mono ?_
      rintro e w1 ⟨rfl, rfl⟩
      go_wp2_with fail
      refine (k3).mono ?_
      rintro e w1 ⟨rfl, rfl⟩
      go_wp2_with fail
      refine (k4).mono ?_
      rintro e w1 ⟨rfl, rfl⟩
      go_wp2_with fail
      refine (k2).mono ?_
      rintro e w1 ⟨rfl, rfl⟩
      go_wp2
      go_ret
      exact ⟨rfl, Below.refl _ _⟩

theorem diff_move (a b y : Int) : diffS ((a + y) % 4294967296) ((b + y) % 4294967296) = diffS a b := by unfold diffS; omega
theorem in_move (a b y n : Int) : inS ((a + y) % 4294967296) ((b + y) % 4294967296) n = inS a b n := by
  unfold inS
  rw [show ((a + y) % 4294967296 - (b + y) % 4294967296) % 4294967296 = (a - b) % 4294967296 by omega]
theorem max_move (a b y : Int) : maxS ((a + y) % 4294967296) ((b + y) % 4294967296) = (maxS a b + y) % 4294967296 := by
  unfold maxS
  rw [diff_move]
  split <;> omega
theorem eq_move (a b y : Int) (h0 : 0 ≤ a) (h1 : a ≤ 4294967295) (h2 : 0 ≤ b) (h3 : b ≤ 4294967295) : ((a + y) % 4294967296 == (b + y) % 4294967296) = (a == b) := by
  rw [Bool.eq_iff_iff, beq_iff_eq, beq_iff_eq]
  omega
theorem fits_move (a b y n v : Int) (h0 : 0 ≤ a) (h1 : a ≤ 4294967295) (h2 : 0 ≤ b) (h3 : b ≤ 4294967295) :
    fitsS ((a + y) % 4294967296) n ((b + y) % 4294967296) v = fitsS a n b v := by
  have e : ((a + y) % 4294967296 == (b + y) % 4294967296) = (a == b) := eq_move a b y h0 h1 h2 h3
  unfold fitsS
  rw [in_move, in_move, e]
theorem half_le (n : Int) (h : n ≤ 9223372036854775807) : n.tdiv 2 ≤ 9223372036854775807 := by
  rcases Int.le_total 0 n with h0 | h0
  · rw [Int.tdiv_eq_ediv_of_nonneg h0]; omega
  · have e : n.tdiv 2 = -((-n) / 2) := by rw [← Int.tdiv_eq_ediv_of_nonneg (by omega), Int.neg_tdiv, Int.neg_neg]
    rw [e]; omega
set_option maxRecDepth 100000 in
set_option maxHeartbeats 4000000 in
theorem moved_walk (a b x n : Int) (w : World) (h0 : 0 ≤ a) (h1 : a ≤ 4294967295) (h2 : 0 ≤ b) (h3 : b ≤ 4294967295) (hn : n ≤ 9223372036854775807) (h4 : -9223372036854775808 ≤ n) :
    Calls Try.prog 5 #[.int .u32 a, .int .u32 b, .agg #[.int .i64 x, .int .i64 n]] w fun e w' => e = .returned (.bool true) ∧ Below w.heap.size w w' := by
  obtain ⟨y, hy⟩ : ∃ y, x % 4294967296 = y := ⟨_, rfl⟩
  have hq := half_le n hn
  have hq2 : 0 ≤ n → n / 2 ≤ 9223372036854775807 := by omega
  by_cases hn0 : 0 ≤ n
  all_goals
    go_enter Try.func5, Try.ntmps5
    go_wp2_with fail
    go_quiet (fail)
    rename_i nq
    have hB : Below w.heap.size w ((w.alloc (.cells #[.int .i64 x, .int .i64 n] 29)).drewN nq) := below_drewN' ((Below.refl _ _).alloc (Nat.le_refl _) _) nq
    generalize (w.alloc (.cells #[.int .i64 x, .int .i64 n] 29)).drewN nq = wq at hB ⊢
    go_wp2_with fail
    refine (lives_any _).mono ?_
    rintro e w1 ⟨rfl, rfl⟩
    go_wp2_with fail
    refine (diff_any _ _ _).mono ?_
    rintro e w1 ⟨rfl, rfl⟩
    rw [diff_move]
    go_wp2_with fail
    refine (diff_any _ _ _).mono ?_
    rintro e w1 ⟨rfl, rfl⟩
    go_wp2_with fail
    refine (less_any _ _ _).mono ?_
    rintro e w1 ⟨rfl, rfl⟩
    rw [diff_move]
    go_wp2_with fail
    refine (less_any _ _ _).mono ?_
    rintro e w1 ⟨rfl, rfl⟩
    go_wp2_with fail
    refine (max_any _ _ _).mono ?_
    rintro e w1 ⟨rfl, rfl⟩
    rw [max_move a b y]
    go_wp2_with fail
    refine (max_any _ _ _).mono ?_
    rintro e w1 ⟨rfl, rfl⟩
    go_wp2_with fail
    refine (in_any _ _ _ _ hn).mono ?_
    rintro e w1 ⟨rfl, rfl⟩
    rw [in_move]
    go_wp2_with fail
    refine (in_any _ _ _ _ hn).mono ?_
    rintro e w1 ⟨rfl, rfl⟩
    go_wp2_with fail
    refine (fits_any _ _ _ _ _ hn (by first | exact hq | exact hq2 hn0)).mono ?_
    rintro e w1 ⟨rfl, rfl⟩
    rw [fits_move _ _ _ _ _ h0 h1 h2 h3]
    go_wp2_with fail
    refine (fits_any _ _ _ _ _ hn (by first | exact hq | exact hq2 hn0)).mono ?_
    rintro e w1 ⟨rfl, rfl⟩
    go_wp2
    go_ret
    exact ⟨rfl, hB⟩

theorem i32_back (n : Int) : wrap64 (wrap32 n) = wrap32 n := IntWalk.wrap64_in _ (by unfold wrap32; omega)
theorem u20_back (i : Int) : wrap64 ((IntKind.u64.wrap i).tmod 1048576) = i % 1048576 := by
  have e : IntKind.u64.wrap i = i % 18446744073709551616 := by simp [IntKind.wrap, IntKind.bits, IntKind.signed]
  rw [e, Int.tmod_eq_emod_of_nonneg (by omega), IntWalk.wrap64_in _ (by omega)]
  omega
theorem back_walk (a n i : Int) (w : World) (h0 : 0 ≤ a) (h1 : a ≤ 4294967295) :
    Calls Try.prog 7 #[.int .u32 a, .int .i64 n, .int .i64 i] w fun e w' => e = .returned (.bool true) ∧ Below w.heap.size w w' := by
  obtain ⟨m, hm⟩ : ∃ m, wrap64 (wrap32 n) = m := ⟨_, rfl⟩
  obtain ⟨k, hk⟩ : ∃ k, wrap64 ((IntKind.u64.wrap i).tmod 1048576) = k := ⟨_, rfl⟩
  have hm1 : -2147483648 ≤ m ∧ m ≤ 2147483647 := by rw [← hm, i32_back]; unfold wrap32; omega
  have hk1 : 0 ≤ k ∧ k < 1048576 := by rw [← hk, u20_back]; omega
  have HM := Lib.hid hm
  have HK := Lib.hid hk
  clear hm hk
  obtain ⟨b, hb⟩ : ∃ b, addS a m = b := ⟨_, rfl⟩
  obtain ⟨c, hc⟩ : ∃ c, addS a k = c := ⟨_, rfl⟩
  obtain ⟨d, hd⟩ : ∃ d, addS a (-1) = d := ⟨_, rfl⟩
  have k1 := add_any a m w
  have k2 := add_any b (-m) w
  have k3 := diff_any b a w
  have k4 := add_any a k w
  have k5 := in_any c a (k + 1) w (by omega)
  have k6 := in_any c a k w (by omega)
  have k7 := add_any a (-1) w
  have k8 := in_any d a k w (by omega)
  rw [show addS b (-m) = a by rw [← hb]; unfold addS; omega] at k2
  rw [show diffS b a = m by rw [← hb]; unfold addS diffS; omega] at k3
  rw [show inS c a (k + 1) = true by rw [inS_pos _ _ _ (by omega), decide_eq_true_eq, ← hc]; unfold addS; omega] at k5
  rw [show inS c a k = false by unfold inS; rw [Bool.and_eq_false_iff, decide_eq_false_iff_not, decide_eq_false_iff_not, ← hc]; unfold addS; omega] at k6
  rw [show inS d a k = false by unfold inS; rw [Bool.and_eq_false_iff, decide_eq_false_iff_not, decide_eq_false_iff_not, ← hd]; unfold addS; omega] at k8
  rw [hb] at k1
  rw [hc] at k4
  rw [hd] at k7
  clear hb hc hd
  go_enter Try.func7, Try.ntmps7
  go_wp2_with fail
  refine (lives_any _).mono ?_
  rintro e w1 ⟨rfl, rfl⟩
  go_wp2_with fail
  rw [HM.out, HK.out]
  refine k1.mono ?_
  rintro e w1 ⟨rfl, rfl⟩
  go_wp2_with fail
  refine (k2).mono ?_
  rintro e w1 ⟨rfl, rfl⟩
  go_wp2_with fail
  refine (k3).mono ?_
  rintro e w1 ⟨rfl, rfl⟩
  go_wp2_with fail
  refine (k4).mono ?_
  rintro e w1 ⟨rfl, rfl⟩
  go_wp2_with fail
  refine (k5).mono ?_
  rintro e w1 ⟨rfl, rfl⟩
  go_wp2_with fail
  refine (k4).mono ?_
  rintro e w1 ⟨rfl, rfl⟩
  go_wp2_with fail
  refine (k6).mono ?_
  rintro e w1 ⟨rfl, rfl⟩
  go_wp2_with fail
  refine (k7).mono ?_
  rintro e w1 ⟨rfl, rfl⟩
  go_wp2_with fail
  refine (k8).mono ?_
  rintro e w1 ⟨rfl, rfl⟩
  go_wp2
  go_ret
  exact ⟨rfl, Below.refl _ _⟩

theorem fits_sides (a b n v : Int) (hn : 0 < n) (hv : 0 < v) : fitsS a n b v = fitsS b v a n := by
  unfold fitsS
  rw [if_pos hn, if_pos hv, decide_eq_true hn, decide_eq_true hv, Bool.true_and, Bool.true_and, Bool.or_comm]
theorem sides_less (a b : Int) :
    0 ≤ diffS a b ∨ (diffS a b < 0 ∧ 0 ≤ diffS b a) ∨ (diffS a b < 0 ∧ diffS b a < 0 ∧ ((a - b) % 4294967296 == 2147483648) = true) := by
  rw [beq_iff_eq]
  unfold diffS
  omega
set_option maxHeartbeats 1000000 in
theorem sides_walk (a b n v : Int) (w : World) (h4 : 0 ≤ n) (hn : n ≤ 4294967295) (h5 : 0 ≤ v) (hv : v ≤ 4294967295) :
    Calls Try.prog 8 #[.int .u32 a, .int .u32 b, .agg #[.int .u32 n, .int .u32 v]] w fun e w' => e = .returned (.bool true) ∧ Below w.heap.size w w' := by
  have hs := fits_sides a b (1 + n / 2) (1 + v / 2) (by omega) (by omega)
  obtain ⟨x, hx⟩ : ∃ x, fitsS a (1 + n / 2) b (1 + v / 2) = x := ⟨_, rfl⟩
  rw [hx] at hs
  have HX := Lib.hid hx
  have HS := Lib.hid hs.symm
  clear hx hs
  have hB : Below w.heap.size w (w.alloc (.cells #[.int .u32 n, .int .u32 v] 36)) := (Below.refl _ _).alloc (Nat.le_refl _) _
  rcases sides_less a b with hd | ⟨hc, hd⟩ | ⟨hc, he, hd⟩
  all_goals
    go_enter Try.func8, Try.ntmps8
    go_wp2_with fail
    refine (lives_any _).mono ?_
    rintro e w1 ⟨rfl, rfl⟩
    go_wp2_with fail
    go_quiet (fail)
    rename_i nq
    have hB2 := below_drewN' hB nq
    clear hB
    go_wp2_with fail
    generalize (w.alloc (.cells #[.int .u32 n, .int .u32 v] 36)).drewN nq = wq at hB2 ⊢
    refine (fits_any _ _ _ _ _ (by omega) (by omega)).mono ?_
    rintro e w1 ⟨rfl, rfl⟩
    rw [HX.out]
    go_wp2_with fail
    refine (fits_any _ _ _ _ _ (by omega) (by omega)).mono ?_
    rintro e w1 ⟨rfl, rfl⟩
    rw [HS.out]
    go_wp2_with fail
    refine (less_any _ _ _).mono ?_
    rintro e w1 ⟨rfl, rfl⟩
  · rw [decide_eq_false (Int.not_lt.2 hd)]
    go_wp2
    go_ret
    exact ⟨rfl, hB2⟩
  · rw [decide_eq_true hc]
    go_wp2_with fail
    refine (less_any _ _ _).mono ?_
    rintro e w1 ⟨rfl, rfl⟩
    rw [decide_eq_false (Int.not_lt.2 hd)]
    go_wp2
    go_ret
    exact ⟨rfl, hB2⟩
  · rw [decide_eq_true hc]
    go_wp2_with fail
    refine (less_any _ _ _).mono ?_
    rintro e w1 ⟨rfl, rfl⟩
    rw [decide_eq_true he]
    go_wp2
    go_ret
    exact ⟨rfl, hB2⟩

end Go.Proofs.Ytmkbbhgfclpbeaa
