/-
  The laws RtoSettles and RtoDoubles: every slice of times, every two bytes.
-/
import Derived.Test.YtafpnmmkaanjaaaLiK
import Derived.Test.YtafpnmmkaanjaaaCm
namespace Go.Proofs.Ytafpnmmkaanjaaa
open Go.RowKit

set_option maxRecDepth 100000 in
set_option maxHeartbeats 16000000 in
theorem settles_any (v : Value) (l : List Nat) (tt : Nat) (w : World) (hv : SlT uA w v l) (hl : ∀ n ∈ l, n < 18446744073709551616) (hl2 : l.length ≤ 140737488351232) (ht : tt < 256) :
    Calls Try.prog 5 #[v, .int .u8 (tt : Int)] w fun e w' => e = .returned (.bool true) ∧ Below w.heap.size w w' := by
  obtain ⟨A, c, rfl, htr, -, hnc, hcm⟩ := hv
  obtain ⟨n, hnn⟩ : ∃ n, l.length = n := ⟨_, rfl⟩
  rw [hnn] at hl2 hnc ⊢
  have HN := Lib.hid hnn
  have hcm2 : c ≤ 9223372036854775807 := by unfold maxLen at hcm; omega
  have HTR := Lib.hid htr
  have HL := Lib.hid hl
  have HNW : Hid (∀ w, Calls Try.prog 14 #[] w fun e w' => e = .returned (.agg #[.int .i64 (-1), .int .i64 (-1), .int .i64 10]) ∧ Below w.heap.size w w') := fun w => new_any w
  clear hnn htr hcm hl
  go_enter Try.func5, Try.ntmps5
  go_wp2_with fail
  refine (lives_any _).mono ?_
  rintro e w1 ⟨rfl, hb1⟩
  have HB1 := Lib.hid hb1
  clear hb1
  by_cases h50 : 50 < n
  · have h50b : (50 : Int) < (n : Int) := by omega
    go_wp2_with fail
    refine (lives_any _).mono ?_
    rintro e w2 ⟨rfl, hb2⟩
    have HB2 := Lib.hid (HB1.out.trans (hb2.mono HB1.out.size))
    clear hb2
    go_wp2
    go_ret
    exact ⟨rfl, HB2.out⟩
  have h50b : ¬ (50 : Int) < (n : Int) := by omega
  go_wp2_with fail
  refine (HNW.out _).mono ?_
  rintro e w2 ⟨rfl, hb2⟩
  have HB2 := Lib.hid (HB1.out.trans (hb2.mono HB1.out.size))
  clear hb2 HB1 HNW
  go_upto_region 4 with (first | (refine wpList_store_new rfl 23 _ _ rfl w2 #[.int .i64 0, .int .i64 0, .int .i64 0] #[.int .i64 (-1), .int .i64 (-1), .int .i64 10] rfl rfl (by kernel_rfl) rfl (by simp [Value.oneCell']) ?_) | go_in)
  have HX3 : Hid ((w2.alloc (.cells #[.int .i64 (-1), .int .i64 (-1), .int .i64 10] 23)).heap[w2.heap.size]? = some (.cells #[.int .i64 (-1), .int .i64 (-1), .int .i64 10] 23 (0, 0))) := heap_alloc_new w2 _
  have HB3 := Lib.hid (HB2.out.alloc HB2.out.size (.cells #[.int .i64 (-1), .int .i64 (-1), .int .i64 10] 23))
  have HGE3 := Lib.hid HB2.out.size
  generalize w2.alloc (.cells #[.int .i64 (-1), .int .i64 (-1), .int .i64 10] 23) = w3 at HX3 HB3 ⊢
  generalize w2.heap.size = g at HX3 HGE3 ⊢
  clear HB2
  go_wp2
  go_loopw [20] (fun t20 wr => ∃ (i : Nat) (c : Ck), i ≤ n ∧ t20 = .int .i64 (i : Int) ∧ Hid (rightX c = true) ∧ Hid (wr.heap[g]? = some (.cells #[.int .i64 c.s, .int .i64 c.d, .int .i64 c.w] 23 (0, 0))) ∧ Hid (Below w.heap.size w wr)) (fun t20 _ => n - (intOf t20).toNat)
  case atStart => exact ⟨0, newX, Nat.zero_le _, rfl, Lib.hid new_right, HX3, HB3⟩
  case round =>
    clear HX3 HB3
    obtain ⟨i, k, hi, rfl, HK, HX, HBW⟩ := hrel
    by_cases hlt : i < n
    · obtain ⟨x, hx⟩ : ∃ x, l[i]? = some x := ⟨_, List.getElem?_eq_getElem (by rw [HN.out]; exact hlt)⟩
      obtain ⟨ad, rfl, hKA⟩ := el_one1 uE (HTR.out.below HBW.out (Nat.le_refl _)) hx (v := .int .u64 (x : Int)) rfl
      have hcx := hKA wr (Below.refl _ _)
      have HXL := Lib.hid (HL.out x (List.mem_of_getElem? hx))
      clear hx hKA
      obtain ⟨k1, hk1⟩ : ∃ k1, measX k x = k1 := ⟨_, rfl⟩
      have HK1 : Hid (rightX k1 = true) := by rw [← hk1]; exact meas_right HK.out
      have HCA : Hid (∀ w, Calls Try.prog 10 #[.agg #[.int .i64 k.s, .int .i64 k.d, .int .i64 k.w], .int .u64 (x : Int)] w fun e w' => e = .returned (.agg #[.int .i64 k1.s, .int .i64 k1.d, .int .i64 k1.w]) ∧ Below w.heap.size w w') := fun w => by rw [← hk1]; exact meas_any k x w HK.out HXL.out
      clear hk1
      go_wp2_with (refine wpList_load_row rfl 23 _ rfl g rfl 23 #[.int .i64 k.s, .int .i64 k.d, .int .i64 k.w] (0, 0) _ HX.out Try.underlying23 rfl (by kernel_rfl) ?_)
      refine (HCA.out _).mono ?_
      rintro e w5 ⟨rfl, hb5⟩
      have HX5 := Lib.hid (old_below HX.out hb5 (row_lt HX.out))
      have HB5 := Lib.hid (HBW.out.trans (hb5.mono HBW.out.size))
      clear hb5 hcx
      go_wp2_with (refine wpList_store_row rfl 23 _ _ rfl g #[.int .i64 k1.s, .int .i64 k1.d, .int .i64 k1.w] rfl rfl 23 #[.int .i64 k.s, .int .i64 k.d, .int .i64 k.w] HX5.out (by kernel_rfl) rfl (by simp [Value.oneCell']) ?_)
      have HX6 : Hid ((w5.setRow g #[.int .i64 k1.s, .int .i64 k1.d, .int .i64 k1.w]).heap[g]? = some (.cells #[.int .i64 k1.s, .int .i64 k1.d, .int .i64 k1.w] 23 (0, 0))) := setRow_heap _ _ _ _ _ _ HX5.out
      have HB6 := Lib.hid (below_setRow HB5.out HGE3.out #[.int .i64 k1.s, .int .i64 k1.d, .int .i64 k1.w])
      go_roundw
      case rel => exact ⟨i + 1, k1, by omega, by go_num, HK1, HX6, HB6⟩
      case measure => simp [intOf]; omega
    · obtain rfl : i = n := by omega
      have HSE := Lib.hid (settles (t := tt) HK.out)
      rename World => wo
      go_wp2
      go_loopw [28] (fun t28 wr => ∃ (j : Nat), j ≤ 120 ∧ t28 = .int .i64 (j : Int) ∧ Hid (wr.heap[g]? = some (.cells #[.int .i64 (iterM tt j k).s, .int .i64 (iterM tt j k).d, .int .i64 (iterM tt j k).w] 23 (0, 0))) ∧ Hid (Below w.heap.size w wr)) (fun t28 _ => 120 - (intOf t28).toNat)
      case atStart => exact ⟨0, Nat.zero_le _, rfl, HX, HBW⟩
      case round =>
        clear HX HBW
        obtain ⟨j, hj, rfl, HX, HBW⟩ := hrel
        by_cases hlt2 : j < 120
        · have HI := Lib.hid (iter_succ tt j k)
          have HKJ := Lib.hid (iter_right (t := tt) j HK.out)
          obtain ⟨k1, hk1⟩ : ∃ k1, iterM tt (j + 1) k = k1 := ⟨_, rfl⟩
          have HI1 := Lib.hid hk1
          generalize iterM tt j k = kj at HX HI HKJ
          rw [hk1] at HI
          have HCA : Hid (∀ w, Calls Try.prog 10 #[.agg #[.int .i64 kj.s, .int .i64 kj.d, .int .i64 kj.w], .int .u64 (tt : Int)] w fun e w' => e = .returned (.agg #[.int .i64 k1.s, .int .i64 k1.d, .int .i64 k1.w]) ∧ Below w.heap.size w w') := fun w => by rw [HI.out]; exact meas_any kj tt w HKJ.out (by omega)
          clear hk1
          go_wp2_with (refine wpList_load_row rfl 23 _ rfl g rfl 23 #[.int .i64 kj.s, .int .i64 kj.d, .int .i64 kj.w] (0, 0) _ HX.out Try.underlying23 rfl (by kernel_rfl) ?_)
          refine (HCA.out _).mono ?_
          rintro e w5 ⟨rfl, hb5⟩
          have HX5 := Lib.hid (old_below HX.out hb5 (row_lt HX.out))
          have HB5 := Lib.hid (HBW.out.trans (hb5.mono HBW.out.size))
          clear hb5
          go_wp2_with (refine wpList_store_row rfl 23 _ _ rfl g #[.int .i64 k1.s, .int .i64 k1.d, .int .i64 k1.w] rfl rfl 23 #[.int .i64 kj.s, .int .i64 kj.d, .int .i64 kj.w] HX5.out (by kernel_rfl) rfl (by simp [Value.oneCell']) ?_)
          have HX6 : Hid ((w5.setRow g #[.int .i64 k1.s, .int .i64 k1.d, .int .i64 k1.w]).heap[g]? = some (.cells #[.int .i64 k1.s, .int .i64 k1.d, .int .i64 k1.w] 23 (0, 0))) := setRow_heap _ _ _ _ _ _ HX5.out
          have HB6 := Lib.hid (below_setRow HB5.out HGE3.out #[.int .i64 k1.s, .int .i64 k1.d, .int .i64 k1.w])
          go_roundw
          case rel => exact ⟨j + 1, by omega, by go_num, by rw [HI1.out]; exact HX6, HB6⟩
          case measure => simp [intOf]; omega
        · obtain rfl : j = 120 := by omega
          obtain ⟨kk, hkk⟩ : ∃ kk, iterM tt 120 k = kk := ⟨_, rfl⟩
          rw [hkk] at HX HSE
          clear hkk
          obtain ⟨a0, a1, a2⟩ := three_cells HX.out
          obtain ⟨s1, s2, s3⟩ := HSE.out
          generalize kk.w = W at a2 s1 s2 s3
          rcases Nat.lt_trichotomy tt 228 with h1 | rfl | h1
          · have q1 : (tt : Int) < 240 := by omega
            have q2 : (4 : Int) < (tt : Int) + 12 := by omega
            have q3 : (tt : Int) + 12 < 240 := by omega
            have q4 : (tt : Int) ≤ W := by omega
            have q5 : W ≤ (tt : Int) + 12 := by omega
            clear s1 s3
            go_wp2
            go_ret
            exact ⟨rfl, HBW.out⟩
          · have q4 : (228 : Int) ≤ W := by omega
            have q5 : W ≤ (240 : Int) := by omega
            clear s1 s3
            go_wp2
            go_ret
            exact ⟨rfl, HBW.out⟩
          · have q2 : (4 : Int) < (tt : Int) + 12 := by omega
            have q3 : (240 : Int) < (tt : Int) + 12 := by omega
            have q5 : W ≤ (240 : Int) := by omega
            rcases Nat.lt_trichotomy tt 240 with h2 | rfl | h2
            · have q1 : (tt : Int) < 240 := by omega
              have q4 : (tt : Int) ≤ W := by omega
              clear s1 s3
              go_wp2
              go_ret
              exact ⟨rfl, HBW.out⟩
            · have q4 : (240 : Int) ≤ W := by omega
              clear s1 s3 q2 q3
              go_wp2
              go_ret
              exact ⟨rfl, HBW.out⟩
            · have q1 : (240 : Int) < (tt : Int) := by omega
              have q4 : (240 : Int) ≤ W := by omega
              clear s1 s3
              go_wp2
              go_ret
              exact ⟨rfl, HBW.out⟩
set_option maxRecDepth 100000 in
set_option maxHeartbeats 16000000 in
theorem doubles_any (tt n : Nat) (w : World) (ht : tt < 256) (hn : n < 256) :
    Calls Try.prog 6 #[.int .u8 (tt : Int), .int .u8 (n : Int)] w fun e w' => e = .returned (.bool true) ∧ Below w.heap.size w w' := by
  have HNW : Hid (∀ w, Calls Try.prog 14 #[] w fun e w' => e = .returned (.agg #[.int .i64 (-1), .int .i64 (-1), .int .i64 10]) ∧ Below w.heap.size w w') := fun w => new_any w
  obtain ⟨k, hk⟩ : ∃ k, measX newX tt = k := ⟨_, rfl⟩
  have HK : Hid (rightX k = true) := by rw [← hk]; exact meas_right new_right
  have HC0 : Hid (∀ w, Calls Try.prog 10 #[.agg #[.int .i64 (-1), .int .i64 (-1), .int .i64 10], .int .u64 (tt : Int)] w fun e w' => e = .returned (.agg #[.int .i64 k.s, .int .i64 k.d, .int .i64 k.w]) ∧ Below w.heap.size w w') := fun w => by rw [← hk]; exact meas_any newX tt w new_right (by omega)
  have HKS : Hid (k.s = 8 * lidX tt ∧ k.d = 2 * lidX tt ∧ k.w = waitX (8 * lidX tt) (2 * lidX tt)) := by rw [← hk, new_meas]; exact ⟨rfl, rfl, rfl⟩
  have HKW : Hid (4 ≤ k.w ∧ k.w ≤ 240) := ⟨(right_iff.1 HK.out).1, (right_iff.1 HK.out).2.1⟩
  obtain ⟨q, hq⟩ : ∃ q, n % 20 = q := ⟨_, rfl⟩
  have hq2 : (n : Int).tmod 20 = (q : Int) := by rw [Int.tmod_eq_emod_of_nonneg (by omega)]; omega
  have hq3 : (n : Int) % 20 = (q : Int) := by omega
  have hq4 : q < 20 := by omega
  clear hk hq
  go_enter Try.func6, Try.ntmps6
  go_wp2_with fail
  refine (lives_any _).mono ?_
  rintro e w1 ⟨rfl, hb1⟩
  have HB1 := Lib.hid hb1
  clear hb1
  go_wp2_with fail
  refine (HNW.out _).mono ?_
  rintro e w2 ⟨rfl, hb2⟩
  have HB2 := Lib.hid (HB1.out.trans (hb2.mono HB1.out.size))
  clear hb2 HB1 HNW
  go_wp2_with fail
  refine (HC0.out _).mono ?_
  rintro e w3 ⟨rfl, hb3⟩
  have HB3 := Lib.hid (HB2.out.trans (hb3.mono HB2.out.size))
  clear hb3 HB2 HC0
  go_upto_region 4 with (first | (refine wpList_store_new rfl 23 _ _ rfl w3 #[.int .i64 0, .int .i64 0, .int .i64 0] #[.int .i64 k.s, .int .i64 k.d, .int .i64 k.w] rfl rfl (by kernel_rfl) rfl (by simp [Value.oneCell']) ?_) | go_in)
  have HX4 : Hid ((w3.alloc (.cells #[.int .i64 k.s, .int .i64 k.d, .int .i64 k.w] 23)).heap[w3.heap.size]? = some (.cells #[.int .i64 k.s, .int .i64 k.d, .int .i64 k.w] 23 (0, 0))) := heap_alloc_new w3 _
  have HB4 := Lib.hid (HB3.out.alloc HB3.out.size (.cells #[.int .i64 k.s, .int .i64 k.d, .int .i64 k.w] 23))
  have HGE4 := Lib.hid HB3.out.size
  generalize w3.alloc (.cells #[.int .i64 k.s, .int .i64 k.d, .int .i64 k.w] 23) = w4 at HX4 HB4 ⊢
  generalize w3.heap.size = g at HX4 HGE4 ⊢
  clear HB3
  obtain ⟨a0, a1, a2⟩ := three_cells HX4.out
  go_upto_region 6 with (fail)
  clear a0 a1 a2
  go_wp2
  go_loopw [7, 20] (fun t7 t20 wr => ∃ (j : Nat) (W : Int), j ≤ q ∧ t20 = .int .u8 (j : Int) ∧ t7 = .int .i64 W ∧ 4 ≤ W ∧ W ≤ 240 ∧ Hid (wr.heap[g]? = some (.cells #[.int .i64 k.s, .int .i64 k.d, .int .i64 W] 23 (0, 0))) ∧ Hid (Below w.heap.size w wr)) (fun _ t20 _ => q - (intOf t20).toNat)
  case atStart => exact ⟨0, k.w, Nat.zero_le _, rfl, rfl, HKW.out.1, HKW.out.2, HX4, HB4⟩
  case round =>
    clear HX4 HB4
    obtain ⟨j, W, hj, rfl, rfl, hW4, hW2, HX, HBW⟩ := hrel
    have HRW : Hid (rightX ⟨k.s, k.d, W⟩ = true) := right_iff.2 ⟨hW4, hW2, (right_iff.1 HK.out).2.2⟩
    by_cases hlt : j < q
    · have HCA : Hid (∀ w, Calls Try.prog 11 #[.agg #[.int .i64 k.s, .int .i64 k.d, .int .i64 W]] w fun e w' => e = .returned (.agg #[.int .i64 k.s, .int .i64 k.d, .int .i64 (min (2 * W) 240)]) ∧ Below w.heap.size w w') := fun w => by
        have := dbl_any ⟨k.s, k.d, W⟩ w HRW.out
        rw [show dblX ⟨k.s, k.d, W⟩ = ⟨k.s, k.d, boundX (W + W)⟩ from rfl, dbl_w hW4] at this
        exact this
      obtain ⟨V, hV⟩ : ∃ V, min (2 * W) 240 = V := ⟨_, rfl⟩
      have hV4 : 4 ≤ V := by omega
      have hV2 : V ≤ 240 := by omega
      rw [hV] at HCA
      have HV := Lib.hid hV
      clear hV
      go_wp2_with (refine wpList_load_row rfl 23 _ rfl g rfl 23 #[.int .i64 k.s, .int .i64 k.d, .int .i64 W] (0, 0) _ HX.out Try.underlying23 rfl (by kernel_rfl) ?_)
      refine (HCA.out _).mono ?_
      rintro e w5 ⟨rfl, hb5⟩
      have HX5 := Lib.hid (old_below HX.out hb5 (row_lt HX.out))
      have HB5 := Lib.hid (HBW.out.trans (hb5.mono HBW.out.size))
      clear hb5
      go_upto_region 9 with (first | (refine wpList_store_row rfl 23 _ _ rfl g #[.int .i64 k.s, .int .i64 k.d, .int .i64 V] rfl rfl 23 #[.int .i64 k.s, .int .i64 k.d, .int .i64 W] HX5.out (by kernel_rfl) rfl (by simp [Value.oneCell']) ?_) | go_in)
      have HX6 : Hid ((w5.setRow g #[.int .i64 k.s, .int .i64 k.d, .int .i64 V]).heap[g]? = some (.cells #[.int .i64 k.s, .int .i64 k.d, .int .i64 V] 23 (0, 0))) := setRow_heap _ _ _ _ _ _ HX5.out
      have HB6 := Lib.hid (below_setRow HB5.out HGE4.out #[.int .i64 k.s, .int .i64 k.d, .int .i64 V])
      generalize w5.setRow g #[.int .i64 k.s, .int .i64 k.d, .int .i64 V] = w6 at HX6 HB6 ⊢
      obtain ⟨a0, a1, a2⟩ := three_cells HX6.out
      have hv := HV.out
      rcases Int.lt_trichotomy (2 * W) 240 with h1 | h1 | h1
      · obtain rfl : V = 2 * W := by omega
        clear hv
        go_wp2
        go_roundw
        case rel => exact ⟨j + 1, 2 * W, by omega, by go_num, rfl, hV4, hV2, HX6, HB6⟩
        case measure => simp [intOf]; omega
      · obtain rfl : W = 120 := by omega
        obtain rfl : V = 240 := by omega
        clear hv h1
        go_wp2
        go_roundw
        case rel => exact ⟨j + 1, 240, by omega, by go_num, rfl, by omega, by omega, HX6, HB6⟩
        case measure => simp [intOf]; omega
      · obtain rfl : V = 240 := by omega
        clear hv
        go_wp2
        go_roundw
        case rel => exact ⟨j + 1, 240, by omega, by go_num, rfl, by omega, by omega, HX6, HB6⟩
        case measure => simp [intOf]; omega
    · obtain rfl : j = q := by omega
      obtain ⟨k1, hk1⟩ : ∃ k1, measX ⟨k.s, k.d, W⟩ tt = k1 := ⟨_, rfl⟩
      have HK1 : Hid (rightX k1 = true) := by rw [← hk1]; exact meas_right HRW.out
      have HW1 : Hid (k1.w ≤ max k.w 4) := by
        show _ ≤ _
        rw [← hk1, HKS.out.2.2]
        exact again_w (c := ⟨k.s, k.d, W⟩) HKS.out.1 HKS.out.2.1
      have HCA : Hid (∀ w, Calls Try.prog 10 #[.agg #[.int .i64 k.s, .int .i64 k.d, .int .i64 W], .int .u64 (tt : Int)] w fun e w' => e = .returned (.agg #[.int .i64 k1.s, .int .i64 k1.d, .int .i64 k1.w]) ∧ Below w.heap.size w w') := fun w => by rw [← hk1]; exact meas_any ⟨k.s, k.d, W⟩ tt w HRW.out (by omega)
      have HRI : Hid (∀ w, Calls Try.prog 8 #[.agg #[.int .i64 k1.s, .int .i64 k1.d, .int .i64 k1.w]] w fun e w' => e = .returned (.bool true) ∧ Below w.heap.size w w') := fun w => by
        have h1 := right_iff.1 HK1.out
        have := right_any k1 w (by unfold I64; omega) (by unfold I64; omega) (by unfold I64; omega)
        rw [HK1.out] at this
        exact this
      clear hk1
      go_wp2_with (refine wpList_load_row rfl 23 _ rfl g rfl 23 #[.int .i64 k.s, .int .i64 k.d, .int .i64 W] (0, 0) _ HX.out Try.underlying23 rfl (by kernel_rfl) ?_)
      refine (HCA.out _).mono ?_
      rintro e w5 ⟨rfl, hb5⟩
      have HB5 := Lib.hid (HBW.out.trans (hb5.mono HBW.out.size))
      clear hb5
      go_upto_region 14 with (first | (refine wpList_store_new rfl 23 _ _ rfl w5 #[.int .i64 0, .int .i64 0, .int .i64 0] #[.int .i64 k1.s, .int .i64 k1.d, .int .i64 k1.w] rfl rfl (by kernel_rfl) rfl (by simp [Value.oneCell']) ?_) | go_in)
      have HX6 : Hid ((w5.alloc (.cells #[.int .i64 k1.s, .int .i64 k1.d, .int .i64 k1.w] 23)).heap[w5.heap.size]? = some (.cells #[.int .i64 k1.s, .int .i64 k1.d, .int .i64 k1.w] 23 (0, 0))) := heap_alloc_new w5 _
      have HB6 := Lib.hid (HB5.out.alloc HB5.out.size (.cells #[.int .i64 k1.s, .int .i64 k1.d, .int .i64 k1.w] 23))
      generalize w5.alloc (.cells #[.int .i64 k1.s, .int .i64 k1.d, .int .i64 k1.w] 23) = w6 at HX6 HB6 ⊢
      generalize w5.heap.size = g6 at HX6 ⊢
      obtain ⟨a0, a1, a2⟩ := three_cells HX6.out
      have hw := HW1.out
      have hw4 := HKW.out.1
      rcases Int.lt_or_le 4 k.w with h4 | h4
      · have q1 : k1.w ≤ k.w := by omega
        clear hw
        go_wp2_with fail
        refine (HRI.out _).mono ?_
        rintro e w8 ⟨rfl, hb8⟩
        have HB8 := Lib.hid (HB6.out.trans (hb8.mono HB6.out.size))
        clear hb8 a0 a1 a2
        go_wp2
        go_ret
        exact ⟨rfl, HB8.out⟩
      · have h5 : k.w = 4 := by omega
        have q1 : k1.w ≤ 4 := by omega
        clear hw h4 hw4
        rw [h5]
        clear h5
        go_wp2_with fail
        refine (HRI.out _).mono ?_
        rintro e w8 ⟨rfl, hb8⟩
        have HB8 := Lib.hid (HB6.out.trans (hb8.mono HB6.out.size))
        clear hb8 a0 a1 a2
        go_wp2
        go_ret
        exact ⟨rfl, HB8.out⟩
end Go.Proofs.Ytafpnmmkaanjaaa
