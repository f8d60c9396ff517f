/-
  The chapter's example answers true; the law RouteRight: every slice of routes.
-/
import Derived.Test.YtfifigokglmjlaaRoc
namespace Go.Proofs.Ytfifigokglmjlaa
open Go.RowKit

def gateI : Ip := ⟨10, 0, 0, 1⟩
def rtA1 : Ro := ⟨zeroIp, 0, gateI⟩
def rtB1 : Ro := ⟨⟨10, 0, 0, 0⟩, 8, zeroIp⟩
theorem lv_add1 : addX [] rtA1 = ([rtA1], 0) := by decide +kernel
theorem lv_add2 : addX [rtA1] rtB1 = ([rtB1, rtA1], 0) := by decide +kernel
theorem lv_right1 : rightX [rtA1] = true := by decide +kernel
theorem lv_right2 : rightX [rtB1, rtA1] = true := by decide +kernel
theorem lv_find1 : findX [rtB1, rtA1] ⟨10, 2, 3, 4⟩ = (⟨10, 2, 3, 4⟩, 0) := by decide +kernel
theorem lv_find2 : findX [rtB1, rtA1] ⟨1, 2, 3, 4⟩ = (gateI, 0) := by decide +kernel
def Q4 (x0 x1 x2 x3 : Int) : Array Value := #[.int .u8 x0, .int .u8 x1, .int .u8 x2, .int .u8 x3]
set_option maxRecDepth 100000 in
set_option maxHeartbeats 4000000 in
theorem lives_any (w : World) : Calls Try.prog 7 #[] w fun e w' => e = .returned (.bool true) ∧ Below w.heap.size w w' := by
  have HA1 : Hid (∀ w, Calls Try.prog 11 #[.slice none 0 0, .agg #[.int .u8 0, .int .u8 0, .int .u8 0, .int .u8 0, .int .i64 0, .int .u8 10, .int .u8 0, .int .u8 0, .int .u8 1]] w fun e w' => ∃ v', e = .returned (.tuple #[v', .int .i64 0]) ∧ RoT w' v' [rtA1] ∧ Below w.heap.size w w') := fun w => by
    have := add_any (.slice none 0 0) [] rtA1 w SlT.nil right_nil (by unfold I64 rtA1; decide)
    rw [lv_add1] at this
    exact this
  have HA2 : Hid (∀ v w, RoT w v [rtA1] → Calls Try.prog 11 #[v, .agg #[.int .u8 10, .int .u8 0, .int .u8 0, .int .u8 0, .int .i64 8, .int .u8 0, .int .u8 0, .int .u8 0, .int .u8 0]] w fun e w' => ∃ v', e = .returned (.tuple #[v', .int .i64 0]) ∧ RoT w' v' [rtB1, rtA1] ∧ Below w.heap.size w w') := fun v w hv => by
    have := add_any v [rtA1] rtB1 w hv lv_right1 (by unfold I64 rtB1; decide)
    rw [lv_add2] at this
    exact this
  have HF1 : Hid (∀ v w, RoT w v [rtB1, rtA1] → Calls Try.prog 15 #[v, .agg #[.int .u8 10, .int .u8 2, .int .u8 3, .int .u8 4]] w fun e w' => e = .returned (.tuple #[.agg #[.int .u8 10, .int .u8 2, .int .u8 3, .int .u8 4], .int .i64 0]) ∧ Below w.heap.size w w') := fun v w hv => by
    have := find_any v [rtB1, rtA1] ⟨10, 2, 3, 4⟩ w hv lv_right2
    rw [lv_find1] at this
    exact this
  have HF2 : Hid (∀ v w, RoT w v [rtB1, rtA1] → Calls Try.prog 15 #[v, .agg #[.int .u8 1, .int .u8 2, .int .u8 3, .int .u8 4]] w fun e w' => e = .returned (.tuple #[.agg #[.int .u8 10, .int .u8 0, .int .u8 0, .int .u8 1], .int .i64 0]) ∧ Below w.heap.size w w') := fun v w hv => by
    have := find_any v [rtB1, rtA1] ⟨1, 2, 3, 4⟩ w hv lv_right2
    rw [lv_find2] at this
    exact this
  have HRI : Hid (∀ v w, RoT w v [rtB1, rtA1] → Calls Try.prog 13 #[v] w fun e w' => e = .returned (.bool true) ∧ Below w.heap.size w w') := fun v w hv => by
    have := right_any v [rtB1, rtA1] w hv (fun r hr => by
      rcases List.mem_cons.1 hr with rfl | hr
      · unfold I64 rtB1; decide
      · rcases List.mem_cons.1 hr with rfl | hr
        · unfold I64 rtA1; decide
        · cases hr) (by decide)
    rw [lv_right2] at this
    exact this
  have heq1 : ∀ w, (Op.equalIn 10000 26 (.agg #[.int .u8 10, .int .u8 2, .int .u8 3, .int .u8 4]) (.agg #[.int .u8 10, .int .u8 2, .int .u8 3, .int .u8 4])).run Try.prog w = .ok true w := eq_ip 9998 ⟨10, 2, 3, 4⟩ ⟨10, 2, 3, 4⟩
  have heq2 : ∀ w, (Op.equalIn 10000 26 (.agg #[.int .u8 10, .int .u8 0, .int .u8 0, .int .u8 1]) (.agg #[.int .u8 10, .int .u8 0, .int .u8 0, .int .u8 1])).run Try.prog w = .ok true w := eq_ip 9998 gateI gateI
  have HZ : Hid (El ipA 4) := ipE
  go_enter Try.func7, Try.ntmps7
  go_upto_region 2 with (first | (refine wpList_store_new rfl 26 _ _ rfl w #[.int .u8 0, .int .u8 0, .int .u8 0, .int .u8 0] #[.int .u8 10, .int .u8 0, .int .u8 0, .int .u8 1] rfl rfl (by kernel_rfl) rfl (HZ.out.one gateI) ?_) | go_in)
  have HB1 : Hid (Below w.heap.size w (w.alloc (.cells #[.int .u8 10, .int .u8 0, .int .u8 0, .int .u8 1] 26))) := (Below.refl _ _).alloc (Nat.le_refl _) _
  have HX1 : Hid ((w.alloc (.cells #[.int .u8 10, .int .u8 0, .int .u8 0, .int .u8 1] 26)).heap[w.heap.size]? = some (.cells #[.int .u8 10, .int .u8 0, .int .u8 0, .int .u8 1] 26 (0, 0))) := heap_alloc_new w _
  generalize w.alloc (.cells #[.int .u8 10, .int .u8 0, .int .u8 0, .int .u8 1] 26) = w1 at HB1 HX1 ⊢
  go_wp2_with (refine wpList_load_row rfl 26 _ rfl w.heap.size rfl 26 #[.int .u8 10, .int .u8 0, .int .u8 0, .int .u8 1] (0, 0) _ HX1.out Try.underlying26 rfl (by kernel_rfl) ?_)
  refine (HA1.out _).mono ?_
  rintro e w2 ⟨v2, rfl, hv2, hb2⟩
  have HV2 := Lib.hid hv2
  have HX2 := Lib.hid (old_below HX1.out hb2 (row_lt HX1.out))
  have HB2 := Lib.hid (HB1.out.trans (hb2.mono HB1.out.size))
  clear hv2 hb2 HX1 HB1 HA1
  go_wp2_with fail
  refine (HA2.out _ _ HV2.out).mono ?_
  rintro e w3 ⟨v3, rfl, hv3, hb3⟩
  have HV3 := Lib.hid hv3
  have HX3 := Lib.hid (old_below HX2.out hb3 (row_lt HX2.out))
  have HB3 := Lib.hid (HB2.out.trans (hb3.mono HB2.out.size))
  clear hv3 hb3 HX2 HB2 HV2 HA2
  go_wp2_with fail
  refine (HF1.out _ _ HV3.out).mono ?_
  rintro e w4 ⟨rfl, hb4⟩
  have HV4 := Lib.hid (HV3.out.below hb4 (Nat.le_refl _))
  have HX4 := Lib.hid (old_below HX3.out hb4 (row_lt HX3.out))
  have HB4 := Lib.hid (HB3.out.trans (hb4.mono HB3.out.size))
  clear hb4 HX3 HB3 HV3 HF1
  go_upto_region 5 with (first | (refine wpList_store_new rfl 26 _ _ rfl w4 #[.int .u8 0, .int .u8 0, .int .u8 0, .int .u8 0] #[.int .u8 10, .int .u8 2, .int .u8 3, .int .u8 4] rfl rfl (by kernel_rfl) rfl (HZ.out.one ⟨10, 2, 3, 4⟩) ?_) | go_in)
  have HX5 : Hid ((w4.alloc (.cells #[.int .u8 10, .int .u8 2, .int .u8 3, .int .u8 4] 26)).heap[w4.heap.size]? = some (.cells #[.int .u8 10, .int .u8 2, .int .u8 3, .int .u8 4] 26 (0, 0))) := heap_alloc_new w4 _
  have HY5 : Hid ((w4.alloc (.cells #[.int .u8 10, .int .u8 2, .int .u8 3, .int .u8 4] 26)).heap[w.heap.size]? = some (.cells #[.int .u8 10, .int .u8 0, .int .u8 0, .int .u8 1] 26 (0, 0))) := old_alloc HX4.out _
  have HV5 := Lib.hid (HV4.out.alloc (.cells #[.int .u8 10, .int .u8 2, .int .u8 3, .int .u8 4] 26))
  have HB5 := Lib.hid (HB4.out.alloc HB4.out.size (.cells #[.int .u8 10, .int .u8 2, .int .u8 3, .int .u8 4] 26))
  generalize w4.alloc (.cells #[.int .u8 10, .int .u8 2, .int .u8 3, .int .u8 4] 26) = w5 at HX5 HY5 HV5 HB5 ⊢
  generalize w4.heap.size = N5 at HX5 ⊢
  clear HX4 HB4 HV4
  go_wp2_with fail
  refine (HF2.out _ _ HV5.out).mono ?_
  rintro e w6 ⟨rfl, hb6⟩
  have HV6 := Lib.hid (HV5.out.below hb6 (Nat.le_refl _))
  have HX6 := Lib.hid (old_below HX5.out hb6 (row_lt HX5.out))
  have HY6 := Lib.hid (old_below HY5.out hb6 (row_lt HY5.out))
  have HB6 := Lib.hid (HB5.out.trans (hb6.mono HB5.out.size))
  clear hb6 HX5 HY5 HB5 HV5 HF2
  go_upto_region 6 with (first | (refine wpList_store_new rfl 26 _ _ rfl w6 #[.int .u8 0, .int .u8 0, .int .u8 0, .int .u8 0] #[.int .u8 10, .int .u8 0, .int .u8 0, .int .u8 1] rfl rfl (by kernel_rfl) rfl (HZ.out.one gateI) ?_) | go_in)
  have HZ7 : Hid ((w6.alloc (.cells #[.int .u8 10, .int .u8 0, .int .u8 0, .int .u8 1] 26)).heap[w6.heap.size]? = some (.cells #[.int .u8 10, .int .u8 0, .int .u8 0, .int .u8 1] 26 (0, 0))) := heap_alloc_new w6 _
  have HX7 : Hid ((w6.alloc (.cells #[.int .u8 10, .int .u8 0, .int .u8 0, .int .u8 1] 26)).heap[N5]? = some (.cells #[.int .u8 10, .int .u8 2, .int .u8 3, .int .u8 4] 26 (0, 0))) := old_alloc HX6.out _
  have HY7 : Hid ((w6.alloc (.cells #[.int .u8 10, .int .u8 0, .int .u8 0, .int .u8 1] 26)).heap[w.heap.size]? = some (.cells #[.int .u8 10, .int .u8 0, .int .u8 0, .int .u8 1] 26 (0, 0))) := old_alloc HY6.out _
  have HV7 := Lib.hid (HV6.out.alloc (.cells #[.int .u8 10, .int .u8 0, .int .u8 0, .int .u8 1] 26))
  have HB7 := Lib.hid (HB6.out.alloc HB6.out.size (.cells #[.int .u8 10, .int .u8 0, .int .u8 0, .int .u8 1] 26))
  generalize w6.alloc (.cells #[.int .u8 10, .int .u8 0, .int .u8 0, .int .u8 1] 26) = w7 at HX7 HY7 HZ7 HV7 HB7 ⊢
  generalize w6.heap.size = N7 at HZ7 ⊢
  clear HX6 HY6 HB6 HV6
  obtain ⟨a0, a1, a2, a3⟩ := four_cells HX7.out
  obtain ⟨b0, b1, b2, b3⟩ := four_cells HY7.out
  obtain ⟨c0, c1, c2, c3⟩ := four_cells HZ7.out
  go_wp2_with fail
  refine (HRI.out _ _ HV7.out).mono ?_
  rintro e w8 ⟨rfl, hb8⟩
  have HB8 := Lib.hid (HB7.out.trans (hb8.mono HB7.out.size))
  clear a0 a1 a2 a3 b0 b1 b2 b3 c0 c1 c2 c3 hb8
  go_wp2
  go_ret
  exact ⟨rfl, HB8.out⟩
/-- the law RouteRight -/
theorem rightlaw_any (v : Value) (K : List Ro) (w : World) (hv : RoT w v K) (hI : ∀ r ∈ K, I64 r.bits) (hl : K.length ≤ 140737488351232) :
    Calls Try.prog 5 #[v] w fun e w' => e = .returned (.bool true) ∧ Below w.heap.size w w' := by
  have HV := Lib.hid hv
  obtain ⟨A, c, rfl, -, -, hnc, hcm⟩ := hv
  obtain ⟨n, hnn⟩ : ∃ n, K.length = n := ⟨_, rfl⟩
  have HN := Lib.hid hnn
  have HI := Lib.hid hI
  rw [hnn] at hl hnc HV ⊢
  have hcm2 : c ≤ 9223372036854775807 := by unfold maxLen at hcm; omega
  clear hnn hI hcm
  go_enter Try.func5, Try.ntmps5
  go_wp2_with fail
  refine (lives_any _).mono ?_
  rintro e w1 ⟨rfl, hb1⟩
  have HB1 := Lib.hid hb1
  clear hb1
  by_cases h60 : 60 < n
  · have h60b : (60 : Int) < (n : Int) := by omega
    go_wp2_with fail
    refine (lives_any _).mono ?_
    rintro e w2 ⟨rfl, hb2⟩
    have HB2 := Lib.hid (HB1.out.trans (hb2.mono HB1.out.size))
    clear hb2
    go_wp2
    go_ret
    exact ⟨rfl, HB2.out⟩
  · have h60b : ¬ (60 : Int) < (n : Int) := by omega
    go_wp2_with fail
    refine (right_any _ K _ (HV.out.below HB1.out (Nat.le_refl _)) HI.out (by rw [HN.out]; omega)).mono ?_
    rintro e w2 ⟨rfl, hb2⟩
    have HB2 := Lib.hid (HB1.out.trans (hb2.mono HB1.out.size))
    clear hb2
    go_wp2_with fail
    refine (refright_any _ K _ (HV.out.below HB2.out (Nat.le_refl _)) (by rw [HN.out]; omega)).mono ?_
    rintro e w3 ⟨rfl, hb3⟩
    have HB3 := Lib.hid (HB2.out.trans (hb3.mono HB2.out.size))
    clear hb3
    generalize rightX K = b
    cases b
    · go_wp2
      go_ret
      exact ⟨rfl, HB3.out⟩
    · go_wp2
      go_ret
      exact ⟨rfl, HB3.out⟩
end Go.Proofs.Ytfifigokglmjlaa
