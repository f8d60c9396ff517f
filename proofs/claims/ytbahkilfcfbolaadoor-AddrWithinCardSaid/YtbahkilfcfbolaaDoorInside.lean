/-
  AddrWithin returns true for every two addresses and every number of bits, and turns nothing that was there.
-/
import Derived.Test.YtbahkilfcfbolaaDoorNets
import Derived.Test.YtbahkilfcfbolaaDoorRefWithin
import Derived.Test.YtbahkilfcfbolaaDoorEq
import Derived.Lib.QuietBelow
import Derived.BigQuiet
namespace Go.Proofs.YtbahkilfcfbolaaDoor
open Go.RowKit

theorem refwithin_lit (x0 x1 x2 x3 y0 y1 y2 y3 : UInt8) (b : Int) (w : World) :
    Calls Tryd.prog 24 #[.agg (ip4 x0 x1 x2 x3), .agg (ip4 y0 y1 y2 y3), .int .i64 b] w fun e w' => e = .returned (.bool (withinS [x0, x1, x2, x3] [y0, y1, y2, y3] b)) ∧ Below w.heap.size w w' := refwithin_any [x0, x1, x2, x3] [y0, y1, y2, y3] b w rfl rfl
theorem getV_four (x0 x1 x2 x3 : UInt8) : getV [x0, x1, x2, x3] = ((x0.toNat * 256 + x1.toNat) * 256 + x2.toNat) * 256 + x3.toNat := by simp [getV]
theorem getV_inj (x0 x1 x2 x3 y0 y1 y2 y3 : UInt8) (h : getV [x0, x1, x2, x3] = getV [y0, y1, y2, y3]) : x0 = y0 ∧ x1 = y1 ∧ x2 = y2 ∧ x3 = y3 := by
  rw [getV_four, getV_four] at h
  have hx1 := x1.toNat_lt
  have hx2 := x2.toNat_lt
  have hx3 := x3.toNat_lt
  have hy1 := y1.toNat_lt
  have hy2 := y2.toNat_lt
  have hy3 := y3.toNat_lt
  exact ⟨UInt8.toNat_inj.1 (by omega), UInt8.toNat_inj.1 (by omega), UInt8.toNat_inj.1 (by omega), UInt8.toNat_inj.1 (by omega)⟩
theorem withinS_zero (x0 x1 x2 x3 y0 y1 y2 y3 : UInt8) : withinS [x0, x1, x2, x3] [y0, y1, y2, y3] 0 = true := by
  refine (withinS_true (m := 0) (by omega)).2 ?_
  rw [Nat.div_eq_of_lt (getV4 _ rfl), Nat.div_eq_of_lt (getV4 _ rfl)]
theorem withinS_all (x0 x1 x2 x3 y0 y1 y2 y3 : UInt8) : withinS [x0, x1, x2, x3] [y0, y1, y2, y3] 32 = (x0 == y0 && (x1 == y1 && (x2 == y2 && x3 == y3))) := by
  have h := withinS_true (a := [x0, x1, x2, x3]) (n := [y0, y1, y2, y3]) (m := 32) (by omega)
  rw [Bool.eq_iff_iff]
  refine h.trans ?_
  simp only [Nat.sub_self, Nat.pow_zero, Nat.div_one, Bool.and_eq_true, beq_iff_eq]
  constructor
  · exact fun e => getV_inj _ _ _ _ _ _ _ _ e
  · rintro ⟨rfl, rfl, rfl, rfl⟩
    rfl
theorem withinS_comm (a n : List UInt8) (b : Int) : withinS a n b = withinS n a b := by
  unfold withinS
  congr 1
  exact propext ⟨fun h => ⟨h.1, h.2.1, h.2.2.symm⟩, fun h => ⟨h.1, h.2.1, h.2.2.symm⟩⟩

set_option maxRecDepth 100000 in
set_option maxHeartbeats 4000000 in
theorem inside_fl (x0 x1 x2 x3 : UInt8) (b : Int) (w : World) (hR : Ready w) (h1 : withinS [x0, x1, x2, x3] [x0, x1, x2, x3] b = false) :
    Calls Tryd.prog 6 #[.agg #[.int .u8 (x0.toNat : Int), .int .u8 (x1.toNat : Int), .int .u8 (x2.toNat : Int), .int .u8 (x3.toNat : Int)], .agg #[.int .u8 (x0.toNat : Int), .int .u8 (x1.toNat : Int), .int .u8 (x2.toNat : Int), .int .u8 (x3.toNat : Int)], .int .i64 b] w fun e w' => e = .returned (.bool true) ∧ Below w.heap.size w w' := by
  have h3 : withinS [x0, x1, x2, x3] [x0, x1, x2, x3] 0 = true := withinS_zero _ _ _ _ _ _ _ _
  have h4 : withinS [x0, x1, x2, x3] [x0, x1, x2, x3] 32 = true := by
    rw [withinS_all]
    simp
  have h5 : withinS [x0, x1, x2, x3] [x0, x1, x2, x3] b = false := by
    rw [withinS_comm]
    exact h1
  have hE : ∀ w, (Op.equalIn 10000 23 (.agg #[.int .u8 (x0.toNat : Int), .int .u8 (x1.toNat : Int), .int .u8 (x2.toNat : Int), .int .u8 (x3.toNat : Int)]) (.agg #[.int .u8 (x0.toNat : Int), .int .u8 (x1.toNat : Int), .int .u8 (x2.toNat : Int), .int .u8 (x3.toNat : Int)])).run Tryd.prog w = .ok true w := fun w => by
    have h := eq_ip 9998 x0 x1 x2 x3 x0 x1 x2 x3 w
    simpa using h
  have HB0 := Lib.hid (((Below.refl w.heap.size w).alloc (Nat.le_refl _) (.cells #[.int .u8 (x0.toNat : Int), .int .u8 (x1.toNat : Int), .int .u8 (x2.toNat : Int), .int .u8 (x3.toNat : Int)] 23)).alloc (by simp) (.cells #[.int .u8 (x0.toNat : Int), .int .u8 (x1.toNat : Int), .int .u8 (x2.toNat : Int), .int .u8 (x3.toNat : Int)] 23))
  have HX0 := Lib.hid (at1 w (.cells #[.int .u8 (x0.toNat : Int), .int .u8 (x1.toNat : Int), .int .u8 (x2.toNat : Int), .int .u8 (x3.toNat : Int)] 23) (.cells #[.int .u8 (x0.toNat : Int), .int .u8 (x1.toNat : Int), .int .u8 (x2.toNat : Int), .int .u8 (x3.toNat : Int)] 23))
  have HY0 := Lib.hid (at2 w (.cells #[.int .u8 (x0.toNat : Int), .int .u8 (x1.toNat : Int), .int .u8 (x2.toNat : Int), .int .u8 (x3.toNat : Int)] 23) (.cells #[.int .u8 (x0.toNat : Int), .int .u8 (x1.toNat : Int), .int .u8 (x2.toNat : Int), .int .u8 (x3.toNat : Int)] 23))
  go_enter Tryd.func6, Tryd.ntmps6
  go_wp2_with fail
  refine (lives_any _ (hR.below HB0.out (Nat.le_refl _))).mono ?_
  rintro e w1 ⟨rfl, hb⟩
  have HB1 := Lib.hid (HB0.out.trans (hb.mono HB0.out.size))
  have HX1 := Lib.hid ((hb.block _ (row_lt HX0.out)).trans HX0.out)
  have HY1 := Lib.hid ((hb.block _ (row_lt HY0.out)).trans HY0.out)
  clear hb
  obtain ⟨a0, a1, a2, a3⟩ := four_cells4 HX1.out
  obtain ⟨b0, b1, b2, b3⟩ := four_cells4 HY1.out
  go_wp2_with fail
  refine (within_lit _ _ _ _ _ _ _ _ _ _).mono ?_
  rintro e w2 ⟨rfl, hb⟩
  rw [h1]
  have HB2 := Lib.hid (HB1.out.trans (hb.mono HB1.out.size))
  have hx2 := (hb.block _ (row_lt HX1.out)).trans HX1.out
  have hy2 := (hb.block _ (row_lt HY1.out)).trans HY1.out
  clear hb a0 a1 a2 a3 b0 b1 b2 b3
  obtain ⟨a0, a1, a2, a3⟩ := four_cells4 hx2
  obtain ⟨b0, b1, b2, b3⟩ := four_cells4 hy2
  have ka0 := cell_regrown a0
  have ka1 := cell_regrown a1
  have ka2 := cell_regrown a2
  have ka3 := cell_regrown a3
  have kb0 := cell_regrown b0
  have kb1 := cell_regrown b1
  have kb2 := cell_regrown b2
  have kb3 := cell_regrown b3
  clear hx2 hy2 HX0 HY0 HX1 HY1 HB0 HB1
  go_upto_region 4 with (fail)
  clear a0 a1 a2 a3 b0 b1 b2 b3
  refine wp_region_quiet_below (by kernel_rfl) (by kernel_rfl) ?_
  repeat (quiet_step (first | (go_at_call 24; exact Calls.regrown_of (refwithin_lit _ _ _ _ _ _ _ _ _ _)) | (go_at_call 23; exact Calls.regrown_of (within_lit _ _ _ _ _ _ _ _ _ _))))
  refine wpQuiet_nil ?_
  intro _ hw'
  obtain ⟨⟨dq, osq⟩, hw''⟩ := hw'
  subst hw''
  have HB := Lib.hid (HB2.out.trans ((below_regrown w2 dq osq).mono HB2.out.size))
  go_wp2
  go_ret
  exact ⟨rfl, HB.out⟩

set_option maxRecDepth 100000 in
set_option maxHeartbeats 4000000 in
theorem inside_zl (x0 x1 x2 x3 : UInt8) (w : World) (hR : Ready w) (h1 : withinS [x0, x1, x2, x3] [x0, x1, x2, x3] 0 = true) :
    Calls Tryd.prog 6 #[.agg #[.int .u8 (x0.toNat : Int), .int .u8 (x1.toNat : Int), .int .u8 (x2.toNat : Int), .int .u8 (x3.toNat : Int)], .agg #[.int .u8 (x0.toNat : Int), .int .u8 (x1.toNat : Int), .int .u8 (x2.toNat : Int), .int .u8 (x3.toNat : Int)], .int .i64 0] w fun e w' => e = .returned (.bool true) ∧ Below w.heap.size w w' := by
  have h3 : withinS [x0, x1, x2, x3] [x0, x1, x2, x3] 0 = true := withinS_zero _ _ _ _ _ _ _ _
  have h4 : withinS [x0, x1, x2, x3] [x0, x1, x2, x3] 32 = true := by
    rw [withinS_all]
    simp
  have h5 : withinS [x0, x1, x2, x3] [x0, x1, x2, x3] 0 = true := by
    rw [withinS_comm]
    exact h1
  have hE : ∀ w, (Op.equalIn 10000 23 (.agg #[.int .u8 (x0.toNat : Int), .int .u8 (x1.toNat : Int), .int .u8 (x2.toNat : Int), .int .u8 (x3.toNat : Int)]) (.agg #[.int .u8 (x0.toNat : Int), .int .u8 (x1.toNat : Int), .int .u8 (x2.toNat : Int), .int .u8 (x3.toNat : Int)])).run Tryd.prog w = .ok true w := fun w => by
    have h := eq_ip 9998 x0 x1 x2 x3 x0 x1 x2 x3 w
    simpa using h
  have HB0 := Lib.hid (((Below.refl w.heap.size w).alloc (Nat.le_refl _) (.cells #[.int .u8 (x0.toNat : Int), .int .u8 (x1.toNat : Int), .int .u8 (x2.toNat : Int), .int .u8 (x3.toNat : Int)] 23)).alloc (by simp) (.cells #[.int .u8 (x0.toNat : Int), .int .u8 (x1.toNat : Int), .int .u8 (x2.toNat : Int), .int .u8 (x3.toNat : Int)] 23))
  have HX0 := Lib.hid (at1 w (.cells #[.int .u8 (x0.toNat : Int), .int .u8 (x1.toNat : Int), .int .u8 (x2.toNat : Int), .int .u8 (x3.toNat : Int)] 23) (.cells #[.int .u8 (x0.toNat : Int), .int .u8 (x1.toNat : Int), .int .u8 (x2.toNat : Int), .int .u8 (x3.toNat : Int)] 23))
  have HY0 := Lib.hid (at2 w (.cells #[.int .u8 (x0.toNat : Int), .int .u8 (x1.toNat : Int), .int .u8 (x2.toNat : Int), .int .u8 (x3.toNat : Int)] 23) (.cells #[.int .u8 (x0.toNat : Int), .int .u8 (x1.toNat : Int), .int .u8 (x2.toNat : Int), .int .u8 (x3.toNat : Int)] 23))
  go_enter Tryd.func6, Tryd.ntmps6
  go_wp2_with fail
  refine (lives_any _ (hR.below HB0.out (Nat.le_refl _))).mono ?_
  rintro e w1 ⟨rfl, hb⟩
  have HB1 := Lib.hid (HB0.out.trans (hb.mono HB0.out.size))
  have HX1 := Lib.hid ((hb.block _ (row_lt HX0.out)).trans HX0.out)
  have HY1 := Lib.hid ((hb.block _ (row_lt HY0.out)).trans HY0.out)
  clear hb
  obtain ⟨a0, a1, a2, a3⟩ := four_cells4 HX1.out
  obtain ⟨b0, b1, b2, b3⟩ := four_cells4 HY1.out
  go_wp2_with fail
  refine (within_lit _ _ _ _ _ _ _ _ _ _).mono ?_
  rintro e w2 ⟨rfl, hb⟩
  rw [h1]
  have HB2 := Lib.hid (HB1.out.trans (hb.mono HB1.out.size))
  have hx2 := (hb.block _ (row_lt HX1.out)).trans HX1.out
  have hy2 := (hb.block _ (row_lt HY1.out)).trans HY1.out
  clear hb a0 a1 a2 a3 b0 b1 b2 b3
  obtain ⟨a0, a1, a2, a3⟩ := four_cells4 hx2
  obtain ⟨b0, b1, b2, b3⟩ := four_cells4 hy2
  have ka0 := cell_regrown a0
  have ka1 := cell_regrown a1
  have ka2 := cell_regrown a2
  have ka3 := cell_regrown a3
  have kb0 := cell_regrown b0
  have kb1 := cell_regrown b1
  have kb2 := cell_regrown b2
  have kb3 := cell_regrown b3
  clear hx2 hy2 HX0 HY0 HX1 HY1 HB0 HB1
  go_upto_region 4 with (fail)
  clear a0 a1 a2 a3 b0 b1 b2 b3
  refine wp_region_quiet_below (by kernel_rfl) (by kernel_rfl) ?_
  repeat (quiet_step (first | (go_at_call 24; exact Calls.regrown_of (refwithin_lit _ _ _ _ _ _ _ _ _ _)) | (go_at_call 23; exact Calls.regrown_of (within_lit _ _ _ _ _ _ _ _ _ _))))
  refine wpQuiet_nil ?_
  intro _ hw'
  obtain ⟨⟨dq, osq⟩, hw''⟩ := hw'
  subst hw''
  have HB := Lib.hid (HB2.out.trans ((below_regrown w2 dq osq).mono HB2.out.size))
  go_wp2
  go_ret
  exact ⟨rfl, HB.out⟩

set_option maxRecDepth 100000 in
set_option maxHeartbeats 4000000 in
theorem inside_tl (x0 x1 x2 x3 : UInt8) (m : Nat) (w : World) (hR : Ready w) (hm1 : 1 ≤ m) (hm32 : m ≤ 32) (h1 : withinS [x0, x1, x2, x3] [x0, x1, x2, x3] m = true) :
    Calls Tryd.prog 6 #[.agg #[.int .u8 (x0.toNat : Int), .int .u8 (x1.toNat : Int), .int .u8 (x2.toNat : Int), .int .u8 (x3.toNat : Int)], .agg #[.int .u8 (x0.toNat : Int), .int .u8 (x1.toNat : Int), .int .u8 (x2.toNat : Int), .int .u8 (x3.toNat : Int)], .int .i64 m] w fun e w' => e = .returned (.bool true) ∧ Below w.heap.size w w' := by
  have h3 : withinS [x0, x1, x2, x3] [x0, x1, x2, x3] 0 = true := withinS_zero _ _ _ _ _ _ _ _
  have h4 : withinS [x0, x1, x2, x3] [x0, x1, x2, x3] 32 = true := by
    rw [withinS_all]
    simp
  have h5 : withinS [x0, x1, x2, x3] [x0, x1, x2, x3] m = true := by
    rw [withinS_comm]
    exact h1
  have hm0 : ((m : Int) == 0) = false := by
    rw [beq_eq_false_iff_ne]
    omega
  have h2 : withinS [x0, x1, x2, x3] [x0, x1, x2, x3] ((m : Int) - 1) = true := by
    rw [show (m : Int) - 1 = ((m - 1 : Nat) : Int) from by omega]
    exact withinS_fewer hm32 (Nat.sub_le _ _) h1
  have h2w : withinS [x0, x1, x2, x3] [x0, x1, x2, x3] (IntKind.i64.wrap ((m : Int) - 1)) = true := by
    rw [IntWalk.i64_in _ ⟨by omega, by omega⟩]
    exact h2
  have hE : ∀ w, (Op.equalIn 10000 23 (.agg #[.int .u8 (x0.toNat : Int), .int .u8 (x1.toNat : Int), .int .u8 (x2.toNat : Int), .int .u8 (x3.toNat : Int)]) (.agg #[.int .u8 (x0.toNat : Int), .int .u8 (x1.toNat : Int), .int .u8 (x2.toNat : Int), .int .u8 (x3.toNat : Int)])).run Tryd.prog w = .ok true w := fun w => by
    have h := eq_ip 9998 x0 x1 x2 x3 x0 x1 x2 x3 w
    simpa using h
  have HB0 := Lib.hid (((Below.refl w.heap.size w).alloc (Nat.le_refl _) (.cells #[.int .u8 (x0.toNat : Int), .int .u8 (x1.toNat : Int), .int .u8 (x2.toNat : Int), .int .u8 (x3.toNat : Int)] 23)).alloc (by simp) (.cells #[.int .u8 (x0.toNat : Int), .int .u8 (x1.toNat : Int), .int .u8 (x2.toNat : Int), .int .u8 (x3.toNat : Int)] 23))
  have HX0 := Lib.hid (at1 w (.cells #[.int .u8 (x0.toNat : Int), .int .u8 (x1.toNat : Int), .int .u8 (x2.toNat : Int), .int .u8 (x3.toNat : Int)] 23) (.cells #[.int .u8 (x0.toNat : Int), .int .u8 (x1.toNat : Int), .int .u8 (x2.toNat : Int), .int .u8 (x3.toNat : Int)] 23))
  have HY0 := Lib.hid (at2 w (.cells #[.int .u8 (x0.toNat : Int), .int .u8 (x1.toNat : Int), .int .u8 (x2.toNat : Int), .int .u8 (x3.toNat : Int)] 23) (.cells #[.int .u8 (x0.toNat : Int), .int .u8 (x1.toNat : Int), .int .u8 (x2.toNat : Int), .int .u8 (x3.toNat : Int)] 23))
  go_enter Tryd.func6, Tryd.ntmps6
  go_wp2_with fail
  refine (lives_any _ (hR.below HB0.out (Nat.le_refl _))).mono ?_
  rintro e w1 ⟨rfl, hb⟩
  have HB1 := Lib.hid (HB0.out.trans (hb.mono HB0.out.size))
  have HX1 := Lib.hid ((hb.block _ (row_lt HX0.out)).trans HX0.out)
  have HY1 := Lib.hid ((hb.block _ (row_lt HY0.out)).trans HY0.out)
  clear hb
  obtain ⟨a0, a1, a2, a3⟩ := four_cells4 HX1.out
  obtain ⟨b0, b1, b2, b3⟩ := four_cells4 HY1.out
  go_wp2_with fail
  refine (within_lit _ _ _ _ _ _ _ _ _ _).mono ?_
  rintro e w2 ⟨rfl, hb⟩
  rw [h1]
  have HB2 := Lib.hid (HB1.out.trans (hb.mono HB1.out.size))
  have hx2 := (hb.block _ (row_lt HX1.out)).trans HX1.out
  have hy2 := (hb.block _ (row_lt HY1.out)).trans HY1.out
  clear hb a0 a1 a2 a3 b0 b1 b2 b3
  obtain ⟨a0, a1, a2, a3⟩ := four_cells4 hx2
  obtain ⟨b0, b1, b2, b3⟩ := four_cells4 hy2
  have ka0 := cell_regrown a0
  have ka1 := cell_regrown a1
  have ka2 := cell_regrown a2
  have ka3 := cell_regrown a3
  have kb0 := cell_regrown b0
  have kb1 := cell_regrown b1
  have kb2 := cell_regrown b2
  have kb3 := cell_regrown b3
  clear hx2 hy2 HX0 HY0 HX1 HY1 HB0 HB1
  go_upto_region 4 with (fail)
  clear a0 a1 a2 a3 b0 b1 b2 b3
  refine wp_region_quiet_below (by kernel_rfl) (by kernel_rfl) ?_
  repeat (quiet_step (first | (go_at_call 24; exact Calls.regrown_of (refwithin_lit _ _ _ _ _ _ _ _ _ _)) | (go_at_call 23; exact Calls.regrown_of (within_lit _ _ _ _ _ _ _ _ _ _))))
  refine wpQuiet_nil ?_
  intro _ hw'
  obtain ⟨⟨dq, osq⟩, hw''⟩ := hw'
  subst hw''
  have HB := Lib.hid (HB2.out.trans ((below_regrown w2 dq osq).mono HB2.out.size))
  go_wp2
  go_ret
  exact ⟨rfl, HB.out⟩

set_option maxRecDepth 100000 in
set_option maxHeartbeats 4000000 in
theorem inside_fu (x0 x1 x2 x3 y0 y1 y2 y3 : UInt8) (b : Int) (w : World) (hR : Ready w) (h1 : withinS [x0, x1, x2, x3] [y0, y1, y2, y3] b = false) (hne : (x0 == y0 && (x1 == y1 && (x2 == y2 && x3 == y3))) = false) :
    Calls Tryd.prog 6 #[.agg #[.int .u8 (x0.toNat : Int), .int .u8 (x1.toNat : Int), .int .u8 (x2.toNat : Int), .int .u8 (x3.toNat : Int)], .agg #[.int .u8 (y0.toNat : Int), .int .u8 (y1.toNat : Int), .int .u8 (y2.toNat : Int), .int .u8 (y3.toNat : Int)], .int .i64 b] w fun e w' => e = .returned (.bool true) ∧ Below w.heap.size w w' := by
  have h3 : withinS [x0, x1, x2, x3] [y0, y1, y2, y3] 0 = true := withinS_zero _ _ _ _ _ _ _ _
  have h4 : withinS [x0, x1, x2, x3] [y0, y1, y2, y3] 32 = false := by
    rw [withinS_all]
    exact hne
  have h5 : withinS [y0, y1, y2, y3] [x0, x1, x2, x3] b = false := by
    rw [withinS_comm]
    exact h1
  have hE : ∀ w, (Op.equalIn 10000 23 (.agg #[.int .u8 (x0.toNat : Int), .int .u8 (x1.toNat : Int), .int .u8 (x2.toNat : Int), .int .u8 (x3.toNat : Int)]) (.agg #[.int .u8 (y0.toNat : Int), .int .u8 (y1.toNat : Int), .int .u8 (y2.toNat : Int), .int .u8 (y3.toNat : Int)])).run Tryd.prog w = .ok false w := fun w => by
    have h := eq_ip 9998 x0 x1 x2 x3 y0 y1 y2 y3 w
    rw [hne] at h
    exact h
  have HB0 := Lib.hid (((Below.refl w.heap.size w).alloc (Nat.le_refl _) (.cells #[.int .u8 (x0.toNat : Int), .int .u8 (x1.toNat : Int), .int .u8 (x2.toNat : Int), .int .u8 (x3.toNat : Int)] 23)).alloc (by simp) (.cells #[.int .u8 (y0.toNat : Int), .int .u8 (y1.toNat : Int), .int .u8 (y2.toNat : Int), .int .u8 (y3.toNat : Int)] 23))
  have HX0 := Lib.hid (at1 w (.cells #[.int .u8 (x0.toNat : Int), .int .u8 (x1.toNat : Int), .int .u8 (x2.toNat : Int), .int .u8 (x3.toNat : Int)] 23) (.cells #[.int .u8 (y0.toNat : Int), .int .u8 (y1.toNat : Int), .int .u8 (y2.toNat : Int), .int .u8 (y3.toNat : Int)] 23))
  have HY0 := Lib.hid (at2 w (.cells #[.int .u8 (x0.toNat : Int), .int .u8 (x1.toNat : Int), .int .u8 (x2.toNat : Int), .int .u8 (x3.toNat : Int)] 23) (.cells #[.int .u8 (y0.toNat : Int), .int .u8 (y1.toNat : Int), .int .u8 (y2.toNat : Int), .int .u8 (y3.toNat : Int)] 23))
  go_enter Tryd.func6, Tryd.ntmps6
  go_wp2_with fail
  refine (lives_any _ (hR.below HB0.out (Nat.le_refl _))).mono ?_
  rintro e w1 ⟨rfl, hb⟩
  have HB1 := Lib.hid (HB0.out.trans (hb.mono HB0.out.size))
  have HX1 := Lib.hid ((hb.block _ (row_lt HX0.out)).trans HX0.out)
  have HY1 := Lib.hid ((hb.block _ (row_lt HY0.out)).trans HY0.out)
  clear hb
  obtain ⟨a0, a1, a2, a3⟩ := four_cells4 HX1.out
  obtain ⟨b0, b1, b2, b3⟩ := four_cells4 HY1.out
  go_wp2_with fail
  refine (within_lit _ _ _ _ _ _ _ _ _ _).mono ?_
  rintro e w2 ⟨rfl, hb⟩
  rw [h1]
  have HB2 := Lib.hid (HB1.out.trans (hb.mono HB1.out.size))
  have hx2 := (hb.block _ (row_lt HX1.out)).trans HX1.out
  have hy2 := (hb.block _ (row_lt HY1.out)).trans HY1.out
  clear hb a0 a1 a2 a3 b0 b1 b2 b3
  obtain ⟨a0, a1, a2, a3⟩ := four_cells4 hx2
  obtain ⟨b0, b1, b2, b3⟩ := four_cells4 hy2
  have ka0 := cell_regrown a0
  have ka1 := cell_regrown a1
  have ka2 := cell_regrown a2
  have ka3 := cell_regrown a3
  have kb0 := cell_regrown b0
  have kb1 := cell_regrown b1
  have kb2 := cell_regrown b2
  have kb3 := cell_regrown b3
  clear hx2 hy2 HX0 HY0 HX1 HY1 HB0 HB1
  go_upto_region 4 with (fail)
  clear a0 a1 a2 a3 b0 b1 b2 b3
  refine wp_region_quiet_below (by kernel_rfl) (by kernel_rfl) ?_
  repeat (quiet_step (first | (go_at_call 24; exact Calls.regrown_of (refwithin_lit _ _ _ _ _ _ _ _ _ _)) | (go_at_call 23; exact Calls.regrown_of (within_lit _ _ _ _ _ _ _ _ _ _))))
  refine wpQuiet_nil ?_
  intro _ hw'
  obtain ⟨⟨dq, osq⟩, hw''⟩ := hw'
  subst hw''
  have HB := Lib.hid (HB2.out.trans ((below_regrown w2 dq osq).mono HB2.out.size))
  go_wp2
  go_ret
  exact ⟨rfl, HB.out⟩

set_option maxRecDepth 100000 in
set_option maxHeartbeats 4000000 in
theorem inside_zu (x0 x1 x2 x3 y0 y1 y2 y3 : UInt8) (w : World) (hR : Ready w) (h1 : withinS [x0, x1, x2, x3] [y0, y1, y2, y3] 0 = true) (hne : (x0 == y0 && (x1 == y1 && (x2 == y2 && x3 == y3))) = false) :
    Calls Tryd.prog 6 #[.agg #[.int .u8 (x0.toNat : Int), .int .u8 (x1.toNat : Int), .int .u8 (x2.toNat : Int), .int .u8 (x3.toNat : Int)], .agg #[.int .u8 (y0.toNat : Int), .int .u8 (y1.toNat : Int), .int .u8 (y2.toNat : Int), .int .u8 (y3.toNat : Int)], .int .i64 0] w fun e w' => e = .returned (.bool true) ∧ Below w.heap.size w w' := by
  have h3 : withinS [x0, x1, x2, x3] [y0, y1, y2, y3] 0 = true := withinS_zero _ _ _ _ _ _ _ _
  have h4 : withinS [x0, x1, x2, x3] [y0, y1, y2, y3] 32 = false := by
    rw [withinS_all]
    exact hne
  have h5 : withinS [y0, y1, y2, y3] [x0, x1, x2, x3] 0 = true := by
    rw [withinS_comm]
    exact h1
  have hE : ∀ w, (Op.equalIn 10000 23 (.agg #[.int .u8 (x0.toNat : Int), .int .u8 (x1.toNat : Int), .int .u8 (x2.toNat : Int), .int .u8 (x3.toNat : Int)]) (.agg #[.int .u8 (y0.toNat : Int), .int .u8 (y1.toNat : Int), .int .u8 (y2.toNat : Int), .int .u8 (y3.toNat : Int)])).run Tryd.prog w = .ok false w := fun w => by
    have h := eq_ip 9998 x0 x1 x2 x3 y0 y1 y2 y3 w
    rw [hne] at h
    exact h
  have HB0 := Lib.hid (((Below.refl w.heap.size w).alloc (Nat.le_refl _) (.cells #[.int .u8 (x0.toNat : Int), .int .u8 (x1.toNat : Int), .int .u8 (x2.toNat : Int), .int .u8 (x3.toNat : Int)] 23)).alloc (by simp) (.cells #[.int .u8 (y0.toNat : Int), .int .u8 (y1.toNat : Int), .int .u8 (y2.toNat : Int), .int .u8 (y3.toNat : Int)] 23))
  have HX0 := Lib.hid (at1 w (.cells #[.int .u8 (x0.toNat : Int), .int .u8 (x1.toNat : Int), .int .u8 (x2.toNat : Int), .int .u8 (x3.toNat : Int)] 23) (.cells #[.int .u8 (y0.toNat : Int), .int .u8 (y1.toNat : Int), .int .u8 (y2.toNat : Int), .int .u8 (y3.toNat : Int)] 23))
  have HY0 := Lib.hid (at2 w (.cells #[.int .u8 (x0.toNat : Int), .int .u8 (x1.toNat : Int), .int .u8 (x2.toNat : Int), .int .u8 (x3.toNat : Int)] 23) (.cells #[.int .u8 (y0.toNat : Int), .int .u8 (y1.toNat : Int), .int .u8 (y2.toNat : Int), .int .u8 (y3.toNat : Int)] 23))
  go_enter Tryd.func6, Tryd.ntmps6
  go_wp2_with fail
  refine (lives_any _ (hR.below HB0.out (Nat.le_refl _))).mono ?_
  rintro e w1 ⟨rfl, hb⟩
  have HB1 := Lib.hid (HB0.out.trans (hb.mono HB0.out.size))
  have HX1 := Lib.hid ((hb.block _ (row_lt HX0.out)).trans HX0.out)
  have HY1 := Lib.hid ((hb.block _ (row_lt HY0.out)).trans HY0.out)
  clear hb
  obtain ⟨a0, a1, a2, a3⟩ := four_cells4 HX1.out
  obtain ⟨b0, b1, b2, b3⟩ := four_cells4 HY1.out
  go_wp2_with fail
  refine (within_lit _ _ _ _ _ _ _ _ _ _).mono ?_
  rintro e w2 ⟨rfl, hb⟩
  rw [h1]
  have HB2 := Lib.hid (HB1.out.trans (hb.mono HB1.out.size))
  have hx2 := (hb.block _ (row_lt HX1.out)).trans HX1.out
  have hy2 := (hb.block _ (row_lt HY1.out)).trans HY1.out
  clear hb a0 a1 a2 a3 b0 b1 b2 b3
  obtain ⟨a0, a1, a2, a3⟩ := four_cells4 hx2
  obtain ⟨b0, b1, b2, b3⟩ := four_cells4 hy2
  have ka0 := cell_regrown a0
  have ka1 := cell_regrown a1
  have ka2 := cell_regrown a2
  have ka3 := cell_regrown a3
  have kb0 := cell_regrown b0
  have kb1 := cell_regrown b1
  have kb2 := cell_regrown b2
  have kb3 := cell_regrown b3
  clear hx2 hy2 HX0 HY0 HX1 HY1 HB0 HB1
  go_upto_region 4 with (fail)
  clear a0 a1 a2 a3 b0 b1 b2 b3
  refine wp_region_quiet_below (by kernel_rfl) (by kernel_rfl) ?_
  repeat (quiet_step (first | (go_at_call 24; exact Calls.regrown_of (refwithin_lit _ _ _ _ _ _ _ _ _ _)) | (go_at_call 23; exact Calls.regrown_of (within_lit _ _ _ _ _ _ _ _ _ _))))
  refine wpQuiet_nil ?_
  intro _ hw'
  obtain ⟨⟨dq, osq⟩, hw''⟩ := hw'
  subst hw''
  have HB := Lib.hid (HB2.out.trans ((below_regrown w2 dq osq).mono HB2.out.size))
  go_wp2
  go_ret
  exact ⟨rfl, HB.out⟩

set_option maxRecDepth 100000 in
set_option maxHeartbeats 4000000 in
theorem inside_tu (x0 x1 x2 x3 y0 y1 y2 y3 : UInt8) (m : Nat) (w : World) (hR : Ready w) (hm1 : 1 ≤ m) (hm32 : m ≤ 32) (h1 : withinS [x0, x1, x2, x3] [y0, y1, y2, y3] m = true) (hne : (x0 == y0 && (x1 == y1 && (x2 == y2 && x3 == y3))) = false) :
    Calls Tryd.prog 6 #[.agg #[.int .u8 (x0.toNat : Int), .int .u8 (x1.toNat : Int), .int .u8 (x2.toNat : Int), .int .u8 (x3.toNat : Int)], .agg #[.int .u8 (y0.toNat : Int), .int .u8 (y1.toNat : Int), .int .u8 (y2.toNat : Int), .int .u8 (y3.toNat : Int)], .int .i64 m] w fun e w' => e = .returned (.bool true) ∧ Below w.heap.size w w' := by
  have h3 : withinS [x0, x1, x2, x3] [y0, y1, y2, y3] 0 = true := withinS_zero _ _ _ _ _ _ _ _
  have h4 : withinS [x0, x1, x2, x3] [y0, y1, y2, y3] 32 = false := by
    rw [withinS_all]
    exact hne
  have h5 : withinS [y0, y1, y2, y3] [x0, x1, x2, x3] m = true := by
    rw [withinS_comm]
    exact h1
  have hm0 : ((m : Int) == 0) = false := by
    rw [beq_eq_false_iff_ne]
    omega
  have h2 : withinS [x0, x1, x2, x3] [y0, y1, y2, y3] ((m : Int) - 1) = true := by
    rw [show (m : Int) - 1 = ((m - 1 : Nat) : Int) from by omega]
    exact withinS_fewer hm32 (Nat.sub_le _ _) h1
  have h2w : withinS [x0, x1, x2, x3] [y0, y1, y2, y3] (IntKind.i64.wrap ((m : Int) - 1)) = true := by
    rw [IntWalk.i64_in _ ⟨by omega, by omega⟩]
    exact h2
  have hE : ∀ w, (Op.equalIn 10000 23 (.agg #[.int .u8 (x0.toNat : Int), .int .u8 (x1.toNat : Int), .int .u8 (x2.toNat : Int), .int .u8 (x3.toNat : Int)]) (.agg #[.int .u8 (y0.toNat : Int), .int .u8 (y1.toNat : Int), .int .u8 (y2.toNat : Int), .int .u8 (y3.toNat : Int)])).run Tryd.prog w = .ok false w := fun w => by
    have h := eq_ip 9998 x0 x1 x2 x3 y0 y1 y2 y3 w
    rw [hne] at h
    exact h
  have HB0 := Lib.hid (((Below.refl w.heap.size w).alloc (Nat.le_refl _) (.cells #[.int .u8 (x0.toNat : Int), .int .u8 (x1.toNat : Int), .int .u8 (x2.toNat : Int), .int .u8 (x3.toNat : Int)] 23)).alloc (by simp) (.cells #[.int .u8 (y0.toNat : Int), .int .u8 (y1.toNat : Int), .int .u8 (y2.toNat : Int), .int .u8 (y3.toNat : Int)] 23))
  have HX0 := Lib.hid (at1 w (.cells #[.int .u8 (x0.toNat : Int), .int .u8 (x1.toNat : Int), .int .u8 (x2.toNat : Int), .int .u8 (x3.toNat : Int)] 23) (.cells #[.int .u8 (y0.toNat : Int), .int .u8 (y1.toNat : Int), .int .u8 (y2.toNat : Int), .int .u8 (y3.toNat : Int)] 23))
  have HY0 := Lib.hid (at2 w (.cells #[.int .u8 (x0.toNat : Int), .int .u8 (x1.toNat : Int), .int .u8 (x2.toNat : Int), .int .u8 (x3.toNat : Int)] 23) (.cells #[.int .u8 (y0.toNat : Int), .int .u8 (y1.toNat : Int), .int .u8 (y2.toNat : Int), .int .u8 (y3.toNat : Int)] 23))
  go_enter Tryd.func6, Tryd.ntmps6
  go_wp2_with fail
  refine (lives_any _ (hR.below HB0.out (Nat.le_refl _))).mono ?_
  rintro e w1 ⟨rfl, hb⟩
  have HB1 := Lib.hid (HB0.out.trans (hb.mono HB0.out.size))
  have HX1 := Lib.hid ((hb.block _ (row_lt HX0.out)).trans HX0.out)
  have HY1 := Lib.hid ((hb.block _ (row_lt HY0.out)).trans HY0.out)
  clear hb
  obtain ⟨a0, a1, a2, a3⟩ := four_cells4 HX1.out
  obtain ⟨b0, b1, b2, b3⟩ := four_cells4 HY1.out
  go_wp2_with fail
  refine (within_lit _ _ _ _ _ _ _ _ _ _).mono ?_
  rintro e w2 ⟨rfl, hb⟩
  rw [h1]
  have HB2 := Lib.hid (HB1.out.trans (hb.mono HB1.out.size))
  have hx2 := (hb.block _ (row_lt HX1.out)).trans HX1.out
  have hy2 := (hb.block _ (row_lt HY1.out)).trans HY1.out
  clear hb a0 a1 a2 a3 b0 b1 b2 b3
  obtain ⟨a0, a1, a2, a3⟩ := four_cells4 hx2
  obtain ⟨b0, b1, b2, b3⟩ := four_cells4 hy2
  have ka0 := cell_regrown a0
  have ka1 := cell_regrown a1
  have ka2 := cell_regrown a2
  have ka3 := cell_regrown a3
  have kb0 := cell_regrown b0
  have kb1 := cell_regrown b1
  have kb2 := cell_regrown b2
  have kb3 := cell_regrown b3
  clear hx2 hy2 HX0 HY0 HX1 HY1 HB0 HB1
  go_upto_region 4 with (fail)
  clear a0 a1 a2 a3 b0 b1 b2 b3
  refine wp_region_quiet_below (by kernel_rfl) (by kernel_rfl) ?_
  repeat (quiet_step (first | (go_at_call 24; exact Calls.regrown_of (refwithin_lit _ _ _ _ _ _ _ _ _ _)) | (go_at_call 23; exact Calls.regrown_of (within_lit _ _ _ _ _ _ _ _ _ _))))
  refine wpQuiet_nil ?_
  intro _ hw'
  obtain ⟨⟨dq, osq⟩, hw''⟩ := hw'
  subst hw''
  have HB := Lib.hid (HB2.out.trans ((below_regrown w2 dq osq).mono HB2.out.size))
  go_wp2
  go_ret
  exact ⟨rfl, HB.out⟩

theorem inside_walk (a n : List UInt8) (b : Int) (w : World) (hR : Ready w) (ha : a.length = 4) (hn : n.length = 4) :
    Calls Tryd.prog 6 #[.agg (cells a).toArray, .agg (cells n).toArray, .int .i64 b] w fun e w' => e = .returned (.bool true) ∧ Below w.heap.size w w' := by
  obtain ⟨x0, x1, x2, x3, rfl⟩ := cells4_of a ha
  obtain ⟨y0, y1, y2, y3, rfl⟩ := cells4_of n hn
  rw [cells4, cells4]
  have hnot : withinS [x0, x1, x2, x3] [y0, y1, y2, y3] b ≠ true → withinS [x0, x1, x2, x3] [y0, y1, y2, y3] b = false := fun h => by simpa using h
  have hin : withinS [x0, x1, x2, x3] [y0, y1, y2, y3] b = true → ∃ m : Nat, b = (m : Int) ∧ m ≤ 32 := fun h => by
    unfold withinS at h
    have h2 := of_decide_eq_true h
    exact ⟨b.toNat, by omega, by omega⟩
  by_cases hxy : (x0 == y0 && (x1 == y1 && (x2 == y2 && x3 == y3))) = true
  · simp only [Bool.and_eq_true, beq_iff_eq] at hxy
    obtain ⟨rfl, rfl, rfl, rfl⟩ := hxy
    by_cases h1 : withinS [x0, x1, x2, x3] [x0, x1, x2, x3] b = true
    · obtain ⟨m, rfl, hm⟩ := hin h1
      rcases Nat.eq_zero_or_pos m with rfl | hm1
      · exact inside_zl x0 x1 x2 x3 w hR h1
      · exact inside_tl x0 x1 x2 x3 m w hR hm1 hm h1
    · exact inside_fl x0 x1 x2 x3 b w hR (hnot h1)
  · have hne : (x0 == y0 && (x1 == y1 && (x2 == y2 && x3 == y3))) = false := by simpa using hxy
    by_cases h1 : withinS [x0, x1, x2, x3] [y0, y1, y2, y3] b = true
    · obtain ⟨m, rfl, hm⟩ := hin h1
      rcases Nat.eq_zero_or_pos m with rfl | hm1
      · exact inside_zu x0 x1 x2 x3 y0 y1 y2 y3 w hR h1 hne
      · exact inside_tu x0 x1 x2 x3 y0 y1 y2 y3 m w hR hm1 hm h1 hne
    · exact inside_fu x0 x1 x2 x3 y0 y1 y2 y3 b w hR (hnot h1) hne
end Go.Proofs.YtbahkilfcfbolaaDoor
