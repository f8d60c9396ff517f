/-
  AddrAgain: two unlike ports of one host.
-/
import Derived.Test.YtbahkilfcfbolaaDoorAgainB
namespace Go.Proofs.YtbahkilfcfbolaaDoor
open Go.RowKit

set_option maxRecDepth 100000 in
set_option maxHeartbeats 8000000 in
theorem again_pl (x0 x1 x2 x3 u0 u1 u2 u3 u4 u5 : UInt8) (p q : Nat) (w : World) (hR : Ready w) (hp : p < 65536) (hq : q < 65536) (hpq : p ≠ q) :
    Calls Tryd.prog 5 #[.agg #[.int .u8 (x0.toNat : Int), .int .u8 (x1.toNat : Int), .int .u8 (x2.toNat : Int), .int .u8 (x3.toNat : Int), .int .u16 p], .agg #[.int .u8 (x0.toNat : Int), .int .u8 (x1.toNat : Int), .int .u8 (x2.toNat : Int), .int .u8 (x3.toNat : Int), .int .u16 q], .agg #[.int .u8 (u0.toNat : Int), .int .u8 (u1.toNat : Int), .int .u8 (u2.toNat : Int), .int .u8 (u3.toNat : Int), .int .u8 (u4.toNat : Int), .int .u8 (u5.toNat : Int), .int .u8 (u0.toNat : Int), .int .u8 (u1.toNat : Int), .int .u8 (u2.toNat : Int), .int .u8 (u3.toNat : Int), .int .u8 (u4.toNat : Int), .int .u8 (u5.toNat : Int)]] w fun e w' => e = .returned (.bool true) ∧ Below w.heap.size w w' := by
  have HP := Lib.hid hp
  have HQ := Lib.hid hq
  have HB0 := Lib.hid ((((Below.refl w.heap.size w).alloc (Nat.le_refl _) (.cells #[.int .u8 (x0.toNat : Int), .int .u8 (x1.toNat : Int), .int .u8 (x2.toNat : Int), .int .u8 (x3.toNat : Int), .int .u16 p] 26)).alloc (by simp) (.cells #[.int .u8 (x0.toNat : Int), .int .u8 (x1.toNat : Int), .int .u8 (x2.toNat : Int), .int .u8 (x3.toNat : Int), .int .u16 q] 26)).alloc (by simp; omega) (.cells #[.int .u8 (u0.toNat : Int), .int .u8 (u1.toNat : Int), .int .u8 (u2.toNat : Int), .int .u8 (u3.toNat : Int), .int .u8 (u4.toNat : Int), .int .u8 (u5.toNat : Int), .int .u8 (u0.toNat : Int), .int .u8 (u1.toNat : Int), .int .u8 (u2.toNat : Int), .int .u8 (u3.toNat : Int), .int .u8 (u4.toNat : Int), .int .u8 (u5.toNat : Int)] 49))
  obtain ⟨g2, g1, g0⟩ := at3 w (.cells #[.int .u8 (x0.toNat : Int), .int .u8 (x1.toNat : Int), .int .u8 (x2.toNat : Int), .int .u8 (x3.toNat : Int), .int .u16 p] 26) (.cells #[.int .u8 (x0.toNat : Int), .int .u8 (x1.toNat : Int), .int .u8 (x2.toNat : Int), .int .u8 (x3.toNat : Int), .int .u16 q] 26) (.cells #[.int .u8 (u0.toNat : Int), .int .u8 (u1.toNat : Int), .int .u8 (u2.toNat : Int), .int .u8 (u3.toNat : Int), .int .u8 (u4.toNat : Int), .int .u8 (u5.toNat : Int), .int .u8 (u0.toNat : Int), .int .u8 (u1.toNat : Int), .int .u8 (u2.toNat : Int), .int .u8 (u3.toNat : Int), .int .u8 (u4.toNat : Int), .int .u8 (u5.toNat : Int)] 49)
  have HX0 := Lib.hid g0
  have HY0 := Lib.hid g1
  have HM0 := Lib.hid g2
  clear g0 g1 g2 hp hq
  go_enter Tryd.func5, Tryd.ntmps5
  go_wp2_with fail
  refine (lives_any _ (hR.below HB0.out (Nat.le_refl _))).mono ?_
  rintro e w1 ⟨rfl, hb⟩
  have HB1 := Lib.hid (HB0.out.trans (hb.mono HB0.out.size))
  have HX1 := Lib.hid ((hb.block _ (row_lt HX0.out)).trans HX0.out)
  have HY1 := Lib.hid ((hb.block _ (row_lt HY0.out)).trans HY0.out)
  have HM1 := Lib.hid ((hb.block _ (row_lt HM0.out)).trans HM0.out)
  clear hb
  obtain ⟨a0, a1, a2, a3, a4⟩ := five_cells HX1.out
  go_wp2_with fail
  refine (write_lit _ _ _ _ _ _ HP.out (hR.below HB1.out (Nat.le_refl _))).mono ?_
  rintro e w2 ⟨rfl, hb⟩
  have HB2 := Lib.hid (HB1.out.trans (hb.mono HB1.out.size))
  have HX2 := Lib.hid ((hb.block _ (row_lt HX1.out)).trans HX1.out)
  have HY2 := Lib.hid ((hb.block _ (row_lt HY1.out)).trans HY1.out)
  have HM2 := Lib.hid ((hb.block _ (row_lt HM1.out)).trans HM1.out)
  clear hb a0 a1 a2 a3 a4
  go_wp2_with fail
  refine (read_lit (adOf_hit [x0, x1, x2, x3] p rfl HP.out) _ (adT_len _ _ rfl HP.out) (hR.below HB2.out (Nat.le_refl _))).mono ?_
  rintro e w3 ⟨rfl, hb⟩
  have HB3 := Lib.hid ((HB2.out.trans (hb.mono HB2.out.size)).alloc (HB2.out.trans (hb.mono HB2.out.size)).size (.cells #[.int .u8 (x0.toNat : Int), .int .u8 (x1.toNat : Int), .int .u8 (x2.toNat : Int), .int .u8 (x3.toNat : Int), .int .u16 p] 26))
  have HX3 := Lib.hid (old_alloc ((hb.block _ (row_lt HX2.out)).trans HX2.out) (.cells #[.int .u8 (x0.toNat : Int), .int .u8 (x1.toNat : Int), .int .u8 (x2.toNat : Int), .int .u8 (x3.toNat : Int), .int .u16 p] 26))
  have HY3 := Lib.hid (old_alloc ((hb.block _ (row_lt HY2.out)).trans HY2.out) (.cells #[.int .u8 (x0.toNat : Int), .int .u8 (x1.toNat : Int), .int .u8 (x2.toNat : Int), .int .u8 (x3.toNat : Int), .int .u16 p] 26))
  have HM3 := Lib.hid (old_alloc ((hb.block _ (row_lt HM2.out)).trans HM2.out) (.cells #[.int .u8 (x0.toNat : Int), .int .u8 (x1.toNat : Int), .int .u8 (x2.toNat : Int), .int .u8 (x3.toNat : Int), .int .u16 p] 26))
  have HZ3 := Lib.hid (heap_alloc_new w3 (.cells #[.int .u8 (x0.toNat : Int), .int .u8 (x1.toNat : Int), .int .u8 (x2.toNat : Int), .int .u8 (x3.toNat : Int), .int .u16 p] 26))
  clear hb
  obtain ⟨a0, a1, a2, a3, a4⟩ := five_cells HY3.out
  go_wp2_with fail
  refine (writeip_lit _ _ _ _ _ (hR.below HB3.out (Nat.le_refl _))).mono ?_
  rintro e w4 ⟨rfl, hb⟩
  have HB4 := Lib.hid (HB3.out.trans (hb.mono HB3.out.size))
  have HX4 := Lib.hid ((hb.block _ (row_lt HX3.out)).trans HX3.out)
  have HY4 := Lib.hid ((hb.block _ (row_lt HY3.out)).trans HY3.out)
  have HM4 := Lib.hid ((hb.block _ (row_lt HM3.out)).trans HM3.out)
  have HZ4 := Lib.hid ((hb.block _ (row_lt HZ3.out)).trans HZ3.out)
  clear hb a0 a1 a2 a3 a4
  go_wp2_with fail
  refine (readip_lit (ipOf_hit [x0, x1, x2, x3] rfl) _ (Nat.le_trans (ipT_len _ rfl) (by omega)) (hR.below HB4.out (Nat.le_refl _))).mono ?_
  rintro e w5 ⟨rfl, hb⟩
  have HB5 := Lib.hid ((HB4.out.trans (hb.mono HB4.out.size)).alloc (HB4.out.trans (hb.mono HB4.out.size)).size (.cells #[.int .u8 (x0.toNat : Int), .int .u8 (x1.toNat : Int), .int .u8 (x2.toNat : Int), .int .u8 (x3.toNat : Int)] 23))
  have HX5 := Lib.hid (old_alloc ((hb.block _ (row_lt HX4.out)).trans HX4.out) (.cells #[.int .u8 (x0.toNat : Int), .int .u8 (x1.toNat : Int), .int .u8 (x2.toNat : Int), .int .u8 (x3.toNat : Int)] 23))
  have HY5 := Lib.hid (old_alloc ((hb.block _ (row_lt HY4.out)).trans HY4.out) (.cells #[.int .u8 (x0.toNat : Int), .int .u8 (x1.toNat : Int), .int .u8 (x2.toNat : Int), .int .u8 (x3.toNat : Int)] 23))
  have HM5 := Lib.hid (old_alloc ((hb.block _ (row_lt HM4.out)).trans HM4.out) (.cells #[.int .u8 (x0.toNat : Int), .int .u8 (x1.toNat : Int), .int .u8 (x2.toNat : Int), .int .u8 (x3.toNat : Int)] 23))
  have HZ5 := Lib.hid (old_alloc ((hb.block _ (row_lt HZ4.out)).trans HZ4.out) (.cells #[.int .u8 (x0.toNat : Int), .int .u8 (x1.toNat : Int), .int .u8 (x2.toNat : Int), .int .u8 (x3.toNat : Int)] 23))
  have HI5 := Lib.hid (heap_alloc_new w5 (.cells #[.int .u8 (x0.toNat : Int), .int .u8 (x1.toNat : Int), .int .u8 (x2.toNat : Int), .int .u8 (x3.toNat : Int)] 23))
  clear hb
  obtain ⟨c0, c1, c2, c3, c4, c5, c6, c7, c8, c9, c10, c11⟩ := twelve HM5.out
  go_wp2_with fail
  refine (writemac_lit _ _ _ _ _ _ _).mono ?_
  rintro e w6 ⟨rfl, hb⟩
  have HB6 := Lib.hid (HB5.out.trans (hb.mono HB5.out.size))
  have HX6 := Lib.hid ((hb.block _ (row_lt HX5.out)).trans HX5.out)
  have HY6 := Lib.hid ((hb.block _ (row_lt HY5.out)).trans HY5.out)
  have HM6 := Lib.hid ((hb.block _ (row_lt HM5.out)).trans HM5.out)
  have HZ6 := Lib.hid ((hb.block _ (row_lt HZ5.out)).trans HZ5.out)
  have HI6 := Lib.hid ((hb.block _ (row_lt HI5.out)).trans HI5.out)
  clear hb c0 c1 c2 c3 c4 c5 c6 c7 c8 c9 c10 c11
  go_wp2_with fail
  refine (readmac_lit (macOf_hit [u0, u1, u2, u3, u4, u5] rfl) _ (by rw [macT_len _ rfl]; omega) (hR.below HB6.out (Nat.le_refl _))).mono ?_
  rintro e w7 ⟨rfl, hb⟩
  have hB9 := (HB6.out.trans (hb.mono HB6.out.size)).alloc (HB6.out.trans (hb.mono HB6.out.size)).size (.cells #[.int .u8 (u0.toNat : Int), .int .u8 (u1.toNat : Int), .int .u8 (u2.toNat : Int), .int .u8 (u3.toNat : Int), .int .u8 (u4.toNat : Int), .int .u8 (u5.toNat : Int)] 41)
  have hx := old_alloc ((hb.block _ (row_lt HX6.out)).trans HX6.out) (.cells #[.int .u8 (u0.toNat : Int), .int .u8 (u1.toNat : Int), .int .u8 (u2.toNat : Int), .int .u8 (u3.toNat : Int), .int .u8 (u4.toNat : Int), .int .u8 (u5.toNat : Int)] 41)
  have hy := old_alloc ((hb.block _ (row_lt HY6.out)).trans HY6.out) (.cells #[.int .u8 (u0.toNat : Int), .int .u8 (u1.toNat : Int), .int .u8 (u2.toNat : Int), .int .u8 (u3.toNat : Int), .int .u8 (u4.toNat : Int), .int .u8 (u5.toNat : Int)] 41)
  have hm := old_alloc ((hb.block _ (row_lt HM6.out)).trans HM6.out) (.cells #[.int .u8 (u0.toNat : Int), .int .u8 (u1.toNat : Int), .int .u8 (u2.toNat : Int), .int .u8 (u3.toNat : Int), .int .u8 (u4.toNat : Int), .int .u8 (u5.toNat : Int)] 41)
  have hz := old_alloc ((hb.block _ (row_lt HZ6.out)).trans HZ6.out) (.cells #[.int .u8 (u0.toNat : Int), .int .u8 (u1.toNat : Int), .int .u8 (u2.toNat : Int), .int .u8 (u3.toNat : Int), .int .u8 (u4.toNat : Int), .int .u8 (u5.toNat : Int)] 41)
  have hi := old_alloc ((hb.block _ (row_lt HI6.out)).trans HI6.out) (.cells #[.int .u8 (u0.toNat : Int), .int .u8 (u1.toNat : Int), .int .u8 (u2.toNat : Int), .int .u8 (u3.toNat : Int), .int .u8 (u4.toNat : Int), .int .u8 (u5.toNat : Int)] 41)
  have hj := heap_alloc_new w7 (.cells #[.int .u8 (u0.toNat : Int), .int .u8 (u1.toNat : Int), .int .u8 (u2.toNat : Int), .int .u8 (u3.toNat : Int), .int .u8 (u4.toNat : Int), .int .u8 (u5.toNat : Int)] 41)
  clear hb
  go_upto_region 6 with (fail)
  generalize w7.alloc (.cells #[.int .u8 (u0.toNat : Int), .int .u8 (u1.toNat : Int), .int .u8 (u2.toNat : Int), .int .u8 (u3.toNat : Int), .int .u8 (u4.toNat : Int), .int .u8 (u5.toNat : Int)] 41) = w9 at *
  have HR9 : Hid (Ready w9) := hR.below hB9 (Nat.le_refl _)
  have HB9 := Lib.hid hB9
  obtain ⟨gx0, gx1, gx2, gx3, gx4⟩ := five_cells hx
  obtain ⟨gy0, gy1, gy2, gy3, gy4⟩ := five_cells hy
  obtain ⟨gm0, gm1, gm2, gm3, gm4, gm5, gm6, gm7, gm8, gm9, gm10, gm11⟩ := twelve hm
  obtain ⟨gz0, gz1, gz2, gz3, gz4⟩ := five_cells hz
  obtain ⟨gi0, gi1, gi2, gi3⟩ := four_cells4 hi
  obtain ⟨gj0, gj1, gj2, gj3, gj4, gj5⟩ := six_cells6 hj
  have kgx0 := cell_regrown gx0
  have kgx1 := cell_regrown gx1
  have kgx2 := cell_regrown gx2
  have kgx3 := cell_regrown gx3
  have kgx4 := cell_regrown gx4
  have kgy0 := cell_regrown gy0
  have kgy1 := cell_regrown gy1
  have kgy2 := cell_regrown gy2
  have kgy3 := cell_regrown gy3
  have kgy4 := cell_regrown gy4
  have kgm0 := cell_regrown gm0
  have kgm1 := cell_regrown gm1
  have kgm2 := cell_regrown gm2
  have kgm3 := cell_regrown gm3
  have kgm4 := cell_regrown gm4
  have kgm5 := cell_regrown gm5
  have kgm6 := cell_regrown gm6
  have kgm7 := cell_regrown gm7
  have kgm8 := cell_regrown gm8
  have kgm9 := cell_regrown gm9
  have kgm10 := cell_regrown gm10
  have kgm11 := cell_regrown gm11
  have kgz0 := cell_regrown gz0
  have kgz1 := cell_regrown gz1
  have kgz2 := cell_regrown gz2
  have kgz3 := cell_regrown gz3
  have kgz4 := cell_regrown gz4
  have kgi0 := cell_regrown gi0
  have kgi1 := cell_regrown gi1
  have kgi2 := cell_regrown gi2
  have kgi3 := cell_regrown gi3
  have kgj0 := cell_regrown gj0
  have kgj1 := cell_regrown gj1
  have kgj2 := cell_regrown gj2
  have kgj3 := cell_regrown gj3
  have kgj4 := cell_regrown gj4
  have kgj5 := cell_regrown gj5
  clear hx hy hm hz hi hj hB9 HX0 HY0 HM0 HX1 HY1 HM1 HX2 HY2 HM2 HX3 HY3 HM3 HX4 HY4 HM4 HX5 HY5 HM5 HX6 HY6 HM6 HZ3 HZ4 HZ5 HZ6 HI5 HI6 HB0 HB1 HB2 HB3 HB4 HB5 HB6 gx0 gx1 gx2 gx3 gx4 gy0 gy1 gy2 gy3 gy4 gm0 gm1 gm2 gm3 gm4 gm5 gm6 gm7 gm8 gm9 gm10 gm11 gz0 gz1 gz2 gz3 gz4 gi0 gi1 gi2 gi3 gj0 gj1 gj2 gj3 gj4 gj5
  have e1 : ∀ w, (Op.equalIn 9999 23 (.agg #[.int .u8 (x0.toNat : Int), .int .u8 (x1.toNat : Int), .int .u8 (x2.toNat : Int), .int .u8 (x3.toNat : Int)]) (.agg #[.int .u8 (x0.toNat : Int), .int .u8 (x1.toNat : Int), .int .u8 (x2.toNat : Int), .int .u8 (x3.toNat : Int)])).run Tryd.prog w = .ok true w := fun w => same_ip 9997 x0 x1 x2 x3 w
  have e2 : ∀ w, (Op.equalIn 10000 23 (.agg #[.int .u8 (x0.toNat : Int), .int .u8 (x1.toNat : Int), .int .u8 (x2.toNat : Int), .int .u8 (x3.toNat : Int)]) (.agg #[.int .u8 (x0.toNat : Int), .int .u8 (x1.toNat : Int), .int .u8 (x2.toNat : Int), .int .u8 (x3.toNat : Int)])).run Tryd.prog w = .ok true w := fun w => same_ip 9998 x0 x1 x2 x3 w
  have e3 : ∀ w, (Op.equalIn 10000 41 (.agg #[.int .u8 (u0.toNat : Int), .int .u8 (u1.toNat : Int), .int .u8 (u2.toNat : Int), .int .u8 (u3.toNat : Int), .int .u8 (u4.toNat : Int), .int .u8 (u5.toNat : Int)]) (.agg #[.int .u8 (u0.toNat : Int), .int .u8 (u1.toNat : Int), .int .u8 (u2.toNat : Int), .int .u8 (u3.toNat : Int), .int .u8 (u4.toNat : Int), .int .u8 (u5.toNat : Int)])).run Tryd.prog w = .ok true w := fun w => same_mac 9998 u0 u1 u2 u3 u4 u5 w
  have hpb : ((p : Int) == (q : Int)) = false := by
    rw [beq_eq_false_iff_ne]
    omega
  have t1 : adT [x0, x1, x2, x3] p ≠ adT [x0, x1, x2, x3] q := fun e => hpq (adT_inj rfl rfl e).2
  obtain ⟨t2, t3⟩ := texts_ne t1
  refine wp_region_quiet_below (by kernel_rfl) (by kernel_rfl) ?_
  repeat (quiet_step (first | (go_at_call 14; exact Calls.regrown_of (write_lit _ _ _ _ _ _ (by first | exact HP.out | exact HQ.out) (HR9.out.below (below_regrown w9 _ _) (Nat.le_refl _)))) | (go_at_call 20; exact Calls.regrown_of (writemac_lit _ _ _ _ _ _ _))))
  refine wpQuiet_nil ?_
  intro _ hw'
  obtain ⟨⟨dq, osq⟩, hw''⟩ := hw'
  subst hw''
  have HB := Lib.hid (HB9.out.trans ((below_regrown w9 dq osq).mono HB9.out.size))
  go_wp2
  go_ret
  exact ⟨rfl, HB.out⟩

set_option maxRecDepth 100000 in
set_option maxHeartbeats 8000000 in
theorem again_pu (x0 x1 x2 x3 u0 u1 u2 u3 u4 u5 v0 v1 v2 v3 v4 v5 : UInt8) (p q : Nat) (w : World) (hR : Ready w) (hp : p < 65536) (hq : q < 65536) (hpq : p ≠ q) (hmn : (u0 == v0 && (u1 == v1 && (u2 == v2 && (u3 == v3 && (u4 == v4 && u5 == v5))))) = false) :
    Calls Tryd.prog 5 #[.agg #[.int .u8 (x0.toNat : Int), .int .u8 (x1.toNat : Int), .int .u8 (x2.toNat : Int), .int .u8 (x3.toNat : Int), .int .u16 p], .agg #[.int .u8 (x0.toNat : Int), .int .u8 (x1.toNat : Int), .int .u8 (x2.toNat : Int), .int .u8 (x3.toNat : Int), .int .u16 q], .agg #[.int .u8 (u0.toNat : Int), .int .u8 (u1.toNat : Int), .int .u8 (u2.toNat : Int), .int .u8 (u3.toNat : Int), .int .u8 (u4.toNat : Int), .int .u8 (u5.toNat : Int), .int .u8 (v0.toNat : Int), .int .u8 (v1.toNat : Int), .int .u8 (v2.toNat : Int), .int .u8 (v3.toNat : Int), .int .u8 (v4.toNat : Int), .int .u8 (v5.toNat : Int)]] w fun e w' => e = .returned (.bool true) ∧ Below w.heap.size w w' := by
  have HP := Lib.hid hp
  have HQ := Lib.hid hq
  have HB0 := Lib.hid ((((Below.refl w.heap.size w).alloc (Nat.le_refl _) (.cells #[.int .u8 (x0.toNat : Int), .int .u8 (x1.toNat : Int), .int .u8 (x2.toNat : Int), .int .u8 (x3.toNat : Int), .int .u16 p] 26)).alloc (by simp) (.cells #[.int .u8 (x0.toNat : Int), .int .u8 (x1.toNat : Int), .int .u8 (x2.toNat : Int), .int .u8 (x3.toNat : Int), .int .u16 q] 26)).alloc (by simp; omega) (.cells #[.int .u8 (u0.toNat : Int), .int .u8 (u1.toNat : Int), .int .u8 (u2.toNat : Int), .int .u8 (u3.toNat : Int), .int .u8 (u4.toNat : Int), .int .u8 (u5.toNat : Int), .int .u8 (v0.toNat : Int), .int .u8 (v1.toNat : Int), .int .u8 (v2.toNat : Int), .int .u8 (v3.toNat : Int), .int .u8 (v4.toNat : Int), .int .u8 (v5.toNat : Int)] 49))
  obtain ⟨g2, g1, g0⟩ := at3 w (.cells #[.int .u8 (x0.toNat : Int), .int .u8 (x1.toNat : Int), .int .u8 (x2.toNat : Int), .int .u8 (x3.toNat : Int), .int .u16 p] 26) (.cells #[.int .u8 (x0.toNat : Int), .int .u8 (x1.toNat : Int), .int .u8 (x2.toNat : Int), .int .u8 (x3.toNat : Int), .int .u16 q] 26) (.cells #[.int .u8 (u0.toNat : Int), .int .u8 (u1.toNat : Int), .int .u8 (u2.toNat : Int), .int .u8 (u3.toNat : Int), .int .u8 (u4.toNat : Int), .int .u8 (u5.toNat : Int), .int .u8 (v0.toNat : Int), .int .u8 (v1.toNat : Int), .int .u8 (v2.toNat : Int), .int .u8 (v3.toNat : Int), .int .u8 (v4.toNat : Int), .int .u8 (v5.toNat : Int)] 49)
  have HX0 := Lib.hid g0
  have HY0 := Lib.hid g1
  have HM0 := Lib.hid g2
  clear g0 g1 g2 hp hq
  go_enter Tryd.func5, Tryd.ntmps5
  go_wp2_with fail
  refine (lives_any _ (hR.below HB0.out (Nat.le_refl _))).mono ?_
  rintro e w1 ⟨rfl, hb⟩
  have HB1 := Lib.hid (HB0.out.trans (hb.mono HB0.out.size))
  have HX1 := Lib.hid ((hb.block _ (row_lt HX0.out)).trans HX0.out)
  have HY1 := Lib.hid ((hb.block _ (row_lt HY0.out)).trans HY0.out)
  have HM1 := Lib.hid ((hb.block _ (row_lt HM0.out)).trans HM0.out)
  clear hb
  obtain ⟨a0, a1, a2, a3, a4⟩ := five_cells HX1.out
  go_wp2_with fail
  refine (write_lit _ _ _ _ _ _ HP.out (hR.below HB1.out (Nat.le_refl _))).mono ?_
  rintro e w2 ⟨rfl, hb⟩
  have HB2 := Lib.hid (HB1.out.trans (hb.mono HB1.out.size))
  have HX2 := Lib.hid ((hb.block _ (row_lt HX1.out)).trans HX1.out)
  have HY2 := Lib.hid ((hb.block _ (row_lt HY1.out)).trans HY1.out)
  have HM2 := Lib.hid ((hb.block _ (row_lt HM1.out)).trans HM1.out)
  clear hb a0 a1 a2 a3 a4
  go_wp2_with fail
  refine (read_lit (adOf_hit [x0, x1, x2, x3] p rfl HP.out) _ (adT_len _ _ rfl HP.out) (hR.below HB2.out (Nat.le_refl _))).mono ?_
  rintro e w3 ⟨rfl, hb⟩
  have HB3 := Lib.hid ((HB2.out.trans (hb.mono HB2.out.size)).alloc (HB2.out.trans (hb.mono HB2.out.size)).size (.cells #[.int .u8 (x0.toNat : Int), .int .u8 (x1.toNat : Int), .int .u8 (x2.toNat : Int), .int .u8 (x3.toNat : Int), .int .u16 p] 26))
  have HX3 := Lib.hid (old_alloc ((hb.block _ (row_lt HX2.out)).trans HX2.out) (.cells #[.int .u8 (x0.toNat : Int), .int .u8 (x1.toNat : Int), .int .u8 (x2.toNat : Int), .int .u8 (x3.toNat : Int), .int .u16 p] 26))
  have HY3 := Lib.hid (old_alloc ((hb.block _ (row_lt HY2.out)).trans HY2.out) (.cells #[.int .u8 (x0.toNat : Int), .int .u8 (x1.toNat : Int), .int .u8 (x2.toNat : Int), .int .u8 (x3.toNat : Int), .int .u16 p] 26))
  have HM3 := Lib.hid (old_alloc ((hb.block _ (row_lt HM2.out)).trans HM2.out) (.cells #[.int .u8 (x0.toNat : Int), .int .u8 (x1.toNat : Int), .int .u8 (x2.toNat : Int), .int .u8 (x3.toNat : Int), .int .u16 p] 26))
  have HZ3 := Lib.hid (heap_alloc_new w3 (.cells #[.int .u8 (x0.toNat : Int), .int .u8 (x1.toNat : Int), .int .u8 (x2.toNat : Int), .int .u8 (x3.toNat : Int), .int .u16 p] 26))
  clear hb
  obtain ⟨a0, a1, a2, a3, a4⟩ := five_cells HY3.out
  go_wp2_with fail
  refine (writeip_lit _ _ _ _ _ (hR.below HB3.out (Nat.le_refl _))).mono ?_
  rintro e w4 ⟨rfl, hb⟩
  have HB4 := Lib.hid (HB3.out.trans (hb.mono HB3.out.size))
  have HX4 := Lib.hid ((hb.block _ (row_lt HX3.out)).trans HX3.out)
  have HY4 := Lib.hid ((hb.block _ (row_lt HY3.out)).trans HY3.out)
  have HM4 := Lib.hid ((hb.block _ (row_lt HM3.out)).trans HM3.out)
  have HZ4 := Lib.hid ((hb.block _ (row_lt HZ3.out)).trans HZ3.out)
  clear hb a0 a1 a2 a3 a4
  go_wp2_with fail
  refine (readip_lit (ipOf_hit [x0, x1, x2, x3] rfl) _ (Nat.le_trans (ipT_len _ rfl) (by omega)) (hR.below HB4.out (Nat.le_refl _))).mono ?_
  rintro e w5 ⟨rfl, hb⟩
  have HB5 := Lib.hid ((HB4.out.trans (hb.mono HB4.out.size)).alloc (HB4.out.trans (hb.mono HB4.out.size)).size (.cells #[.int .u8 (x0.toNat : Int), .int .u8 (x1.toNat : Int), .int .u8 (x2.toNat : Int), .int .u8 (x3.toNat : Int)] 23))
  have HX5 := Lib.hid (old_alloc ((hb.block _ (row_lt HX4.out)).trans HX4.out) (.cells #[.int .u8 (x0.toNat : Int), .int .u8 (x1.toNat : Int), .int .u8 (x2.toNat : Int), .int .u8 (x3.toNat : Int)] 23))
  have HY5 := Lib.hid (old_alloc ((hb.block _ (row_lt HY4.out)).trans HY4.out) (.cells #[.int .u8 (x0.toNat : Int), .int .u8 (x1.toNat : Int), .int .u8 (x2.toNat : Int), .int .u8 (x3.toNat : Int)] 23))
  have HM5 := Lib.hid (old_alloc ((hb.block _ (row_lt HM4.out)).trans HM4.out) (.cells #[.int .u8 (x0.toNat : Int), .int .u8 (x1.toNat : Int), .int .u8 (x2.toNat : Int), .int .u8 (x3.toNat : Int)] 23))
  have HZ5 := Lib.hid (old_alloc ((hb.block _ (row_lt HZ4.out)).trans HZ4.out) (.cells #[.int .u8 (x0.toNat : Int), .int .u8 (x1.toNat : Int), .int .u8 (x2.toNat : Int), .int .u8 (x3.toNat : Int)] 23))
  have HI5 := Lib.hid (heap_alloc_new w5 (.cells #[.int .u8 (x0.toNat : Int), .int .u8 (x1.toNat : Int), .int .u8 (x2.toNat : Int), .int .u8 (x3.toNat : Int)] 23))
  clear hb
  obtain ⟨c0, c1, c2, c3, c4, c5, c6, c7, c8, c9, c10, c11⟩ := twelve HM5.out
  go_wp2_with fail
  refine (writemac_lit _ _ _ _ _ _ _).mono ?_
  rintro e w6 ⟨rfl, hb⟩
  have HB6 := Lib.hid (HB5.out.trans (hb.mono HB5.out.size))
  have HX6 := Lib.hid ((hb.block _ (row_lt HX5.out)).trans HX5.out)
  have HY6 := Lib.hid ((hb.block _ (row_lt HY5.out)).trans HY5.out)
  have HM6 := Lib.hid ((hb.block _ (row_lt HM5.out)).trans HM5.out)
  have HZ6 := Lib.hid ((hb.block _ (row_lt HZ5.out)).trans HZ5.out)
  have HI6 := Lib.hid ((hb.block _ (row_lt HI5.out)).trans HI5.out)
  clear hb c0 c1 c2 c3 c4 c5 c6 c7 c8 c9 c10 c11
  go_wp2_with fail
  refine (readmac_lit (macOf_hit [u0, u1, u2, u3, u4, u5] rfl) _ (by rw [macT_len _ rfl]; omega) (hR.below HB6.out (Nat.le_refl _))).mono ?_
  rintro e w7 ⟨rfl, hb⟩
  have hB9 := (HB6.out.trans (hb.mono HB6.out.size)).alloc (HB6.out.trans (hb.mono HB6.out.size)).size (.cells #[.int .u8 (u0.toNat : Int), .int .u8 (u1.toNat : Int), .int .u8 (u2.toNat : Int), .int .u8 (u3.toNat : Int), .int .u8 (u4.toNat : Int), .int .u8 (u5.toNat : Int)] 41)
  have hx := old_alloc ((hb.block _ (row_lt HX6.out)).trans HX6.out) (.cells #[.int .u8 (u0.toNat : Int), .int .u8 (u1.toNat : Int), .int .u8 (u2.toNat : Int), .int .u8 (u3.toNat : Int), .int .u8 (u4.toNat : Int), .int .u8 (u5.toNat : Int)] 41)
  have hy := old_alloc ((hb.block _ (row_lt HY6.out)).trans HY6.out) (.cells #[.int .u8 (u0.toNat : Int), .int .u8 (u1.toNat : Int), .int .u8 (u2.toNat : Int), .int .u8 (u3.toNat : Int), .int .u8 (u4.toNat : Int), .int .u8 (u5.toNat : Int)] 41)
  have hm := old_alloc ((hb.block _ (row_lt HM6.out)).trans HM6.out) (.cells #[.int .u8 (u0.toNat : Int), .int .u8 (u1.toNat : Int), .int .u8 (u2.toNat : Int), .int .u8 (u3.toNat : Int), .int .u8 (u4.toNat : Int), .int .u8 (u5.toNat : Int)] 41)
  have hz := old_alloc ((hb.block _ (row_lt HZ6.out)).trans HZ6.out) (.cells #[.int .u8 (u0.toNat : Int), .int .u8 (u1.toNat : Int), .int .u8 (u2.toNat : Int), .int .u8 (u3.toNat : Int), .int .u8 (u4.toNat : Int), .int .u8 (u5.toNat : Int)] 41)
  have hi := old_alloc ((hb.block _ (row_lt HI6.out)).trans HI6.out) (.cells #[.int .u8 (u0.toNat : Int), .int .u8 (u1.toNat : Int), .int .u8 (u2.toNat : Int), .int .u8 (u3.toNat : Int), .int .u8 (u4.toNat : Int), .int .u8 (u5.toNat : Int)] 41)
  have hj := heap_alloc_new w7 (.cells #[.int .u8 (u0.toNat : Int), .int .u8 (u1.toNat : Int), .int .u8 (u2.toNat : Int), .int .u8 (u3.toNat : Int), .int .u8 (u4.toNat : Int), .int .u8 (u5.toNat : Int)] 41)
  clear hb
  go_upto_region 6 with (fail)
  generalize w7.alloc (.cells #[.int .u8 (u0.toNat : Int), .int .u8 (u1.toNat : Int), .int .u8 (u2.toNat : Int), .int .u8 (u3.toNat : Int), .int .u8 (u4.toNat : Int), .int .u8 (u5.toNat : Int)] 41) = w9 at *
  have HR9 : Hid (Ready w9) := hR.below hB9 (Nat.le_refl _)
  have HB9 := Lib.hid hB9
  obtain ⟨gx0, gx1, gx2, gx3, gx4⟩ := five_cells hx
  obtain ⟨gy0, gy1, gy2, gy3, gy4⟩ := five_cells hy
  obtain ⟨gm0, gm1, gm2, gm3, gm4, gm5, gm6, gm7, gm8, gm9, gm10, gm11⟩ := twelve hm
  obtain ⟨gz0, gz1, gz2, gz3, gz4⟩ := five_cells hz
  obtain ⟨gi0, gi1, gi2, gi3⟩ := four_cells4 hi
  obtain ⟨gj0, gj1, gj2, gj3, gj4, gj5⟩ := six_cells6 hj
  have kgx0 := cell_regrown gx0
  have kgx1 := cell_regrown gx1
  have kgx2 := cell_regrown gx2
  have kgx3 := cell_regrown gx3
  have kgx4 := cell_regrown gx4
  have kgy0 := cell_regrown gy0
  have kgy1 := cell_regrown gy1
  have kgy2 := cell_regrown gy2
  have kgy3 := cell_regrown gy3
  have kgy4 := cell_regrown gy4
  have kgm0 := cell_regrown gm0
  have kgm1 := cell_regrown gm1
  have kgm2 := cell_regrown gm2
  have kgm3 := cell_regrown gm3
  have kgm4 := cell_regrown gm4
  have kgm5 := cell_regrown gm5
  have kgm6 := cell_regrown gm6
  have kgm7 := cell_regrown gm7
  have kgm8 := cell_regrown gm8
  have kgm9 := cell_regrown gm9
  have kgm10 := cell_regrown gm10
  have kgm11 := cell_regrown gm11
  have kgz0 := cell_regrown gz0
  have kgz1 := cell_regrown gz1
  have kgz2 := cell_regrown gz2
  have kgz3 := cell_regrown gz3
  have kgz4 := cell_regrown gz4
  have kgi0 := cell_regrown gi0
  have kgi1 := cell_regrown gi1
  have kgi2 := cell_regrown gi2
  have kgi3 := cell_regrown gi3
  have kgj0 := cell_regrown gj0
  have kgj1 := cell_regrown gj1
  have kgj2 := cell_regrown gj2
  have kgj3 := cell_regrown gj3
  have kgj4 := cell_regrown gj4
  have kgj5 := cell_regrown gj5
  clear hx hy hm hz hi hj hB9 HX0 HY0 HM0 HX1 HY1 HM1 HX2 HY2 HM2 HX3 HY3 HM3 HX4 HY4 HM4 HX5 HY5 HM5 HX6 HY6 HM6 HZ3 HZ4 HZ5 HZ6 HI5 HI6 HB0 HB1 HB2 HB3 HB4 HB5 HB6 gx0 gx1 gx2 gx3 gx4 gy0 gy1 gy2 gy3 gy4 gm0 gm1 gm2 gm3 gm4 gm5 gm6 gm7 gm8 gm9 gm10 gm11 gz0 gz1 gz2 gz3 gz4 gi0 gi1 gi2 gi3 gj0 gj1 gj2 gj3 gj4 gj5
  have e1 : ∀ w, (Op.equalIn 9999 23 (.agg #[.int .u8 (x0.toNat : Int), .int .u8 (x1.toNat : Int), .int .u8 (x2.toNat : Int), .int .u8 (x3.toNat : Int)]) (.agg #[.int .u8 (x0.toNat : Int), .int .u8 (x1.toNat : Int), .int .u8 (x2.toNat : Int), .int .u8 (x3.toNat : Int)])).run Tryd.prog w = .ok true w := fun w => same_ip 9997 x0 x1 x2 x3 w
  have e2 : ∀ w, (Op.equalIn 10000 23 (.agg #[.int .u8 (x0.toNat : Int), .int .u8 (x1.toNat : Int), .int .u8 (x2.toNat : Int), .int .u8 (x3.toNat : Int)]) (.agg #[.int .u8 (x0.toNat : Int), .int .u8 (x1.toNat : Int), .int .u8 (x2.toNat : Int), .int .u8 (x3.toNat : Int)])).run Tryd.prog w = .ok true w := fun w => same_ip 9998 x0 x1 x2 x3 w
  have e3 : ∀ w, (Op.equalIn 10000 41 (.agg #[.int .u8 (u0.toNat : Int), .int .u8 (u1.toNat : Int), .int .u8 (u2.toNat : Int), .int .u8 (u3.toNat : Int), .int .u8 (u4.toNat : Int), .int .u8 (u5.toNat : Int)]) (.agg #[.int .u8 (u0.toNat : Int), .int .u8 (u1.toNat : Int), .int .u8 (u2.toNat : Int), .int .u8 (u3.toNat : Int), .int .u8 (u4.toNat : Int), .int .u8 (u5.toNat : Int)])).run Tryd.prog w = .ok true w := fun w => same_mac 9998 u0 u1 u2 u3 u4 u5 w
  have hpb : ((p : Int) == (q : Int)) = false := by
    rw [beq_eq_false_iff_ne]
    omega
  have e5 : ∀ w, (Op.equalIn 10000 41 (.agg #[.int .u8 (u0.toNat : Int), .int .u8 (u1.toNat : Int), .int .u8 (u2.toNat : Int), .int .u8 (u3.toNat : Int), .int .u8 (u4.toNat : Int), .int .u8 (u5.toNat : Int)]) (.agg #[.int .u8 (v0.toNat : Int), .int .u8 (v1.toNat : Int), .int .u8 (v2.toNat : Int), .int .u8 (v3.toNat : Int), .int .u8 (v4.toNat : Int), .int .u8 (v5.toNat : Int)])).run Tryd.prog w = .ok false w := fun w => by
    have h := eq_mac 9998 u0 u1 u2 u3 u4 u5 v0 v1 v2 v3 v4 v5 w
    rw [hmn] at h
    exact h
  have t1 : adT [x0, x1, x2, x3] p ≠ adT [x0, x1, x2, x3] q := fun e => hpq (adT_inj rfl rfl e).2
  obtain ⟨t2, t3⟩ := texts_ne t1
  have t4 : macT [u0, u1, u2, u3, u4, u5] ≠ macT [v0, v1, v2, v3, v4, v5] := fun e => by
    have h := macT_inj rfl rfl e
    simp only [List.cons.injEq, and_true] at h
    obtain ⟨rfl, rfl, rfl, rfl, rfl, rfl⟩ := h
    simp at hmn
  obtain ⟨t5, t6⟩ := texts_ne t4
  refine wp_region_quiet_below (by kernel_rfl) (by kernel_rfl) ?_
  repeat (quiet_step (first | (go_at_call 14; exact Calls.regrown_of (write_lit _ _ _ _ _ _ (by first | exact HP.out | exact HQ.out) (HR9.out.below (below_regrown w9 _ _) (Nat.le_refl _)))) | (go_at_call 20; exact Calls.regrown_of (writemac_lit _ _ _ _ _ _ _))))
  refine wpQuiet_nil ?_
  intro _ hw'
  obtain ⟨⟨dq, osq⟩, hw''⟩ := hw'
  subst hw''
  have HB := Lib.hid (HB9.out.trans ((below_regrown w9 dq osq).mono HB9.out.size))
  go_wp2
  go_ret
  exact ⟨rfl, HB.out⟩
end Go.Proofs.YtbahkilfcfbolaaDoor
