/-
  AddrCards returns true for every card's address and every text, and turns nothing that was there.
-/
import Derived.Test.YtbahkilfcfbolaaDoorRefMac
import Derived.Test.YtbahkilfcfbolaaDoorEq
import Derived.Lib.QuietBelow
import Derived.BigQuiet
namespace Go.Proofs.YtbahkilfcfbolaaDoor
open Go.RowKit

theorem refmac_lit (x0 x1 x2 x3 x4 x5 : UInt8) (w : World) :
    Calls Tryd.prog 21 #[.agg (mac6 x0 x1 x2 x3 x4 x5)] w fun e w' => e = .returned (txt (macT [x0, x1, x2, x3, x4, x5])) ∧ Below w.heap.size w w' := refmac_any [x0, x1, x2, x3, x4, x5] w rfl
theorem refreadmac_lit {l : List UInt8} {x0 x1 x2 x3 x4 x5 : UInt8} {er : Int} (h : macOf l = ([x0, x1, x2, x3, x4, x5], er)) (w : World) :
    Calls Tryd.prog 19 #[txt l] w fun e w' => e = .returned (.tuple #[.agg (mac6 x0 x1 x2 x3 x4 x5), .int .i64 er]) ∧ Below w.heap.size w w' := by
  have := refreadmac_any l w
  rw [h] at this
  exact this
theorem all_lit (w : World) : Calls Tryd.prog 22 #[] w fun e w' => e = .returned (.agg #[.int .u8 255, .int .u8 255, .int .u8 255, .int .u8 255, .int .u8 255, .int .u8 255]) ∧ Below w.heap.size w w' := all_any w
theorem six_cells6 {w : World} {b : Nat} {v0 v1 v2 v3 v4 v5 : Value} {t : TypeId} (h : w.heap[b]? = some (.cells #[v0, v1, v2, v3, v4, v5] t (0, 0))) :
    w.cell? ⟨b, 0, none⟩ = some v0 ∧ w.cell? ⟨b, 1, none⟩ = some v1 ∧ w.cell? ⟨b, 2, none⟩ = some v2 ∧ w.cell? ⟨b, 3, none⟩ = some v3 ∧ w.cell? ⟨b, 4, none⟩ = some v4 ∧ w.cell? ⟨b, 5, none⟩ = some v5 := by
  refine ⟨?_, ?_, ?_, ?_, ?_, ?_⟩
  all_goals
    rw [cell_of_row _ _ _ _ _ _ h]
    rfl
theorem same_mac (d : Nat) (x0 x1 x2 x3 x4 x5 : UInt8) (w : World) :
    (Op.equalIn (d + 2) 41 (.agg (mac6 x0 x1 x2 x3 x4 x5)) (.agg (mac6 x0 x1 x2 x3 x4 x5))).run Tryd.prog w = .ok true w := by
  have h := eq_mac d x0 x1 x2 x3 x4 x5 x0 x1 x2 x3 x4 x5 w
  simpa using h

set_option maxRecDepth 100000 in
theorem cards_big (a : List UInt8) (s : ByteArray) (w : World) (hR : Ready w) (ha : a.length = 6) (h : 100 < s.size) (hs : s.size ≤ 140737488351232) :
    Calls Tryd.prog 4 #[.agg (cells a).toArray, .string s] w fun e w' => e = .returned (.bool true) ∧ Below w.heap.size w w' := by
  obtain ⟨x0, x1, x2, x3, x4, x5, rfl⟩ := cells6_of a ha
  rw [show (cells [x0, x1, x2, x3, x4, x5]).toArray = #[.int .u8 (x0.toNat : Int), .int .u8 (x1.toNat : Int), .int .u8 (x2.toNat : Int), .int .u8 (x3.toNat : Int), .int .u8 (x4.toNat : Int), .int .u8 (x5.toNat : Int)] from rfl]
  have hb0 : Below w.heap.size w (w.alloc (.cells (mac6 x0 x1 x2 x3 x4 x5) 41)) := (Below.refl _ _).alloc (Nat.le_refl _) _
  go_enter Tryd.func4, Tryd.ntmps4
  go_wp2_with fail
  refine (lives_any _ (hR.below hb0 (Nat.le_refl _))).mono ?_
  rintro e w1 ⟨rfl, hb1⟩
  have hB1 := hb0.trans (hb1.mono hb0.size)
  go_wp2_with fail
  refine (lives_any _ (hR.below hB1 (Nat.le_refl _))).mono ?_
  rintro e w2 ⟨rfl, hb2⟩
  have hB2 := hB1.trans (hb2.mono hB1.size)
  clear hb0 hb1 hb2 hB1
  go_wp2
  go_ret
  exact ⟨rfl, hB2⟩

set_option maxRecDepth 100000 in
set_option maxHeartbeats 1500000 in
theorem cards_walk (a : List UInt8) (l : List UInt8) (w : World) (hR : Ready w) (ha : a.length = 6) (hl : l.length ≤ 100) :
    Calls Tryd.prog 4 #[.agg (cells a).toArray, txt l] w fun e w' => e = .returned (.bool true) ∧ Below w.heap.size w w' := by
  obtain ⟨x0, x1, x2, x3, x4, x5, rfl⟩ := cells6_of a ha
  rw [show (cells [x0, x1, x2, x3, x4, x5]).toArray = #[.int .u8 (x0.toNat : Int), .int .u8 (x1.toNat : Int), .int .u8 (x2.toNat : Int), .int .u8 (x3.toNat : Int), .int .u8 (x4.toNat : Int), .int .u8 (x5.toNat : Int)] from rfl]
  obtain ⟨y0, y1, y2, y3, y4, y5, er, hmc, _⟩ := mac_form l
  have HMC := Lib.hid hmc
  clear hmc ha
  have HB0 := Lib.hid ((Below.refl w.heap.size w).alloc (Nat.le_refl _) (.cells (mac6 x0 x1 x2 x3 x4 x5) 41))
  have HX0 := Lib.hid (heap_alloc_new w (.cells (mac6 x0 x1 x2 x3 x4 x5) 41))
  go_enter Tryd.func4, Tryd.ntmps4
  go_wp2_with fail
  refine (lives_any _ (hR.below HB0.out (Nat.le_refl _))).mono ?_
  rintro e w1 ⟨rfl, hb1⟩
  have HB1 := Lib.hid (HB0.out.trans (hb1.mono HB0.out.size))
  have HX1 := Lib.hid ((hb1.block _ (row_lt HX0.out)).trans HX0.out)
  clear hb1
  go_wp2_with fail
  refine (readmac_lit HMC.out _ (by omega) (hR.below HB1.out (Nat.le_refl _))).mono ?_
  rintro e w2 ⟨rfl, hb2⟩
  have HB2 := Lib.hid ((HB1.out.trans (hb2.mono HB1.out.size)).alloc (HB1.out.trans (hb2.mono HB1.out.size)).size (.cells (mac6 y0 y1 y2 y3 y4 y5) 41))
  have HX2 := Lib.hid (old_alloc ((hb2.block _ (row_lt HX1.out)).trans HX1.out) (.cells (mac6 y0 y1 y2 y3 y4 y5) 41))
  have HY2 := Lib.hid (heap_alloc_new w2 (.cells (mac6 y0 y1 y2 y3 y4 y5) 41))
  clear hb2
  go_wp2_with fail
  refine (refreadmac_lit HMC.out _).mono ?_
  rintro e w3 ⟨rfl, hb3⟩
  have hB3 := (HB2.out.trans (hb3.mono HB2.out.size)).alloc (HB2.out.trans (hb3.mono HB2.out.size)).size (.cells (mac6 y0 y1 y2 y3 y4 y5) 41)
  have hx3 := old_alloc ((hb3.block _ (row_lt HX2.out)).trans HX2.out) (.cells (mac6 y0 y1 y2 y3 y4 y5) 41)
  have hy3 := old_alloc ((hb3.block _ (row_lt HY2.out)).trans HY2.out) (.cells (mac6 y0 y1 y2 y3 y4 y5) 41)
  have hz3 := heap_alloc_new w3 (.cells (mac6 y0 y1 y2 y3 y4 y5) 41)
  clear hb3
  go_upto_region 5 with (fail)
  generalize w3.alloc (.cells (mac6 y0 y1 y2 y3 y4 y5) 41) = w6 at *
  have HB6 := Lib.hid hB3
  obtain ⟨p0, p1, p2, p3, p4, p5⟩ := six_cells6 hx3
  obtain ⟨q0, q1, q2, q3, q4, q5⟩ := six_cells6 hy3
  obtain ⟨r0, r1, r2, r3, r4, r5⟩ := six_cells6 hz3
  have kp0 := cell_regrown p0
  have kp1 := cell_regrown p1
  have kp2 := cell_regrown p2
  have kp3 := cell_regrown p3
  have kp4 := cell_regrown p4
  have kp5 := cell_regrown p5
  have kq0 := cell_regrown q0
  have kq1 := cell_regrown q1
  have kq2 := cell_regrown q2
  have kq3 := cell_regrown q3
  have kq4 := cell_regrown q4
  have kq5 := cell_regrown q5
  have kr0 := cell_regrown r0
  have kr1 := cell_regrown r1
  have kr2 := cell_regrown r2
  have kr3 := cell_regrown r3
  have kr4 := cell_regrown r4
  have kr5 := cell_regrown r5
  clear hx3 hy3 hz3 hB3 HX0 HX1 HX2 HY2 HMC HB0 HB1 HB2 p0 p1 p2 p3 p4 p5 q0 q1 q2 q3 q4 q5 r0 r1 r2 r3 r4 r5
  have he1 : ∀ w, (Op.equalIn 10000 41 (.agg #[.int .u8 (y0.toNat : Int), .int .u8 (y1.toNat : Int), .int .u8 (y2.toNat : Int), .int .u8 (y3.toNat : Int), .int .u8 (y4.toNat : Int), .int .u8 (y5.toNat : Int)]) (.agg #[.int .u8 (y0.toNat : Int), .int .u8 (y1.toNat : Int), .int .u8 (y2.toNat : Int), .int .u8 (y3.toNat : Int), .int .u8 (y4.toNat : Int), .int .u8 (y5.toNat : Int)])).run Tryd.prog w = .ok true w := fun w => same_mac 9998 y0 y1 y2 y3 y4 y5 w
  have he2 : ∀ w, (Op.equalIn 10000 41 (.agg #[.int .u8 255, .int .u8 255, .int .u8 255, .int .u8 255, .int .u8 255, .int .u8 255]) (.agg #[.int .u8 255, .int .u8 255, .int .u8 255, .int .u8 255, .int .u8 255, .int .u8 255])).run Tryd.prog w = .ok true w := fun w => same_mac 9998 255 255 255 255 255 255 w
  have cW : ∀ d os, Calls Tryd.prog 20 #[.agg #[.int .u8 (x0.toNat : Int), .int .u8 (x1.toNat : Int), .int .u8 (x2.toNat : Int), .int .u8 (x3.toNat : Int), .int .u8 (x4.toNat : Int), .int .u8 (x5.toNat : Int)]] (Sort.grow (redrawn w6 d) os) fun e w'' => e = .returned (txt (macT [x0, x1, x2, x3, x4, x5])) ∧ ∃ p : Regrown, w'' = Sort.grow (redrawn w6 p.d) p.os := fun d os => Calls.regrown_of (writemac_lit x0 x1 x2 x3 x4 x5 _)
  have cR : ∀ d os, Calls Tryd.prog 21 #[.agg #[.int .u8 (x0.toNat : Int), .int .u8 (x1.toNat : Int), .int .u8 (x2.toNat : Int), .int .u8 (x3.toNat : Int), .int .u8 (x4.toNat : Int), .int .u8 (x5.toNat : Int)]] (Sort.grow (redrawn w6 d) os) fun e w'' => e = .returned (txt (macT [x0, x1, x2, x3, x4, x5])) ∧ ∃ p : Regrown, w'' = Sort.grow (redrawn w6 p.d) p.os := fun d os => Calls.regrown_of (refmac_lit x0 x1 x2 x3 x4 x5 _)
  have cA : ∀ d os, Calls Tryd.prog 22 #[] (Sort.grow (redrawn w6 d) os) fun e w'' => e = .returned (.agg #[.int .u8 255, .int .u8 255, .int .u8 255, .int .u8 255, .int .u8 255, .int .u8 255]) ∧ ∃ p : Regrown, w'' = Sort.grow (redrawn w6 p.d) p.os := fun d os => Calls.regrown_of (all_lit _)
  refine wp_region_quiet_below (by kernel_rfl) (by kernel_rfl) ?_
  repeat (quiet_step (first | (go_at_call 20; exact cW _ _) | (go_at_call 21; exact cR _ _) | (go_at_call 22; exact cA _ _)))
  refine wpQuiet_nil ?_
  intro _ hw'
  obtain ⟨⟨dq, osq⟩, hw''⟩ := hw'
  subst hw''
  have HB := Lib.hid (HB6.out.trans ((below_regrown w6 dq osq).mono HB6.out.size))
  go_wp2
  go_ret
  exact ⟨rfl, HB.out⟩
end Go.Proofs.YtbahkilfcfbolaaDoor
