/-
  AddrHosts returns true for every address with a port and every text, and turns nothing that was there.
-/
import Derived.Test.YtbahkilfcfbolaaDoorTexts
import Derived.Test.YtbahkilfcfbolaaDoorRefIp
import Derived.Test.YtbahkilfcfbolaaDoorEq
import Derived.Lib.QuietBelow
import Derived.BigQuiet
import Derived.Test.YtbahkilfcfbolaaDoorShape
namespace Go.Proofs.YtbahkilfcfbolaaDoor
open Go.RowKit

/-- an address with a port, as the frames tell of it -/
theorem addr_of_ok {w : World} {cs : List Value} (h : (Sh.cat (.rep 4 (.num .u8)) (.cat (.num .u16) .non)).ok w cs) : ∃ (a : List UInt8) (p : Nat), a.length = 4 ∧ p < 65536 ∧ cs = cells a ++ [Value.int .u16 p] := by
  obtain ⟨c1, c2, rfl, h1, c3, c4, rfl, ⟨n, rfl, hn⟩, rfl⟩ := h
  obtain ⟨a, ha, rfl⟩ := rep_bytes h1
  have hb : 0 ≤ n ∧ n ≤ 65535 := by
    simp [Lit.wf, IntKind.min, IntKind.max, IntKind.signed, IntKind.bits] at hn
    omega
  obtain ⟨p, rfl⟩ := Int.eq_ofNat_of_zero_le hb.1
  exact ⟨a, p, ha, by omega, rfl⟩

theorem refaddr_lit5 (x0 x1 x2 x3 : UInt8) (p : Nat) (w : World) (hp : p < 65536) (hR : Ready w) :
    Calls Tryd.prog 15 #[.agg (ad5 x0 x1 x2 x3 p)] w fun e w' => e = .returned (txt (adT [x0, x1, x2, x3] p)) ∧ Below w.heap.size w w' := refaddr_any [x0, x1, x2, x3] p w rfl hp hR
theorem refip_lit (x0 x1 x2 x3 : UInt8) (w : World) (hR : Ready w) :
    Calls Tryd.prog 17 #[.agg (ip4 x0 x1 x2 x3)] w fun e w' => e = .returned (txt (ipT [x0, x1, x2, x3])) ∧ Below w.heap.size w w' := refip_any [x0, x1, x2, x3] w rfl hR
theorem refread_lit {l : List UInt8} {x0 x1 x2 x3 : UInt8} {p : Nat} {er : Int} (h : adOf l = (([x0, x1, x2, x3], p), er)) (w : World) (hl : l.length ≤ 1000000) (hR : Ready w) :
    Calls Tryd.prog 11 #[txt l] w fun e w' => e = .returned (.tuple #[.agg (ad5 x0 x1 x2 x3 p), .int .i64 er]) ∧ Below w.heap.size w w' := by
  have := refread_any l w hl hR
  rw [h] at this
  exact this
theorem refreadip_lit {l : List UInt8} {x0 x1 x2 x3 : UInt8} {er : Int} (h : ipOf l = ([x0, x1, x2, x3], er)) (w : World) (hl : l.length ≤ 900000) (hR : Ready w) :
    Calls Tryd.prog 13 #[txt l] w fun e w' => e = .returned (.tuple #[.agg (ip4 x0 x1 x2 x3), .int .i64 er]) ∧ Below w.heap.size w w' := by
  have := refreadip_any l w hl hR
  rw [h] at this
  exact this

set_option maxRecDepth 100000 in
theorem hosts_big (a : List UInt8) (p : Nat) (s : ByteArray) (w : World) (hR : Ready w) (ha : a.length = 4) (h : 100 < s.size) (hs : s.size ≤ 140737488351232) :
    Calls Tryd.prog 3 #[.agg (cells a ++ [Value.int .u16 p]).toArray, .string s] w fun e w' => e = .returned (.bool true) ∧ Below w.heap.size w w' := by
  obtain ⟨x0, x1, x2, x3, rfl⟩ := cells4_of a ha
  rw [show (cells [x0, x1, x2, x3] ++ [Value.int .u16 p]).toArray = #[.int .u8 (x0.toNat : Int), .int .u8 (x1.toNat : Int), .int .u8 (x2.toNat : Int), .int .u8 (x3.toNat : Int), .int .u16 p] from rfl]
  have hb0 : Below w.heap.size w (w.alloc (.cells (ad5 x0 x1 x2 x3 p) 26)) := (Below.refl _ _).alloc (Nat.le_refl _) _
  go_enter Tryd.func3, Tryd.ntmps3
  go_wp2_with fail
  refine (lives_any _ (hR.below hb0 (Nat.le_refl _))).mono ?_
  rintro e w1 ⟨rfl, hb1⟩
  have hB1 := hb0.trans (hb1.mono hb0.size)
  go_wp2_with fail
  refine (lives_any _ (hR.below hB1 (Nat.le_refl _))).mono ?_
  rintro e w2 ⟨rfl, hb2⟩
  have hB2 := hB1.trans (hb2.mono hB1.size)
  clear hb0 hb1 hb2 hB1
  go_wp2
  go_ret
  exact ⟨rfl, hB2⟩

set_option maxRecDepth 100000 in
set_option maxHeartbeats 4000000 in
theorem hosts_walk (a : List UInt8) (p : Nat) (l : List UInt8) (w : World) (hR : Ready w) (ha : a.length = 4) (hp : p < 65536) (hl : l.length ≤ 100) :
    Calls Tryd.prog 3 #[.agg (cells a ++ [Value.int .u16 p]).toArray, txt l] w fun e w' => e = .returned (.bool true) ∧ Below w.heap.size w w' := by
  obtain ⟨x0, x1, x2, x3, rfl⟩ := cells4_of a ha
  rw [show (cells [x0, x1, x2, x3] ++ [Value.int .u16 p]).toArray = #[.int .u8 (x0.toNat : Int), .int .u8 (x1.toNat : Int), .int .u8 (x2.toNat : Int), .int .u8 (x3.toNat : Int), .int .u16 p] from rfl]
  obtain ⟨y0, y1, y2, y3, q, er, had, _, _⟩ := ad_form l
  obtain ⟨z0, z1, z2, z3, fr, hip, _⟩ := ip_form l
  have HAD := Lib.hid had
  have HIP := Lib.hid hip
  have HP := Lib.hid hp
  clear had hip ha hp
  have HB0 := Lib.hid ((Below.refl w.heap.size w).alloc (Nat.le_refl _) (.cells (ad5 x0 x1 x2 x3 p) 26))
  have HX0 := Lib.hid (heap_alloc_new w (.cells (ad5 x0 x1 x2 x3 p) 26))
  go_enter Tryd.func3, Tryd.ntmps3
  go_wp2_with fail
  refine (lives_any _ (hR.below HB0.out (Nat.le_refl _))).mono ?_
  rintro e w1 ⟨rfl, hb1⟩
  have HB1 := Lib.hid (HB0.out.trans (hb1.mono HB0.out.size))
  have HX1 := Lib.hid ((hb1.block _ (row_lt HX0.out)).trans HX0.out)
  clear hb1
  go_wp2_with fail
  refine (read_lit HAD.out _ (by omega) (hR.below HB1.out (Nat.le_refl _))).mono ?_
  rintro e w2 ⟨rfl, hb2⟩
  have HB2 := Lib.hid ((HB1.out.trans (hb2.mono HB1.out.size)).alloc (HB1.out.trans (hb2.mono HB1.out.size)).size (.cells (ad5 y0 y1 y2 y3 q) 26))
  have HX2 := Lib.hid (old_alloc ((hb2.block _ (row_lt HX1.out)).trans HX1.out) (.cells (ad5 y0 y1 y2 y3 q) 26))
  have HY2 := Lib.hid (heap_alloc_new w2 (.cells (ad5 y0 y1 y2 y3 q) 26))
  clear hb2
  go_wp2_with fail
  refine (refread_lit HAD.out _ (by omega) (hR.below HB2.out (Nat.le_refl _))).mono ?_
  rintro e w3 ⟨rfl, hb3⟩
  have HB3 := Lib.hid ((HB2.out.trans (hb3.mono HB2.out.size)).alloc (HB2.out.trans (hb3.mono HB2.out.size)).size (.cells (ad5 y0 y1 y2 y3 q) 26))
  have HX3 := Lib.hid (old_alloc ((hb3.block _ (row_lt HX2.out)).trans HX2.out) (.cells (ad5 y0 y1 y2 y3 q) 26))
  have HY3 := Lib.hid (old_alloc ((hb3.block _ (row_lt HY2.out)).trans HY2.out) (.cells (ad5 y0 y1 y2 y3 q) 26))
  have HZ3 := Lib.hid (heap_alloc_new w3 (.cells (ad5 y0 y1 y2 y3 q) 26))
  clear hb3
  go_wp2_with fail
  refine (readip_lit HIP.out _ (by omega) (hR.below HB3.out (Nat.le_refl _))).mono ?_
  rintro e w4 ⟨rfl, hb4⟩
  have HB4 := Lib.hid ((HB3.out.trans (hb4.mono HB3.out.size)).alloc (HB3.out.trans (hb4.mono HB3.out.size)).size (.cells (ip4 z0 z1 z2 z3) 23))
  have HX4 := Lib.hid (old_alloc ((hb4.block _ (row_lt HX3.out)).trans HX3.out) (.cells (ip4 z0 z1 z2 z3) 23))
  have HY4 := Lib.hid (old_alloc ((hb4.block _ (row_lt HY3.out)).trans HY3.out) (.cells (ip4 z0 z1 z2 z3) 23))
  have HZ4 := Lib.hid (old_alloc ((hb4.block _ (row_lt HZ3.out)).trans HZ3.out) (.cells (ip4 z0 z1 z2 z3) 23))
  have HI4 := Lib.hid (heap_alloc_new w4 (.cells (ip4 z0 z1 z2 z3) 23))
  clear hb4
  go_wp2_with fail
  refine (refreadip_lit HIP.out _ (by omega) (hR.below HB4.out (Nat.le_refl _))).mono ?_
  rintro e w5 ⟨rfl, hb5⟩
  have hB5 := (HB4.out.trans (hb5.mono HB4.out.size)).alloc (HB4.out.trans (hb5.mono HB4.out.size)).size (.cells (ip4 z0 z1 z2 z3) 23)
  have hx5 := old_alloc ((hb5.block _ (row_lt HX4.out)).trans HX4.out) (.cells (ip4 z0 z1 z2 z3) 23)
  have hy5 := old_alloc ((hb5.block _ (row_lt HY4.out)).trans HY4.out) (.cells (ip4 z0 z1 z2 z3) 23)
  have hz5 := old_alloc ((hb5.block _ (row_lt HZ4.out)).trans HZ4.out) (.cells (ip4 z0 z1 z2 z3) 23)
  have hi5 := old_alloc ((hb5.block _ (row_lt HI4.out)).trans HI4.out) (.cells (ip4 z0 z1 z2 z3) 23)
  have hj5 := heap_alloc_new w5 (.cells (ip4 z0 z1 z2 z3) 23)
  clear hb5
  go_upto_region 7 with (fail)
  generalize w5.alloc (.cells (ip4 z0 z1 z2 z3) 23) = w6 at *
  have HR6 : Hid (Ready w6) := hR.below hB5 (Nat.le_refl _)
  have HB6 := Lib.hid hB5
  obtain ⟨gp0, gp1, gp2, gp3, gp4⟩ := five_cells hx5
  obtain ⟨gq0, gq1, gq2, gq3, gq4⟩ := five_cells hy5
  obtain ⟨gr0, gr1, gr2, gr3, gr4⟩ := five_cells hz5
  obtain ⟨gs0, gs1, gs2, gs3⟩ := four_cells4 hi5
  obtain ⟨gu0, gu1, gu2, gu3⟩ := four_cells4 hj5
  have kgp0 := cell_regrown gp0
  have kgp1 := cell_regrown gp1
  have kgp2 := cell_regrown gp2
  have kgp3 := cell_regrown gp3
  have kgp4 := cell_regrown gp4
  have kgq0 := cell_regrown gq0
  have kgq1 := cell_regrown gq1
  have kgq2 := cell_regrown gq2
  have kgq3 := cell_regrown gq3
  have kgq4 := cell_regrown gq4
  have kgr0 := cell_regrown gr0
  have kgr1 := cell_regrown gr1
  have kgr2 := cell_regrown gr2
  have kgr3 := cell_regrown gr3
  have kgr4 := cell_regrown gr4
  have kgs0 := cell_regrown gs0
  have kgs1 := cell_regrown gs1
  have kgs2 := cell_regrown gs2
  have kgs3 := cell_regrown gs3
  have kgu0 := cell_regrown gu0
  have kgu1 := cell_regrown gu1
  have kgu2 := cell_regrown gu2
  have kgu3 := cell_regrown gu3
  clear hx5 hy5 hz5 hi5 hj5 hB5 HX0 HX1 HX2 HY2 HX3 HY3 HZ3 HX4 HY4 HZ4 HI4 HAD HIP HB0 HB1 HB2 HB3 HB4 gp0 gp1 gp2 gp3 gp4 gq0 gq1 gq2 gq3 gq4 gr0 gr1 gr2 gr3 gr4 gs0 gs1 gs2 gs3 gu0 gu1 gu2 gu3
  have he1 : ∀ w, (Op.equalIn 9999 23 (.agg #[.int .u8 (y0.toNat : Int), .int .u8 (y1.toNat : Int), .int .u8 (y2.toNat : Int), .int .u8 (y3.toNat : Int)]) (.agg #[.int .u8 (y0.toNat : Int), .int .u8 (y1.toNat : Int), .int .u8 (y2.toNat : Int), .int .u8 (y3.toNat : Int)])).run Tryd.prog w = .ok true w := fun w => same_ip 9997 y0 y1 y2 y3 w
  have he2 : ∀ w, (Op.equalIn 10000 23 (.agg #[.int .u8 (z0.toNat : Int), .int .u8 (z1.toNat : Int), .int .u8 (z2.toNat : Int), .int .u8 (z3.toNat : Int)]) (.agg #[.int .u8 (z0.toNat : Int), .int .u8 (z1.toNat : Int), .int .u8 (z2.toNat : Int), .int .u8 (z3.toNat : Int)])).run Tryd.prog w = .ok true w := fun w => same_ip 9998 z0 z1 z2 z3 w
  have cW : ∀ d os, Calls Tryd.prog 14 #[.agg #[.int .u8 (x0.toNat : Int), .int .u8 (x1.toNat : Int), .int .u8 (x2.toNat : Int), .int .u8 (x3.toNat : Int), .int .u16 p]] (Sort.grow (redrawn w6 d) os) fun e w'' => e = .returned (txt (adT [x0, x1, x2, x3] p)) ∧ ∃ p : Regrown, w'' = Sort.grow (redrawn w6 p.d) p.os := fun d os => Calls.regrown_of (write_lit x0 x1 x2 x3 p _ HP.out (HR6.out.below (below_regrown w6 d os) (Nat.le_refl _)))
  have cA : ∀ d os, Calls Tryd.prog 15 #[.agg #[.int .u8 (x0.toNat : Int), .int .u8 (x1.toNat : Int), .int .u8 (x2.toNat : Int), .int .u8 (x3.toNat : Int), .int .u16 p]] (Sort.grow (redrawn w6 d) os) fun e w'' => e = .returned (txt (adT [x0, x1, x2, x3] p)) ∧ ∃ p : Regrown, w'' = Sort.grow (redrawn w6 p.d) p.os := fun d os => Calls.regrown_of (refaddr_lit5 x0 x1 x2 x3 p _ HP.out (HR6.out.below (below_regrown w6 d os) (Nat.le_refl _)))
  have cI : ∀ d os, Calls Tryd.prog 16 #[.agg #[.int .u8 (x0.toNat : Int), .int .u8 (x1.toNat : Int), .int .u8 (x2.toNat : Int), .int .u8 (x3.toNat : Int)]] (Sort.grow (redrawn w6 d) os) fun e w'' => e = .returned (txt (ipT [x0, x1, x2, x3])) ∧ ∃ p : Regrown, w'' = Sort.grow (redrawn w6 p.d) p.os := fun d os => Calls.regrown_of (writeip_lit x0 x1 x2 x3 _ (HR6.out.below (below_regrown w6 d os) (Nat.le_refl _)))
  have cJ : ∀ d os, Calls Tryd.prog 17 #[.agg #[.int .u8 (x0.toNat : Int), .int .u8 (x1.toNat : Int), .int .u8 (x2.toNat : Int), .int .u8 (x3.toNat : Int)]] (Sort.grow (redrawn w6 d) os) fun e w'' => e = .returned (txt (ipT [x0, x1, x2, x3])) ∧ ∃ p : Regrown, w'' = Sort.grow (redrawn w6 p.d) p.os := fun d os => Calls.regrown_of (refip_lit x0 x1 x2 x3 _ (HR6.out.below (below_regrown w6 d os) (Nat.le_refl _)))
  refine wp_region_quiet_below (by kernel_rfl) (by kernel_rfl) ?_
  repeat (quiet_step (first | (go_at_call 14; exact cW _ _) | (go_at_call 15; exact cA _ _) | (go_at_call 16; exact cI _ _) | (go_at_call 17; exact cJ _ _)))
  refine wpQuiet_nil ?_
  intro _ hw'
  obtain ⟨⟨dq, osq⟩, hw''⟩ := hw'
  subst hw''
  have HB := Lib.hid (HB6.out.trans ((below_regrown w6 dq osq).mono HB6.out.size))
  go_wp2
  go_ret
  exact ⟨rfl, HB.out⟩
end Go.Proofs.YtbahkilfcfbolaaDoor
