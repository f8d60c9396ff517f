/-
  What the laws do with a heap and with another of the document. No condition.
-/
import Derived.Test.YtagajijjcjfopaaStp
namespace Go.Proofs.Ytagajijjcjfopaa
open Go.RowKit

set_option maxRecDepth 100000 in
set_option maxHeartbeats 8000000 in
theorem step_gen {B Bx : List UInt8} {L Lx : List Bk} {D Dx : List Bool} {base : Nat} {hv xv : Value} (kd x n : Int) (A : Option Addr) (m c hi r : Nat) (d : List UInt8) (sh : Bool) (w : World) (hh : Hp base B L D hv w) (hx : Rf Bx Lx Dx xv w) (hR : RightH B L D) (hRX : RightH Bx Lx Dx) (hxi : I64 x) (hni : I64 n) (hd : d.length = m) (hm : m ≤ 300) (hA : A = none → c = 0) (hrd : Rd w 0 hi A (cells d)) (hhi : hi ≤ w.heap.size) (hr8 : r < 5) (hkr : (IntKind.u64.wrap kd).tmod 8 = (r : Int)) :
    Calls Try.prog 13 #[hv, xv, .agg #[.int .i64 kd, .int .i64 x, .int .i64 n, .slice A m c, .bool sh]] w fun e w' => ∃ v1 v2 fl, e = .returned (.tuple #[v1, v2, .bool fl]) ∧ Hp 0 (stepO r x n d sh (B, L, D)).1 (stepO r x n d sh (B, L, D)).2.1 (stepO r x n d sh (B, L, D)).2.2 v1 w' ∧ Below w.heap.size w w' := by
  obtain ⟨nb, hnb⟩ : ∃ k, B.length = k := ⟨_, rfl⟩
  obtain ⟨nk, hnk⟩ : ∃ k, L.length = k := ⟨_, rfl⟩
  obtain ⟨nd, hnd⟩ : ∃ k, D.length = k := ⟨_, rfl⟩
  obtain ⟨v1, v2, v3, rfl, hh⟩ := hh
  obtain ⟨A1, c1, A2, c2, A3, c3, rfl, rfl, rfl⟩ := hh.formsN hnb hnk hnd
  obtain ⟨u1, u2, u3, rfl, hx⟩ := hx
  obtain ⟨nkx, hnkx⟩ : ∃ k, Lx.length = k := ⟨_, rfl⟩
  obtain ⟨ndx, hndx⟩ : ∃ k, Dx.length = k := ⟨_, rfl⟩
  obtain ⟨A4, c4, A5, c5, rfl, rfl, rfl⟩ := hx.forms hnkx hndx
  have HRX := Lib.hid hRX
  obtain ⟨w1, hw1⟩ : ∃ w1, (((((w.alloc (.cells #[.slice A1 nb c1, .slice A2 nk c2, .slice A3 nd c3] 29)).alloc (.cells #[.string ⟨Bx.toArray⟩, .slice A4 nkx c4, .slice A5 ndx c5] 35)).alloc (.cells #[.int .i64 kd, .int .i64 x, .int .i64 n, .slice A m c, .bool sh] 38)).alloc (.cells #[.slice none 0 0, .slice none 0 0, .slice none 0 0] 29)).alloc (.cells #[.string ⟨#[]⟩, .slice none 0 0, .slice none 0 0] 35)) = w1 := ⟨_, rfl⟩
  obtain ⟨N, hN⟩ : ∃ N, w.heap.size = N := ⟨_, rfl⟩
  have hat := five_at w (.cells #[.slice A1 nb c1, .slice A2 nk c2, .slice A3 nd c3] 29) (.cells #[.string ⟨Bx.toArray⟩, .slice A4 nkx c4, .slice A5 ndx c5] 35) (.cells #[.int .i64 kd, .int .i64 x, .int .i64 n, .slice A m c, .bool sh] 38) (.cells #[.slice none 0 0, .slice none 0 0, .slice none 0 0] 29) (.cells #[.string ⟨#[]⟩, .slice none 0 0, .slice none 0 0] 35)
  rw [hw1, hN] at hat
  obtain ⟨hat0, hat1, hat2, hat3, hat4, hbl⟩ := hat
  have HB1 := Lib.hid hbl
  have HX := Lib.hid hat0
  have HXR := Lib.hid hat1
  have HXO := Lib.hid hat2
  have HYH := Lib.hid hat3
  have HYR := Lib.hid hat4
  have HH := Lib.hid (hh.below hbl (by rw [hN]; exact Nat.le_refl _))
  have HV := Lib.hid (hx.below hbl (by rw [hN]; exact Nat.le_refl _))
  have HRD := Lib.hid (hrd.below hbl (by omega))
  have HNB := Lib.hid hnb
  have HNK := Lib.hid hnk
  have HND := Lib.hid hnd
  have HR := Lib.hid hR
  have HIX := Lib.hid hxi
  have HIN := Lib.hid hni
  have HDM := Lib.hid hd
  have HAN := Lib.hid hA
  have HHI : Hid (hi ≤ w1.heap.size) := by have := hbl.size; show _ ≤ _; omega
  have HNS : Hid (N ≤ w1.heap.size) := by have := hbl.size; show _ ≤ _; omega
  rw [hN]
  clear hh hx hnb hnk hnd hR hRX hnkx hndx hxi hni hd hA hrd hat0 hat1 hat2 hat3 hat4 hbl hhi
  go_enter Try.func13, Try.ntmps13
  go_upto_region 1 with (fail)
  clear hw1
  obtain ⟨f0, f1, f2, f3, f4⟩ := five_cells HXO.out
  have hr : r = 0 ∨ r = 1 ∨ r = 2 ∨ r = 3 ∨ r = 4 := by omega
  rcases hr with rfl | rfl | rfl | rfl | rfl
  · have HSO : Hid (stepO 0 x n d sh (B, L, D) = (B, (allocO B.length L n).1, D)) := rfl
    go_wp2_with (refine wpList_load_row rfl 29 _ rfl N rfl 29 #[.slice A1 nb c1, .slice A2 nk c2, .slice A3 nd c3] (0, 0) _ HX.out Try.underlying29 rfl (by kernel_rfl) ?_)
    refine (alloc_any n w1 HH.out.shut HR.out HIN.out).mono ?_
    rintro e w2 ⟨v, rfl, ⟨z1, z2, z3, rfl, hp2⟩, hb2⟩
    obtain ⟨Ya, la, ca, Yb, lb, cb, Yc, lc, cc, rfl, rfl, rfl⟩ := hp2.forms_
    have hbb2 := hb2.alloc hb2.size (.cells #[.slice Ya la ca, .slice Yb lb cb, .slice Yc lc cc] 29)
    have HON := Lib.hid hp2.ones
    have HXR2 := Lib.hid (old_below HXR.out hbb2 (row_lt HXR.out))
    have HXO2 := Lib.hid (old_below HXO.out hbb2 (row_lt HXO.out))
    have HYH2 := Lib.hid (old_below HYH.out hbb2 (row_lt HYH.out))
    have HYR2 := Lib.hid (old_below HYR.out hbb2 (row_lt HYR.out))
    have HV2 := Lib.hid (HV.out.below hbb2)
    have HP2 := Lib.hid ((hp2.alloc (.cells #[.slice Ya la ca, .slice Yb lb cb, .slice Yc lc cc] 29)).wide (Nat.zero_le _))
    have HZ2 := Lib.hid (heap_alloc_new w2 (.cells #[.slice Ya la ca, .slice Yb lb cb, .slice Yc lc cc] 29))
    have HB2 := Lib.hid (HB1.out.trans (hbb2.mono HNS.out))
    have HRD2 := Lib.hid (HRD.out.below hbb2 HHI.out)
    have HP2N : Hid (N + 4 < w2.heap.size) := row_lt (old_below HYR.out hb2 (row_lt HYR.out))
    have HSZ2 : Hid (w1.heap.size ≤ (w2.alloc (.cells #[.slice Ya la ca, .slice Yb lb cb, .slice Yc lc cc] 29)).heap.size) := hbb2.size
    clear hp2 hb2 hbb2 f0 f1 f2 f3 f4
    go_upto_region 5 with (first | refine wpList_store_new rfl 29 _ _ rfl w2 #[.slice none 0 0, .slice none 0 0, .slice none 0 0] #[.slice Ya la ca, .slice Yb lb cb, .slice Yc lc cc] rfl rfl (by kernel_rfl) rfl HON.out ?_)
    generalize w2.alloc (.cells #[.slice Ya la ca, .slice Yb lb cb, .slice Yc lc cc] 29) = w3 at HXR2 HXO2 HYH2 HYR2 HV2 HP2 HZ2 HB2 HRD2 HSZ2 ⊢
    generalize w2.heap.size = P2 at HZ2 HP2N ⊢
    obtain ⟨f0, f1, f2, f3, f4⟩ := five_cells HXO2.out
    go_wp2_with (refine wpList_load_row rfl 35 _ rfl (N + 1) rfl 35 #[.string ⟨Bx.toArray⟩, .slice A4 nkx c4, .slice A5 ndx c5] (0, 0) _ HXR2.out Try.underlying35 rfl (by kernel_rfl) ?_)
    refine (refalloc_any n w3 HV2.out.shut HRX.out HIN.out).mono ?_
    rintro e w4 ⟨v, rfl, ⟨y1, y2, y3, rfl, hp4⟩, hb4⟩
    have HON4 := Lib.hid hp4.ones
    obtain ⟨XS, Xb, kb, xb, Xc, kc, xc, rfl, rfl, rfl⟩ := hp4.forms_
    have hbb4 := hb4.alloc hb4.size (.cells #[.string XS, .slice Xb kb xb, .slice Xc kc xc] 35)
    have HYH5 := Lib.hid (old_below HYH2.out hbb4 (row_lt HYH2.out))
    have HYR5 := Lib.hid (old_below HYR2.out hbb4 (row_lt HYR2.out))
    have HP5 := Lib.hid (HP2.out.below hbb4)
    have HZ5 := Lib.hid (old_below HZ2.out hbb4 (row_lt HZ2.out))
    have HV5 := Lib.hid (hp4.alloc (.cells #[.string XS, .slice Xb kb xb, .slice Xc kc xc] 35))
    have HU5 := Lib.hid (heap_alloc_new w4 (.cells #[.string XS, .slice Xb kb xb, .slice Xc kc xc] 35))
    have HB5 := Lib.hid (HB2.out.trans (hbb4.mono (Nat.le_trans HNS.out HSZ2.out)))
    have HP4N : Hid (N + 4 < w4.heap.size) := row_lt (old_below HYR2.out hb4 (row_lt HYR2.out))
    clear hp4 hb4 hbb4 f0 f1 f2 f3 f4
    go_upto_region 6 with (first | refine wpList_store_new rfl 35 _ _ rfl w4 #[.string ⟨#[]⟩, .slice none 0 0, .slice none 0 0] #[.string XS, .slice Xb kb xb, .slice Xc kc xc] rfl rfl (by kernel_rfl) rfl HON4.out ?_)
    generalize w4.alloc (.cells #[.string XS, .slice Xb kb xb, .slice Xc kc xc] 35) = w5 at HYH5 HYR5 HP5 HZ5 HV5 HU5 HB5 ⊢
    generalize w4.heap.size = P4 at HU5 HP4N ⊢
    have HEND := Lib.hid (step_end HP5.out HV5.out HYH5.out HYR5.out HB5.out)
    obtain ⟨a0, a1, a2⟩ := three_cells HZ5.out
    obtain ⟨b0, b1, b2⟩ := three_cells HU5.out
    obtain ⟨p0, p1, p2⟩ := three_cells HYH5.out
    obtain ⟨q0, q1, q2⟩ := three_cells HYR5.out
    have g0 := frozen_of_row w5 (N + 3) 0 _ _ HYH5.out
    have g1 := frozen_of_row w5 (N + 3) 1 _ _ HYH5.out
    have g2 := frozen_of_row w5 (N + 3) 2 _ _ HYH5.out
    have k0 := frozen_of_row w5 (N + 4) 0 _ _ HYR5.out
    have k1 := frozen_of_row w5 (N + 4) 1 _ _ HYR5.out
    have k2 := frozen_of_row w5 (N + 4) 2 _ _ HYR5.out
    have d1 : ¬ N + 1 + 1 + 1 = P2 := by have := HP2N.out; omega
    have d2 : ¬ N + 1 + 1 + 1 = P4 := by have := HP4N.out; omega
    have d3 : ¬ N + 1 + 1 + 1 + 1 = P2 := by have := HP2N.out; omega
    have d4 : ¬ N + 1 + 1 + 1 + 1 = P4 := by have := HP4N.out; omega
    have d5 : ¬ P2 = N + 1 + 1 + 1 := by have := HP2N.out; omega
    have d6 : ¬ P4 = N + 1 + 1 + 1 := by have := HP4N.out; omega
    have d7 : ¬ P2 = N + 1 + 1 + 1 + 1 := by have := HP2N.out; omega
    have d8 : ¬ P4 = N + 1 + 1 + 1 + 1 := by have := HP4N.out; omega
    by_cases t1 : ((allocO B.length L n).2.1 : Int) = ((allocO Bx.length Lx n).2.1 : Int)
    · have t1' : (((allocO B.length L n).2.1 : Int) == ((allocO Bx.length Lx n).2.1 : Int)) = true := by simp [t1]
      by_cases t2 : (allocO B.length L n).2.2 = (allocO Bx.length Lx n).2.2
      · have t2' : ((allocO B.length L n).2.2 == (allocO Bx.length Lx n).2.2) = true := by simp [t2]
        clear t1 t2
        go_region
        all_goals first
          | (rw [row3 HYH5.out, row3 (w := w5.setRow (N + 3) _) ((setRow_other _ _ _ _ (by omega)).trans HYR5.out)]
             go_wp2
             refine ret_cct (g := N + 3) (g2 := N + 4) rfl rfl rfl (t := 29) (t2 := 35) (fr := (0, 0)) (fr2 := (0, 0)) HEND.out.1.1 Try.underlying29 rfl (by kernel_rfl) HEND.out.1.2.1 Try.underlying35 rfl (by kernel_rfl) rfl ?_
             rw [HSO.out]
             exact ⟨_, _, _, rfl, HEND.out.1.2.2.1.below (below_drewN' (Below.refl _ _) 1), below_drewN' HEND.out.1.2.2.2.2 1⟩)
          | (rw [row3 HYR5.out, row3 (w := w5.setRow (N + 4) _) ((setRow_other _ _ _ _ (by omega)).trans HYH5.out)]
             go_wp2
             refine ret_cct (g := N + 3) (g2 := N + 4) rfl rfl rfl (t := 29) (t2 := 35) (fr := (0, 0)) (fr2 := (0, 0)) HEND.out.2.1 Try.underlying29 rfl (by kernel_rfl) HEND.out.2.2.1 Try.underlying35 rfl (by kernel_rfl) rfl ?_
             rw [HSO.out]
             exact ⟨_, _, _, rfl, HEND.out.2.2.2.1.below (below_drewN' (Below.refl _ _) 1), below_drewN' HEND.out.2.2.2.2.2 1⟩)
      · have t2' : ((allocO B.length L n).2.2 == (allocO Bx.length Lx n).2.2) = false := by simp [t2]
        clear t1 t2
        go_region
        all_goals first
          | (rw [row3 HYH5.out, row3 (w := w5.setRow (N + 3) _) ((setRow_other _ _ _ _ (by omega)).trans HYR5.out)]
             go_wp2
             refine ret_cct (g := N + 3) (g2 := N + 4) rfl rfl rfl (t := 29) (t2 := 35) (fr := (0, 0)) (fr2 := (0, 0)) HEND.out.1.1 Try.underlying29 rfl (by kernel_rfl) HEND.out.1.2.1 Try.underlying35 rfl (by kernel_rfl) rfl ?_
             rw [HSO.out]
             exact ⟨_, _, _, rfl, HEND.out.1.2.2.1.below (below_drewN' (Below.refl _ _) 1), below_drewN' HEND.out.1.2.2.2.2 1⟩)
          | (rw [row3 HYR5.out, row3 (w := w5.setRow (N + 4) _) ((setRow_other _ _ _ _ (by omega)).trans HYH5.out)]
             go_wp2
             refine ret_cct (g := N + 3) (g2 := N + 4) rfl rfl rfl (t := 29) (t2 := 35) (fr := (0, 0)) (fr2 := (0, 0)) HEND.out.2.1 Try.underlying29 rfl (by kernel_rfl) HEND.out.2.2.1 Try.underlying35 rfl (by kernel_rfl) rfl ?_
             rw [HSO.out]
             exact ⟨_, _, _, rfl, HEND.out.2.2.2.1.below (below_drewN' (Below.refl _ _) 1), below_drewN' HEND.out.2.2.2.2.2 1⟩)
    · have t1' : (((allocO B.length L n).2.1 : Int) == ((allocO Bx.length Lx n).2.1 : Int)) = false := by simp only [beq_eq_false_iff_ne]; exact t1
      clear t1
      go_region
      all_goals first
        | (rw [row3 HYH5.out, row3 (w := w5.setRow (N + 3) _) ((setRow_other _ _ _ _ (by omega)).trans HYR5.out)]
           go_wp2
           refine ret_cct (g := N + 3) (g2 := N + 4) rfl rfl rfl (t := 29) (t2 := 35) (fr := (0, 0)) (fr2 := (0, 0)) HEND.out.1.1 Try.underlying29 rfl (by kernel_rfl) HEND.out.1.2.1 Try.underlying35 rfl (by kernel_rfl) rfl ?_
           rw [HSO.out]
           exact ⟨_, _, _, rfl, HEND.out.1.2.2.1.below (below_drewN' (Below.refl _ _) 1), below_drewN' HEND.out.1.2.2.2.2 1⟩)
        | (rw [row3 HYR5.out, row3 (w := w5.setRow (N + 4) _) ((setRow_other _ _ _ _ (by omega)).trans HYH5.out)]
           go_wp2
           refine ret_cct (g := N + 3) (g2 := N + 4) rfl rfl rfl (t := 29) (t2 := 35) (fr := (0, 0)) (fr2 := (0, 0)) HEND.out.2.1 Try.underlying29 rfl (by kernel_rfl) HEND.out.2.2.1 Try.underlying35 rfl (by kernel_rfl) rfl ?_
           rw [HSO.out]
           exact ⟨_, _, _, rfl, HEND.out.2.2.2.1.below (below_drewN' (Below.refl _ _) 1), below_drewN' HEND.out.2.2.2.2.2 1⟩)
  · have HSO : Hid (stepO 1 x n d sh (B, L, D) = (B, (allocO B.length L n).1, D)) := rfl
    go_wp2_with (refine wpList_load_row rfl 29 _ rfl N rfl 29 #[.slice A1 nb c1, .slice A2 nk c2, .slice A3 nd c3] (0, 0) _ HX.out Try.underlying29 rfl (by kernel_rfl) ?_)
    refine (alloc_any n w1 HH.out.shut HR.out HIN.out).mono ?_
    rintro e w2 ⟨v, rfl, ⟨z1, z2, z3, rfl, hp2⟩, hb2⟩
    obtain ⟨Ya, la, ca, Yb, lb, cb, Yc, lc, cc, rfl, rfl, rfl⟩ := hp2.forms_
    have hbb2 := hb2.alloc hb2.size (.cells #[.slice Ya la ca, .slice Yb lb cb, .slice Yc lc cc] 29)
    have HON := Lib.hid hp2.ones
    have HXR2 := Lib.hid (old_below HXR.out hbb2 (row_lt HXR.out))
    have HXO2 := Lib.hid (old_below HXO.out hbb2 (row_lt HXO.out))
    have HYH2 := Lib.hid (old_below HYH.out hbb2 (row_lt HYH.out))
    have HYR2 := Lib.hid (old_below HYR.out hbb2 (row_lt HYR.out))
    have HV2 := Lib.hid (HV.out.below hbb2)
    have HP2 := Lib.hid ((hp2.alloc (.cells #[.slice Ya la ca, .slice Yb lb cb, .slice Yc lc cc] 29)).wide (Nat.zero_le _))
    have HZ2 := Lib.hid (heap_alloc_new w2 (.cells #[.slice Ya la ca, .slice Yb lb cb, .slice Yc lc cc] 29))
    have HB2 := Lib.hid (HB1.out.trans (hbb2.mono HNS.out))
    have HRD2 := Lib.hid (HRD.out.below hbb2 HHI.out)
    have HP2N : Hid (N + 4 < w2.heap.size) := row_lt (old_below HYR.out hb2 (row_lt HYR.out))
    have HSZ2 : Hid (w1.heap.size ≤ (w2.alloc (.cells #[.slice Ya la ca, .slice Yb lb cb, .slice Yc lc cc] 29)).heap.size) := hbb2.size
    clear hp2 hb2 hbb2 f0 f1 f2 f3 f4
    go_upto_region 5 with (first | refine wpList_store_new rfl 29 _ _ rfl w2 #[.slice none 0 0, .slice none 0 0, .slice none 0 0] #[.slice Ya la ca, .slice Yb lb cb, .slice Yc lc cc] rfl rfl (by kernel_rfl) rfl HON.out ?_)
    generalize w2.alloc (.cells #[.slice Ya la ca, .slice Yb lb cb, .slice Yc lc cc] 29) = w3 at HXR2 HXO2 HYH2 HYR2 HV2 HP2 HZ2 HB2 HRD2 HSZ2 ⊢
    generalize w2.heap.size = P2 at HZ2 HP2N ⊢
    obtain ⟨f0, f1, f2, f3, f4⟩ := five_cells HXO2.out
    go_wp2_with (refine wpList_load_row rfl 35 _ rfl (N + 1) rfl 35 #[.string ⟨Bx.toArray⟩, .slice A4 nkx c4, .slice A5 ndx c5] (0, 0) _ HXR2.out Try.underlying35 rfl (by kernel_rfl) ?_)
    refine (refalloc_any n w3 HV2.out.shut HRX.out HIN.out).mono ?_
    rintro e w4 ⟨v, rfl, ⟨y1, y2, y3, rfl, hp4⟩, hb4⟩
    have HON4 := Lib.hid hp4.ones
    obtain ⟨XS, Xb, kb, xb, Xc, kc, xc, rfl, rfl, rfl⟩ := hp4.forms_
    have hbb4 := hb4.alloc hb4.size (.cells #[.string XS, .slice Xb kb xb, .slice Xc kc xc] 35)
    have HYH5 := Lib.hid (old_below HYH2.out hbb4 (row_lt HYH2.out))
    have HYR5 := Lib.hid (old_below HYR2.out hbb4 (row_lt HYR2.out))
    have HP5 := Lib.hid (HP2.out.below hbb4)
    have HZ5 := Lib.hid (old_below HZ2.out hbb4 (row_lt HZ2.out))
    have HV5 := Lib.hid (hp4.alloc (.cells #[.string XS, .slice Xb kb xb, .slice Xc kc xc] 35))
    have HU5 := Lib.hid (heap_alloc_new w4 (.cells #[.string XS, .slice Xb kb xb, .slice Xc kc xc] 35))
    have HB5 := Lib.hid (HB2.out.trans (hbb4.mono (Nat.le_trans HNS.out HSZ2.out)))
    have HP4N : Hid (N + 4 < w4.heap.size) := row_lt (old_below HYR2.out hb4 (row_lt HYR2.out))
    clear hp4 hb4 hbb4 f0 f1 f2 f3 f4
    go_upto_region 6 with (first | refine wpList_store_new rfl 35 _ _ rfl w4 #[.string ⟨#[]⟩, .slice none 0 0, .slice none 0 0] #[.string XS, .slice Xb kb xb, .slice Xc kc xc] rfl rfl (by kernel_rfl) rfl HON4.out ?_)
    generalize w4.alloc (.cells #[.string XS, .slice Xb kb xb, .slice Xc kc xc] 35) = w5 at HYH5 HYR5 HP5 HZ5 HV5 HU5 HB5 ⊢
    generalize w4.heap.size = P4 at HU5 HP4N ⊢
    have HEND := Lib.hid (step_end HP5.out HV5.out HYH5.out HYR5.out HB5.out)
    obtain ⟨a0, a1, a2⟩ := three_cells HZ5.out
    obtain ⟨b0, b1, b2⟩ := three_cells HU5.out
    obtain ⟨p0, p1, p2⟩ := three_cells HYH5.out
    obtain ⟨q0, q1, q2⟩ := three_cells HYR5.out
    have g0 := frozen_of_row w5 (N + 3) 0 _ _ HYH5.out
    have g1 := frozen_of_row w5 (N + 3) 1 _ _ HYH5.out
    have g2 := frozen_of_row w5 (N + 3) 2 _ _ HYH5.out
    have k0 := frozen_of_row w5 (N + 4) 0 _ _ HYR5.out
    have k1 := frozen_of_row w5 (N + 4) 1 _ _ HYR5.out
    have k2 := frozen_of_row w5 (N + 4) 2 _ _ HYR5.out
    have d1 : ¬ N + 1 + 1 + 1 = P2 := by have := HP2N.out; omega
    have d2 : ¬ N + 1 + 1 + 1 = P4 := by have := HP4N.out; omega
    have d3 : ¬ N + 1 + 1 + 1 + 1 = P2 := by have := HP2N.out; omega
    have d4 : ¬ N + 1 + 1 + 1 + 1 = P4 := by have := HP4N.out; omega
    have d5 : ¬ P2 = N + 1 + 1 + 1 := by have := HP2N.out; omega
    have d6 : ¬ P4 = N + 1 + 1 + 1 := by have := HP4N.out; omega
    have d7 : ¬ P2 = N + 1 + 1 + 1 + 1 := by have := HP2N.out; omega
    have d8 : ¬ P4 = N + 1 + 1 + 1 + 1 := by have := HP4N.out; omega
    by_cases t1 : ((allocO B.length L n).2.1 : Int) = ((allocO Bx.length Lx n).2.1 : Int)
    · have t1' : (((allocO B.length L n).2.1 : Int) == ((allocO Bx.length Lx n).2.1 : Int)) = true := by simp [t1]
      by_cases t2 : (allocO B.length L n).2.2 = (allocO Bx.length Lx n).2.2
      · have t2' : ((allocO B.length L n).2.2 == (allocO Bx.length Lx n).2.2) = true := by simp [t2]
        clear t1 t2
        go_region
        all_goals first
          | (rw [row3 HYH5.out, row3 (w := w5.setRow (N + 3) _) ((setRow_other _ _ _ _ (by omega)).trans HYR5.out)]
             go_wp2
             refine ret_cct (g := N + 3) (g2 := N + 4) rfl rfl rfl (t := 29) (t2 := 35) (fr := (0, 0)) (fr2 := (0, 0)) HEND.out.1.1 Try.underlying29 rfl (by kernel_rfl) HEND.out.1.2.1 Try.underlying35 rfl (by kernel_rfl) rfl ?_
             rw [HSO.out]
             exact ⟨_, _, _, rfl, HEND.out.1.2.2.1.below (below_drewN' (Below.refl _ _) 1), below_drewN' HEND.out.1.2.2.2.2 1⟩)
          | (rw [row3 HYR5.out, row3 (w := w5.setRow (N + 4) _) ((setRow_other _ _ _ _ (by omega)).trans HYH5.out)]
             go_wp2
             refine ret_cct (g := N + 3) (g2 := N + 4) rfl rfl rfl (t := 29) (t2 := 35) (fr := (0, 0)) (fr2 := (0, 0)) HEND.out.2.1 Try.underlying29 rfl (by kernel_rfl) HEND.out.2.2.1 Try.underlying35 rfl (by kernel_rfl) rfl ?_
             rw [HSO.out]
             exact ⟨_, _, _, rfl, HEND.out.2.2.2.1.below (below_drewN' (Below.refl _ _) 1), below_drewN' HEND.out.2.2.2.2.2 1⟩)
      · have t2' : ((allocO B.length L n).2.2 == (allocO Bx.length Lx n).2.2) = false := by simp [t2]
        clear t1 t2
        go_region
        all_goals first
          | (rw [row3 HYH5.out, row3 (w := w5.setRow (N + 3) _) ((setRow_other _ _ _ _ (by omega)).trans HYR5.out)]
             go_wp2
             refine ret_cct (g := N + 3) (g2 := N + 4) rfl rfl rfl (t := 29) (t2 := 35) (fr := (0, 0)) (fr2 := (0, 0)) HEND.out.1.1 Try.underlying29 rfl (by kernel_rfl) HEND.out.1.2.1 Try.underlying35 rfl (by kernel_rfl) rfl ?_
             rw [HSO.out]
             exact ⟨_, _, _, rfl, HEND.out.1.2.2.1.below (below_drewN' (Below.refl _ _) 1), below_drewN' HEND.out.1.2.2.2.2 1⟩)
          | (rw [row3 HYR5.out, row3 (w := w5.setRow (N + 4) _) ((setRow_other _ _ _ _ (by omega)).trans HYH5.out)]
             go_wp2
             refine ret_cct (g := N + 3) (g2 := N + 4) rfl rfl rfl (t := 29) (t2 := 35) (fr := (0, 0)) (fr2 := (0, 0)) HEND.out.2.1 Try.underlying29 rfl (by kernel_rfl) HEND.out.2.2.1 Try.underlying35 rfl (by kernel_rfl) rfl ?_
             rw [HSO.out]
             exact ⟨_, _, _, rfl, HEND.out.2.2.2.1.below (below_drewN' (Below.refl _ _) 1), below_drewN' HEND.out.2.2.2.2.2 1⟩)
    · have t1' : (((allocO B.length L n).2.1 : Int) == ((allocO Bx.length Lx n).2.1 : Int)) = false := by simp only [beq_eq_false_iff_ne]; exact t1
      clear t1
      go_region
      all_goals first
        | (rw [row3 HYH5.out, row3 (w := w5.setRow (N + 3) _) ((setRow_other _ _ _ _ (by omega)).trans HYR5.out)]
           go_wp2
           refine ret_cct (g := N + 3) (g2 := N + 4) rfl rfl rfl (t := 29) (t2 := 35) (fr := (0, 0)) (fr2 := (0, 0)) HEND.out.1.1 Try.underlying29 rfl (by kernel_rfl) HEND.out.1.2.1 Try.underlying35 rfl (by kernel_rfl) rfl ?_
           rw [HSO.out]
           exact ⟨_, _, _, rfl, HEND.out.1.2.2.1.below (below_drewN' (Below.refl _ _) 1), below_drewN' HEND.out.1.2.2.2.2 1⟩)
        | (rw [row3 HYR5.out, row3 (w := w5.setRow (N + 4) _) ((setRow_other _ _ _ _ (by omega)).trans HYH5.out)]
           go_wp2
           refine ret_cct (g := N + 3) (g2 := N + 4) rfl rfl rfl (t := 29) (t2 := 35) (fr := (0, 0)) (fr2 := (0, 0)) HEND.out.2.1 Try.underlying29 rfl (by kernel_rfl) HEND.out.2.2.1 Try.underlying35 rfl (by kernel_rfl) rfl ?_
           rw [HSO.out]
           exact ⟨_, _, _, rfl, HEND.out.2.2.2.1.below (below_drewN' (Below.refl _ _) 1), below_drewN' HEND.out.2.2.2.2.2 1⟩)
  · have HSO : Hid (stepO 2 x n d sh (B, L, D) = ((freeO B L D x).1, (freeO B L D x).2.1, (freeO B L D x).2.2.1)) := rfl
    go_wp2_with (refine wpList_load_row rfl 29 _ rfl N rfl 29 #[.slice A1 nb c1, .slice A2 nk c2, .slice A3 nd c3] (0, 0) _ HX.out Try.underlying29 rfl (by kernel_rfl) ?_)
    refine (free_any x w1 HH.out.shut HR.out HIX.out).mono ?_
    rintro e w2 ⟨v, rfl, ⟨z1, z2, z3, rfl, hp2⟩, hb2⟩
    obtain ⟨Ya, la, ca, Yb, lb, cb, Yc, lc, cc, rfl, rfl, rfl⟩ := hp2.forms_
    have hbb2 := hb2.alloc hb2.size (.cells #[.slice Ya la ca, .slice Yb lb cb, .slice Yc lc cc] 29)
    have HON := Lib.hid hp2.ones
    have HXR2 := Lib.hid (old_below HXR.out hbb2 (row_lt HXR.out))
    have HXO2 := Lib.hid (old_below HXO.out hbb2 (row_lt HXO.out))
    have HYH2 := Lib.hid (old_below HYH.out hbb2 (row_lt HYH.out))
    have HYR2 := Lib.hid (old_below HYR.out hbb2 (row_lt HYR.out))
    have HV2 := Lib.hid (HV.out.below hbb2)
    have HP2 := Lib.hid ((hp2.alloc (.cells #[.slice Ya la ca, .slice Yb lb cb, .slice Yc lc cc] 29)).wide (Nat.zero_le _))
    have HZ2 := Lib.hid (heap_alloc_new w2 (.cells #[.slice Ya la ca, .slice Yb lb cb, .slice Yc lc cc] 29))
    have HB2 := Lib.hid (HB1.out.trans (hbb2.mono HNS.out))
    have HRD2 := Lib.hid (HRD.out.below hbb2 HHI.out)
    have HP2N : Hid (N + 4 < w2.heap.size) := row_lt (old_below HYR.out hb2 (row_lt HYR.out))
    have HSZ2 : Hid (w1.heap.size ≤ (w2.alloc (.cells #[.slice Ya la ca, .slice Yb lb cb, .slice Yc lc cc] 29)).heap.size) := hbb2.size
    clear hp2 hb2 hbb2 f0 f1 f2 f3 f4
    go_upto_region 9 with (first | refine wpList_store_new rfl 29 _ _ rfl w2 #[.slice none 0 0, .slice none 0 0, .slice none 0 0] #[.slice Ya la ca, .slice Yb lb cb, .slice Yc lc cc] rfl rfl (by kernel_rfl) rfl HON.out ?_)
    generalize w2.alloc (.cells #[.slice Ya la ca, .slice Yb lb cb, .slice Yc lc cc] 29) = w3 at HXR2 HXO2 HYH2 HYR2 HV2 HP2 HZ2 HB2 HRD2 HSZ2 ⊢
    generalize w2.heap.size = P2 at HZ2 HP2N ⊢
    obtain ⟨f0, f1, f2, f3, f4⟩ := five_cells HXO2.out
    go_wp2_with (refine wpList_load_row rfl 35 _ rfl (N + 1) rfl 35 #[.string ⟨Bx.toArray⟩, .slice A4 nkx c4, .slice A5 ndx c5] (0, 0) _ HXR2.out Try.underlying35 rfl (by kernel_rfl) ?_)
    refine (reffree_any x w3 HV2.out.shut HRX.out HIX.out).mono ?_
    rintro e w4 ⟨v, rfl, ⟨y1, y2, y3, rfl, hp4⟩, hb4⟩
    have HON4 := Lib.hid hp4.ones
    obtain ⟨XS, Xb, kb, xb, Xc, kc, xc, rfl, rfl, rfl⟩ := hp4.forms_
    have hbb4 := hb4.alloc hb4.size (.cells #[.string XS, .slice Xb kb xb, .slice Xc kc xc] 35)
    have HYH5 := Lib.hid (old_below HYH2.out hbb4 (row_lt HYH2.out))
    have HYR5 := Lib.hid (old_below HYR2.out hbb4 (row_lt HYR2.out))
    have HP5 := Lib.hid (HP2.out.below hbb4)
    have HZ5 := Lib.hid (old_below HZ2.out hbb4 (row_lt HZ2.out))
    have HV5 := Lib.hid (hp4.alloc (.cells #[.string XS, .slice Xb kb xb, .slice Xc kc xc] 35))
    have HU5 := Lib.hid (heap_alloc_new w4 (.cells #[.string XS, .slice Xb kb xb, .slice Xc kc xc] 35))
    have HB5 := Lib.hid (HB2.out.trans (hbb4.mono (Nat.le_trans HNS.out HSZ2.out)))
    have HP4N : Hid (N + 4 < w4.heap.size) := row_lt (old_below HYR2.out hb4 (row_lt HYR2.out))
    clear hp4 hb4 hbb4 f0 f1 f2 f3 f4
    go_upto_region 10 with (first | refine wpList_store_new rfl 35 _ _ rfl w4 #[.string ⟨#[]⟩, .slice none 0 0, .slice none 0 0] #[.string XS, .slice Xb kb xb, .slice Xc kc xc] rfl rfl (by kernel_rfl) rfl HON4.out ?_)
    generalize w4.alloc (.cells #[.string XS, .slice Xb kb xb, .slice Xc kc xc] 35) = w5 at HYH5 HYR5 HP5 HZ5 HV5 HU5 HB5 ⊢
    generalize w4.heap.size = P4 at HU5 HP4N ⊢
    have HEND := Lib.hid (step_end HP5.out HV5.out HYH5.out HYR5.out HB5.out)
    obtain ⟨a0, a1, a2⟩ := three_cells HZ5.out
    obtain ⟨b0, b1, b2⟩ := three_cells HU5.out
    obtain ⟨p0, p1, p2⟩ := three_cells HYH5.out
    obtain ⟨q0, q1, q2⟩ := three_cells HYR5.out
    have g0 := frozen_of_row w5 (N + 3) 0 _ _ HYH5.out
    have g1 := frozen_of_row w5 (N + 3) 1 _ _ HYH5.out
    have g2 := frozen_of_row w5 (N + 3) 2 _ _ HYH5.out
    have k0 := frozen_of_row w5 (N + 4) 0 _ _ HYR5.out
    have k1 := frozen_of_row w5 (N + 4) 1 _ _ HYR5.out
    have k2 := frozen_of_row w5 (N + 4) 2 _ _ HYR5.out
    have d1 : ¬ N + 1 + 1 + 1 = P2 := by have := HP2N.out; omega
    have d2 : ¬ N + 1 + 1 + 1 = P4 := by have := HP4N.out; omega
    have d3 : ¬ N + 1 + 1 + 1 + 1 = P2 := by have := HP2N.out; omega
    have d4 : ¬ N + 1 + 1 + 1 + 1 = P4 := by have := HP4N.out; omega
    have d5 : ¬ P2 = N + 1 + 1 + 1 := by have := HP2N.out; omega
    have d6 : ¬ P4 = N + 1 + 1 + 1 := by have := HP4N.out; omega
    have d7 : ¬ P2 = N + 1 + 1 + 1 + 1 := by have := HP2N.out; omega
    have d8 : ¬ P4 = N + 1 + 1 + 1 + 1 := by have := HP4N.out; omega
    by_cases t2 : (freeO B L D x).2.2.2 = (freeO Bx Lx Dx x).2.2.2
    · have t2' : ((freeO B L D x).2.2.2 == (freeO Bx Lx Dx x).2.2.2) = true := by simp [t2]
      clear t2
      go_region
      all_goals first
        | (rw [row3 HYH5.out, row3 (w := w5.setRow (N + 3) _) ((setRow_other _ _ _ _ (by omega)).trans HYR5.out)]
           go_wp2
           refine ret_cct (g := N + 3) (g2 := N + 4) rfl rfl rfl (t := 29) (t2 := 35) (fr := (0, 0)) (fr2 := (0, 0)) HEND.out.1.1 Try.underlying29 rfl (by kernel_rfl) HEND.out.1.2.1 Try.underlying35 rfl (by kernel_rfl) rfl ?_
           rw [HSO.out]
           exact ⟨_, _, _, rfl, HEND.out.1.2.2.1.below (below_drewN' (Below.refl _ _) 1), below_drewN' HEND.out.1.2.2.2.2 1⟩)
        | (rw [row3 HYR5.out, row3 (w := w5.setRow (N + 4) _) ((setRow_other _ _ _ _ (by omega)).trans HYH5.out)]
           go_wp2
           refine ret_cct (g := N + 3) (g2 := N + 4) rfl rfl rfl (t := 29) (t2 := 35) (fr := (0, 0)) (fr2 := (0, 0)) HEND.out.2.1 Try.underlying29 rfl (by kernel_rfl) HEND.out.2.2.1 Try.underlying35 rfl (by kernel_rfl) rfl ?_
           rw [HSO.out]
           exact ⟨_, _, _, rfl, HEND.out.2.2.2.1.below (below_drewN' (Below.refl _ _) 1), below_drewN' HEND.out.2.2.2.2.2 1⟩)
    · have t2' : ((freeO B L D x).2.2.2 == (freeO Bx Lx Dx x).2.2.2) = false := by simp [t2]
      clear t2
      go_region
      all_goals first
        | (rw [row3 HYH5.out, row3 (w := w5.setRow (N + 3) _) ((setRow_other _ _ _ _ (by omega)).trans HYR5.out)]
           go_wp2
           refine ret_cct (g := N + 3) (g2 := N + 4) rfl rfl rfl (t := 29) (t2 := 35) (fr := (0, 0)) (fr2 := (0, 0)) HEND.out.1.1 Try.underlying29 rfl (by kernel_rfl) HEND.out.1.2.1 Try.underlying35 rfl (by kernel_rfl) rfl ?_
           rw [HSO.out]
           exact ⟨_, _, _, rfl, HEND.out.1.2.2.1.below (below_drewN' (Below.refl _ _) 1), below_drewN' HEND.out.1.2.2.2.2 1⟩)
        | (rw [row3 HYR5.out, row3 (w := w5.setRow (N + 4) _) ((setRow_other _ _ _ _ (by omega)).trans HYH5.out)]
           go_wp2
           refine ret_cct (g := N + 3) (g2 := N + 4) rfl rfl rfl (t := 29) (t2 := 35) (fr := (0, 0)) (fr2 := (0, 0)) HEND.out.2.1 Try.underlying29 rfl (by kernel_rfl) HEND.out.2.2.1 Try.underlying35 rfl (by kernel_rfl) rfl ?_
           rw [HSO.out]
           exact ⟨_, _, _, rfl, HEND.out.2.2.2.1.below (below_drewN' (Below.refl _ _) 1), below_drewN' HEND.out.2.2.2.2.2 1⟩)
  · have HSO : Hid (stepO 3 x n d sh (B, L, D) = ((storeO B L D x d).1, L, (storeO B L D x d).2.1)) := rfl
    go_wp2_with (refine wpList_load_row rfl 29 _ rfl N rfl 29 #[.slice A1 nb c1, .slice A2 nk c2, .slice A3 nd c3] (0, 0) _ HX.out Try.underlying29 rfl (by kernel_rfl) ?_)
    refine (store_any x A c m 0 hi d w1 HH.out.shut HR.out HIX.out HDM.out (by omega) HAN.out HRD.out HHI.out).mono ?_
    rintro e w2 ⟨v, rfl, ⟨z1, z2, z3, rfl, hp2⟩, hb2⟩
    obtain ⟨Ya, la, ca, Yb, lb, cb, Yc, lc, cc, rfl, rfl, rfl⟩ := hp2.forms_
    have hbb2 := hb2.alloc hb2.size (.cells #[.slice Ya la ca, .slice Yb lb cb, .slice Yc lc cc] 29)
    have HON := Lib.hid hp2.ones
    have HXR2 := Lib.hid (old_below HXR.out hbb2 (row_lt HXR.out))
    have HXO2 := Lib.hid (old_below HXO.out hbb2 (row_lt HXO.out))
    have HYH2 := Lib.hid (old_below HYH.out hbb2 (row_lt HYH.out))
    have HYR2 := Lib.hid (old_below HYR.out hbb2 (row_lt HYR.out))
    have HV2 := Lib.hid (HV.out.below hbb2)
    have HP2 := Lib.hid ((hp2.alloc (.cells #[.slice Ya la ca, .slice Yb lb cb, .slice Yc lc cc] 29)).wide (Nat.zero_le _))
    have HZ2 := Lib.hid (heap_alloc_new w2 (.cells #[.slice Ya la ca, .slice Yb lb cb, .slice Yc lc cc] 29))
    have HB2 := Lib.hid (HB1.out.trans (hbb2.mono HNS.out))
    have HRD2 := Lib.hid (HRD.out.below hbb2 HHI.out)
    have HP2N : Hid (N + 4 < w2.heap.size) := row_lt (old_below HYR.out hb2 (row_lt HYR.out))
    have HSZ2 : Hid (w1.heap.size ≤ (w2.alloc (.cells #[.slice Ya la ca, .slice Yb lb cb, .slice Yc lc cc] 29)).heap.size) := hbb2.size
    clear hp2 hb2 hbb2 f0 f1 f2 f3 f4
    go_upto_region 14 with (first | refine wpList_store_new rfl 29 _ _ rfl w2 #[.slice none 0 0, .slice none 0 0, .slice none 0 0] #[.slice Ya la ca, .slice Yb lb cb, .slice Yc lc cc] rfl rfl (by kernel_rfl) rfl HON.out ?_)
    generalize w2.alloc (.cells #[.slice Ya la ca, .slice Yb lb cb, .slice Yc lc cc] 29) = w3 at HXR2 HXO2 HYH2 HYR2 HV2 HP2 HZ2 HB2 HRD2 HSZ2 ⊢
    generalize w2.heap.size = P2 at HZ2 HP2N ⊢
    obtain ⟨f0, f1, f2, f3, f4⟩ := five_cells HXO2.out
    have hcv : (convert 25 9 (.slice A m c)).run Try.prog w3 = .ok (.string ⟨d.toArray⟩) w3 := by
      have := run_text (P := Try.prog) w3 25 9 5 (l := d) c Try.underlying25 Try.underlying5 Try.underlying9 HRD2.out
      rwa [HDM.out] at this
    go_wp2_with (refine wpList_load_row rfl 35 _ rfl (N + 1) rfl 35 #[.string ⟨Bx.toArray⟩, .slice A4 nkx c4, .slice A5 ndx c5] (0, 0) _ HXR2.out Try.underlying35 rfl (by kernel_rfl) ?_)
    refine (refstore_any x d w3 HV2.out.shut HRX.out HIX.out (by rw [HDM.out]; omega)).mono ?_
    rintro e w4 ⟨v, rfl, ⟨y1, y2, y3, rfl, hp4⟩, hb4⟩
    have HON4 := Lib.hid hp4.ones
    obtain ⟨XS, Xb, kb, xb, Xc, kc, xc, rfl, rfl, rfl⟩ := hp4.forms_
    have hbb4 := hb4.alloc hb4.size (.cells #[.string XS, .slice Xb kb xb, .slice Xc kc xc] 35)
    have HYH5 := Lib.hid (old_below HYH2.out hbb4 (row_lt HYH2.out))
    have HYR5 := Lib.hid (old_below HYR2.out hbb4 (row_lt HYR2.out))
    have HP5 := Lib.hid (HP2.out.below hbb4)
    have HZ5 := Lib.hid (old_below HZ2.out hbb4 (row_lt HZ2.out))
    have HV5 := Lib.hid (hp4.alloc (.cells #[.string XS, .slice Xb kb xb, .slice Xc kc xc] 35))
    have HU5 := Lib.hid (heap_alloc_new w4 (.cells #[.string XS, .slice Xb kb xb, .slice Xc kc xc] 35))
    have HB5 := Lib.hid (HB2.out.trans (hbb4.mono (Nat.le_trans HNS.out HSZ2.out)))
    have HP4N : Hid (N + 4 < w4.heap.size) := row_lt (old_below HYR2.out hb4 (row_lt HYR2.out))
    clear hp4 hb4 hbb4 hcv f0 f1 f2 f3 f4
    go_upto_region 15 with (first | refine wpList_store_new rfl 35 _ _ rfl w4 #[.string ⟨#[]⟩, .slice none 0 0, .slice none 0 0] #[.string XS, .slice Xb kb xb, .slice Xc kc xc] rfl rfl (by kernel_rfl) rfl HON4.out ?_)
    generalize w4.alloc (.cells #[.string XS, .slice Xb kb xb, .slice Xc kc xc] 35) = w5 at HYH5 HYR5 HP5 HZ5 HV5 HU5 HB5 ⊢
    generalize w4.heap.size = P4 at HU5 HP4N ⊢
    have HEND := Lib.hid (step_end HP5.out HV5.out HYH5.out HYR5.out HB5.out)
    obtain ⟨a0, a1, a2⟩ := three_cells HZ5.out
    obtain ⟨b0, b1, b2⟩ := three_cells HU5.out
    obtain ⟨p0, p1, p2⟩ := three_cells HYH5.out
    obtain ⟨q0, q1, q2⟩ := three_cells HYR5.out
    have g0 := frozen_of_row w5 (N + 3) 0 _ _ HYH5.out
    have g1 := frozen_of_row w5 (N + 3) 1 _ _ HYH5.out
    have g2 := frozen_of_row w5 (N + 3) 2 _ _ HYH5.out
    have k0 := frozen_of_row w5 (N + 4) 0 _ _ HYR5.out
    have k1 := frozen_of_row w5 (N + 4) 1 _ _ HYR5.out
    have k2 := frozen_of_row w5 (N + 4) 2 _ _ HYR5.out
    have d1 : ¬ N + 1 + 1 + 1 = P2 := by have := HP2N.out; omega
    have d2 : ¬ N + 1 + 1 + 1 = P4 := by have := HP4N.out; omega
    have d3 : ¬ N + 1 + 1 + 1 + 1 = P2 := by have := HP2N.out; omega
    have d4 : ¬ N + 1 + 1 + 1 + 1 = P4 := by have := HP4N.out; omega
    have d5 : ¬ P2 = N + 1 + 1 + 1 := by have := HP2N.out; omega
    have d6 : ¬ P4 = N + 1 + 1 + 1 := by have := HP4N.out; omega
    have d7 : ¬ P2 = N + 1 + 1 + 1 + 1 := by have := HP2N.out; omega
    have d8 : ¬ P4 = N + 1 + 1 + 1 + 1 := by have := HP4N.out; omega
    by_cases t2 : (storeO B L D x d).2.2 = (storeO Bx Lx Dx x d).2.2
    · have t2' : ((storeO B L D x d).2.2 == (storeO Bx Lx Dx x d).2.2) = true := by simp [t2]
      clear t2
      go_region
      all_goals first
        | (rw [row3 HYH5.out, row3 (w := w5.setRow (N + 3) _) ((setRow_other _ _ _ _ (by omega)).trans HYR5.out)]
           go_wp2
           refine ret_cct (g := N + 3) (g2 := N + 4) rfl rfl rfl (t := 29) (t2 := 35) (fr := (0, 0)) (fr2 := (0, 0)) HEND.out.1.1 Try.underlying29 rfl (by kernel_rfl) HEND.out.1.2.1 Try.underlying35 rfl (by kernel_rfl) rfl ?_
           rw [HSO.out]
           exact ⟨_, _, _, rfl, HEND.out.1.2.2.1.below (below_drewN' (Below.refl _ _) 1), below_drewN' HEND.out.1.2.2.2.2 1⟩)
        | (rw [row3 HYR5.out, row3 (w := w5.setRow (N + 4) _) ((setRow_other _ _ _ _ (by omega)).trans HYH5.out)]
           go_wp2
           refine ret_cct (g := N + 3) (g2 := N + 4) rfl rfl rfl (t := 29) (t2 := 35) (fr := (0, 0)) (fr2 := (0, 0)) HEND.out.2.1 Try.underlying29 rfl (by kernel_rfl) HEND.out.2.2.1 Try.underlying35 rfl (by kernel_rfl) rfl ?_
           rw [HSO.out]
           exact ⟨_, _, _, rfl, HEND.out.2.2.2.1.below (below_drewN' (Below.refl _ _) 1), below_drewN' HEND.out.2.2.2.2.2 1⟩)
    · have t2' : ((storeO B L D x d).2.2 == (storeO Bx Lx Dx x d).2.2) = false := by simp [t2]
      clear t2
      go_region
      all_goals first
        | (rw [row3 HYH5.out, row3 (w := w5.setRow (N + 3) _) ((setRow_other _ _ _ _ (by omega)).trans HYR5.out)]
           go_wp2
           refine ret_cct (g := N + 3) (g2 := N + 4) rfl rfl rfl (t := 29) (t2 := 35) (fr := (0, 0)) (fr2 := (0, 0)) HEND.out.1.1 Try.underlying29 rfl (by kernel_rfl) HEND.out.1.2.1 Try.underlying35 rfl (by kernel_rfl) rfl ?_
           rw [HSO.out]
           exact ⟨_, _, _, rfl, HEND.out.1.2.2.1.below (below_drewN' (Below.refl _ _) 1), below_drewN' HEND.out.1.2.2.2.2 1⟩)
        | (rw [row3 HYR5.out, row3 (w := w5.setRow (N + 4) _) ((setRow_other _ _ _ _ (by omega)).trans HYH5.out)]
           go_wp2
           refine ret_cct (g := N + 3) (g2 := N + 4) rfl rfl rfl (t := 29) (t2 := 35) (fr := (0, 0)) (fr2 := (0, 0)) HEND.out.2.1 Try.underlying29 rfl (by kernel_rfl) HEND.out.2.2.1 Try.underlying35 rfl (by kernel_rfl) rfl ?_
           rw [HSO.out]
           exact ⟨_, _, _, rfl, HEND.out.2.2.2.1.below (below_drewN' (Below.refl _ _) 1), below_drewN' HEND.out.2.2.2.2.2 1⟩)
  · have HSO : Hid (stepO 4 x n d sh (B, L, D) = ((storeO B L D x d).1, L, (storeO B L D x d).2.1)) := rfl
    go_wp2_with (refine wpList_load_row rfl 29 _ rfl N rfl 29 #[.slice A1 nb c1, .slice A2 nk c2, .slice A3 nd c3] (0, 0) _ HX.out Try.underlying29 rfl (by kernel_rfl) ?_)
    refine (store_any x A c m 0 hi d w1 HH.out.shut HR.out HIX.out HDM.out (by omega) HAN.out HRD.out HHI.out).mono ?_
    rintro e w2 ⟨v, rfl, ⟨z1, z2, z3, rfl, hp2⟩, hb2⟩
    obtain ⟨Ya, la, ca, Yb, lb, cb, Yc, lc, cc, rfl, rfl, rfl⟩ := hp2.forms_
    have hbb2 := hb2.alloc hb2.size (.cells #[.slice Ya la ca, .slice Yb lb cb, .slice Yc lc cc] 29)
    have HON := Lib.hid hp2.ones
    have HXR2 := Lib.hid (old_below HXR.out hbb2 (row_lt HXR.out))
    have HXO2 := Lib.hid (old_below HXO.out hbb2 (row_lt HXO.out))
    have HYH2 := Lib.hid (old_below HYH.out hbb2 (row_lt HYH.out))
    have HYR2 := Lib.hid (old_below HYR.out hbb2 (row_lt HYR.out))
    have HV2 := Lib.hid (HV.out.below hbb2)
    have HP2 := Lib.hid ((hp2.alloc (.cells #[.slice Ya la ca, .slice Yb lb cb, .slice Yc lc cc] 29)).wide (Nat.zero_le _))
    have HZ2 := Lib.hid (heap_alloc_new w2 (.cells #[.slice Ya la ca, .slice Yb lb cb, .slice Yc lc cc] 29))
    have HB2 := Lib.hid (HB1.out.trans (hbb2.mono HNS.out))
    have HRD2 := Lib.hid (HRD.out.below hbb2 HHI.out)
    have HP2N : Hid (N + 4 < w2.heap.size) := row_lt (old_below HYR.out hb2 (row_lt HYR.out))
    have HSZ2 : Hid (w1.heap.size ≤ (w2.alloc (.cells #[.slice Ya la ca, .slice Yb lb cb, .slice Yc lc cc] 29)).heap.size) := hbb2.size
    clear hp2 hb2 hbb2 f0 f1 f2 f3 f4
    go_upto_region 14 with (first | refine wpList_store_new rfl 29 _ _ rfl w2 #[.slice none 0 0, .slice none 0 0, .slice none 0 0] #[.slice Ya la ca, .slice Yb lb cb, .slice Yc lc cc] rfl rfl (by kernel_rfl) rfl HON.out ?_)
    generalize w2.alloc (.cells #[.slice Ya la ca, .slice Yb lb cb, .slice Yc lc cc] 29) = w3 at HXR2 HXO2 HYH2 HYR2 HV2 HP2 HZ2 HB2 HRD2 HSZ2 ⊢
    generalize w2.heap.size = P2 at HZ2 HP2N ⊢
    obtain ⟨f0, f1, f2, f3, f4⟩ := five_cells HXO2.out
    have hcv : (convert 25 9 (.slice A m c)).run Try.prog w3 = .ok (.string ⟨d.toArray⟩) w3 := by
      have := run_text (P := Try.prog) w3 25 9 5 (l := d) c Try.underlying25 Try.underlying5 Try.underlying9 HRD2.out
      rwa [HDM.out] at this
    go_wp2_with (refine wpList_load_row rfl 35 _ rfl (N + 1) rfl 35 #[.string ⟨Bx.toArray⟩, .slice A4 nkx c4, .slice A5 ndx c5] (0, 0) _ HXR2.out Try.underlying35 rfl (by kernel_rfl) ?_)
    refine (refstore_any x d w3 HV2.out.shut HRX.out HIX.out (by rw [HDM.out]; omega)).mono ?_
    rintro e w4 ⟨v, rfl, ⟨y1, y2, y3, rfl, hp4⟩, hb4⟩
    have HON4 := Lib.hid hp4.ones
    obtain ⟨XS, Xb, kb, xb, Xc, kc, xc, rfl, rfl, rfl⟩ := hp4.forms_
    have hbb4 := hb4.alloc hb4.size (.cells #[.string XS, .slice Xb kb xb, .slice Xc kc xc] 35)
    have HYH5 := Lib.hid (old_below HYH2.out hbb4 (row_lt HYH2.out))
    have HYR5 := Lib.hid (old_below HYR2.out hbb4 (row_lt HYR2.out))
    have HP5 := Lib.hid (HP2.out.below hbb4)
    have HZ5 := Lib.hid (old_below HZ2.out hbb4 (row_lt HZ2.out))
    have HV5 := Lib.hid (hp4.alloc (.cells #[.string XS, .slice Xb kb xb, .slice Xc kc xc] 35))
    have HU5 := Lib.hid (heap_alloc_new w4 (.cells #[.string XS, .slice Xb kb xb, .slice Xc kc xc] 35))
    have HB5 := Lib.hid (HB2.out.trans (hbb4.mono (Nat.le_trans HNS.out HSZ2.out)))
    have HP4N : Hid (N + 4 < w4.heap.size) := row_lt (old_below HYR2.out hb4 (row_lt HYR2.out))
    clear hp4 hb4 hbb4 hcv f0 f1 f2 f3 f4
    go_upto_region 15 with (first | refine wpList_store_new rfl 35 _ _ rfl w4 #[.string ⟨#[]⟩, .slice none 0 0, .slice none 0 0] #[.string XS, .slice Xb kb xb, .slice Xc kc xc] rfl rfl (by kernel_rfl) rfl HON4.out ?_)
    generalize w4.alloc (.cells #[.string XS, .slice Xb kb xb, .slice Xc kc xc] 35) = w5 at HYH5 HYR5 HP5 HZ5 HV5 HU5 HB5 ⊢
    generalize w4.heap.size = P4 at HU5 HP4N ⊢
    have HEND := Lib.hid (step_end HP5.out HV5.out HYH5.out HYR5.out HB5.out)
    obtain ⟨a0, a1, a2⟩ := three_cells HZ5.out
    obtain ⟨b0, b1, b2⟩ := three_cells HU5.out
    obtain ⟨p0, p1, p2⟩ := three_cells HYH5.out
    obtain ⟨q0, q1, q2⟩ := three_cells HYR5.out
    have g0 := frozen_of_row w5 (N + 3) 0 _ _ HYH5.out
    have g1 := frozen_of_row w5 (N + 3) 1 _ _ HYH5.out
    have g2 := frozen_of_row w5 (N + 3) 2 _ _ HYH5.out
    have k0 := frozen_of_row w5 (N + 4) 0 _ _ HYR5.out
    have k1 := frozen_of_row w5 (N + 4) 1 _ _ HYR5.out
    have k2 := frozen_of_row w5 (N + 4) 2 _ _ HYR5.out
    have d1 : ¬ N + 1 + 1 + 1 = P2 := by have := HP2N.out; omega
    have d2 : ¬ N + 1 + 1 + 1 = P4 := by have := HP4N.out; omega
    have d3 : ¬ N + 1 + 1 + 1 + 1 = P2 := by have := HP2N.out; omega
    have d4 : ¬ N + 1 + 1 + 1 + 1 = P4 := by have := HP4N.out; omega
    have d5 : ¬ P2 = N + 1 + 1 + 1 := by have := HP2N.out; omega
    have d6 : ¬ P4 = N + 1 + 1 + 1 := by have := HP4N.out; omega
    have d7 : ¬ P2 = N + 1 + 1 + 1 + 1 := by have := HP2N.out; omega
    have d8 : ¬ P4 = N + 1 + 1 + 1 + 1 := by have := HP4N.out; omega
    by_cases t2 : (storeO B L D x d).2.2 = (storeO Bx Lx Dx x d).2.2
    · have t2' : ((storeO B L D x d).2.2 == (storeO Bx Lx Dx x d).2.2) = true := by simp [t2]
      clear t2
      go_region
      all_goals first
        | (rw [row3 HYH5.out, row3 (w := w5.setRow (N + 3) _) ((setRow_other _ _ _ _ (by omega)).trans HYR5.out)]
           go_wp2
           refine ret_cct (g := N + 3) (g2 := N + 4) rfl rfl rfl (t := 29) (t2 := 35) (fr := (0, 0)) (fr2 := (0, 0)) HEND.out.1.1 Try.underlying29 rfl (by kernel_rfl) HEND.out.1.2.1 Try.underlying35 rfl (by kernel_rfl) rfl ?_
           rw [HSO.out]
           exact ⟨_, _, _, rfl, HEND.out.1.2.2.1.below (below_drewN' (Below.refl _ _) 1), below_drewN' HEND.out.1.2.2.2.2 1⟩)
        | (rw [row3 HYR5.out, row3 (w := w5.setRow (N + 4) _) ((setRow_other _ _ _ _ (by omega)).trans HYH5.out)]
           go_wp2
           refine ret_cct (g := N + 3) (g2 := N + 4) rfl rfl rfl (t := 29) (t2 := 35) (fr := (0, 0)) (fr2 := (0, 0)) HEND.out.2.1 Try.underlying29 rfl (by kernel_rfl) HEND.out.2.2.1 Try.underlying35 rfl (by kernel_rfl) rfl ?_
           rw [HSO.out]
           exact ⟨_, _, _, rfl, HEND.out.2.2.2.1.below (below_drewN' (Below.refl _ _) 1), below_drewN' HEND.out.2.2.2.2.2 1⟩)
    · have t2' : ((storeO B L D x d).2.2 == (storeO Bx Lx Dx x d).2.2) = false := by simp [t2]
      clear t2
      go_region
      all_goals first
        | (rw [row3 HYH5.out, row3 (w := w5.setRow (N + 3) _) ((setRow_other _ _ _ _ (by omega)).trans HYR5.out)]
           go_wp2
           refine ret_cct (g := N + 3) (g2 := N + 4) rfl rfl rfl (t := 29) (t2 := 35) (fr := (0, 0)) (fr2 := (0, 0)) HEND.out.1.1 Try.underlying29 rfl (by kernel_rfl) HEND.out.1.2.1 Try.underlying35 rfl (by kernel_rfl) rfl ?_
           rw [HSO.out]
           exact ⟨_, _, _, rfl, HEND.out.1.2.2.1.below (below_drewN' (Below.refl _ _) 1), below_drewN' HEND.out.1.2.2.2.2 1⟩)
        | (rw [row3 HYR5.out, row3 (w := w5.setRow (N + 4) _) ((setRow_other _ _ _ _ (by omega)).trans HYH5.out)]
           go_wp2
           refine ret_cct (g := N + 3) (g2 := N + 4) rfl rfl rfl (t := 29) (t2 := 35) (fr := (0, 0)) (fr2 := (0, 0)) HEND.out.2.1 Try.underlying29 rfl (by kernel_rfl) HEND.out.2.2.1 Try.underlying35 rfl (by kernel_rfl) rfl ?_
           rw [HSO.out]
           exact ⟨_, _, _, rfl, HEND.out.2.2.2.1.below (below_drewN' (Below.refl _ _) 1), below_drewN' HEND.out.2.2.2.2.2 1⟩)
end Go.Proofs.Ytagajijjcjfopaa
