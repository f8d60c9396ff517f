/-
  The code's Measure of clocks. Every clock that is right, every time.
-/
import Derived.Test.YtafpnmmkaanjaaaRca
import Derived.Deep.RegionWith
namespace Go.Proofs.Ytafpnmmkaanjaaa
open Go.RowKit

set_option maxRecDepth 100000 in
set_option maxHeartbeats 8000000 in
theorem meas_any (c : Ck) (t : Nat) (w : World) (h : rightX c = true) (ht : t < 18446744073709551616) :
    Calls Try.prog 10 #[.agg (ckA c), .int .u64 (t : Int)] w fun e w' => e = .returned (.agg (ckA (measX c t))) ∧ Below w.heap.size w w' := by
  have hr := right_iff.1 h
  obtain ⟨s, d, v⟩ := c
  simp only at hr
  have HM : Hid (measX ⟨s, d, v⟩ t = ⟨smoothX ⟨s, d, v⟩ (lidX t), spreadX ⟨s, d, v⟩ (lidX t), waitX (smoothX ⟨s, d, v⟩ (lidX t)) (spreadX ⟨s, d, v⟩ (lidX t))⟩) := rfl
  obtain ⟨M, hM⟩ : ∃ M, measX ⟨s, d, v⟩ t = M := ⟨_, rfl⟩
  rw [hM] at HM ⊢
  have HCK : Hid (∀ c : Ck, ckA c = #[.int .i64 c.s, .int .i64 c.d, .int .i64 c.w]) := fun _ => rfl
  have hck := HCK.out ⟨s, d, v⟩
  simp only at hck
  rw [hck]
  clear hck hM h
  obtain ⟨w1, hw1⟩ : ∃ w1, (w.alloc (.cells #[.int .i64 s, .int .i64 d, .int .i64 v] 23)).alloc (.cells #[.int .i64 0, .int .i64 0, .int .i64 0] 23) = w1 := ⟨_, rfl⟩
  have HB1 : Hid (Below w.heap.size w w1) := by rw [← hw1]; exact ((Below.refl _ _).alloc (Nat.le_refl _) _).alloc (by simp) _
  have HX0 : Hid (w1.heap[w.heap.size]? = some (.cells #[.int .i64 s, .int .i64 d, .int .i64 v] 23 (0, 0))) := by rw [← hw1]; exact old_alloc (heap_alloc_new w _) _
  have HX1 : Hid (w1.heap[w.heap.size + 1]? = some (.cells #[.int .i64 0, .int .i64 0, .int .i64 0] 23 (0, 0))) := by rw [← hw1]; exact new_at1 w _ _
  have HW := Lib.hid hw1
  clear hw1
  obtain ⟨g, hg⟩ : ∃ g, w.heap.size + 1 = g := ⟨_, rfl⟩
  rw [hg] at HX1
  have HG := Lib.hid hg
  clear hg
  obtain ⟨hv1, hv2, hsd⟩ := hr
  have HSD := Lib.hid hsd
  clear hsd
  go_enter Try.func10, Try.ntmps10
  go_upto_region 1 with (fail)
  change Code.wp _ _ _ _ ((w.alloc (.cells #[.int .i64 s, .int .i64 d, .int .i64 v] 23)).alloc (.cells #[.int .i64 0, .int .i64 0, .int .i64 0] 23))
  rw [HW.out, HG.out]
  clear HW
  go_cut [5] (fun t5 wx => Hid (t5 = .int .i64 (lidX t)) ∧ Hid (w1 = wx))
  case first =>
    rcases Nat.lt_trichotomy t 240 with h240 | h240 | h240
    · have hld : lidX t = (t : Int) := if_pos h240
      have h240b : (t : Int) < 240 := by omega
      have HLD := Lib.hid hld
      clear hld
      go_wp2
      go_meet
      case rel => exact ⟨Lib.hid (by rw [HLD.out]), Lib.hid rfl⟩
    · have hld : lidX t = 240 := if_neg (by omega)
      have h240b : (t : Int) = 240 := by omega
      have HLD := Lib.hid hld
      clear hld
      go_wp2
      go_meet
      case rel => exact ⟨Lib.hid (by rw [HLD.out]), Lib.hid rfl⟩
    · have hld : lidX t = 240 := if_neg (by omega)
      have h240b : (240 : Int) < (t : Int) := by omega
      have HLD := Lib.hid hld
      clear hld
      go_wp2
      go_meet
      case rel => exact ⟨Lib.hid (by rw [HLD.out]), Lib.hid rfl⟩
  obtain ⟨h5, hx⟩ := hcut
  obtain ⟨hr0, hr1⟩ := lid_in t
  obtain ⟨r, hr⟩ : ∃ r, lidX t = r := ⟨_, rfl⟩
  rw [hr] at h5 HM hr0 hr1
  obtain rfl := h5.out
  obtain rfl := hx.out
  clear h5 hx hr ht
  rcases HSD.out with ⟨rfl, rfl⟩ | ⟨hs0, hs1, hd0, hd1⟩
  · rcases Int.lt_trichotomy r 0 with hp | rfl | hp
    · exfalso
      omega
    · clear hr0 hr1
      have Q1 : Hid (smoothX ⟨-1, -1, v⟩ 0 = 0) := if_neg (show ¬ (0 : Int) ≤ -1 by decide)
      have Q2 : Hid (spreadX ⟨-1, -1, v⟩ 0 = 0) := if_neg (show ¬ (0 : Int) ≤ -1 by decide)
      have Q3 : Hid (waitX 0 0 = boundX 1) := by
        show _ = _
        unfold waitX
        rw [if_pos (by omega)]
        rfl
      obtain ⟨a0, a1, a2⟩ := three_cells HX0.out
      have f0 := frozen_of_row w1 w.heap.size 0 _ _ HX0.out
      have f1 := frozen_of_row w1 w.heap.size 1 _ _ HX0.out
      go_upto_region 7 with (fail)
      rw [put0 HX0.out]
      have HU0 := Lib.hid (setRow_heap _ _ _ #[.int .i64 0, .int .i64 (-1), .int .i64 v] _ _ HX0.out)
      have HU1 := Lib.hid ((setRow_other w1 w.heap.size g #[.int .i64 0, .int .i64 (-1), .int .i64 v] (show g ≠ w.heap.size by have := HG.out; omega)).trans HX1.out)
      have HB2 := Lib.hid (below_setRow HB1.out (Nat.le_refl _) #[.int .i64 0, .int .i64 (-1), .int .i64 v])
      generalize w1.setRow w.heap.size #[.int .i64 0, .int .i64 (-1), .int .i64 v] = w2 at *
      rw [put1 HU0.out]
      have HV0 := Lib.hid (setRow_heap _ _ _ #[.int .i64 0, .int .i64 0, .int .i64 v] _ _ HU0.out)
      have HV1 := Lib.hid ((setRow_other w2 w.heap.size g #[.int .i64 0, .int .i64 0, .int .i64 v] (show g ≠ w.heap.size by have := HG.out; omega)).trans HU1.out)
      have HB3 := Lib.hid (below_setRow HB2.out (Nat.le_refl _) #[.int .i64 0, .int .i64 0, .int .i64 v])
      generalize w2.setRow w.heap.size #[.int .i64 0, .int .i64 0, .int .i64 v] = w3 at *
      clear a0 a1 a2 f0 f1
      obtain ⟨e0, e1, e2⟩ := three_cells HV0.out
      go_wp2_with fail
      refine (bounded_any 1 _).mono ?_
      rintro e w8 ⟨rfl, hb8⟩
      have HY0 := Lib.hid (old_below HV0.out hb8 (row_lt HV0.out))
      have HY1 := Lib.hid (old_below HV1.out hb8 (row_lt HV1.out))
      have HB8 := Lib.hid (HB3.out.trans (hb8.mono HB3.out.size))
      clear e0 e1 e2 hb8
      obtain ⟨b0, b1, b2⟩ := three_cells HY0.out
      have hfz := frozen_of_row w8 w.heap.size 2 _ _ HY0.out
      go_upto_region 8 with (fail)
      rw [put2 HY0.out]
      have HZ0 := Lib.hid (setRow_heap _ _ _ #[.int .i64 0, .int .i64 0, .int .i64 (boundX 1)] _ _ HY0.out)
      have HZ1 := Lib.hid ((setRow_other w8 w.heap.size g #[.int .i64 0, .int .i64 0, .int .i64 (boundX 1)] (show g ≠ w.heap.size by have := HG.out; omega)).trans HY1.out)
      have HB9 := Lib.hid (below_setRow HB8.out (Nat.le_refl _) #[.int .i64 0, .int .i64 0, .int .i64 (boundX 1)])
      generalize w8.setRow w.heap.size #[.int .i64 0, .int .i64 0, .int .i64 (boundX 1)] = w9 at *
      clear b0 b1 b2 hfz
      go_wp2_with (first | (refine wpList_load_row rfl 23 _ rfl w.heap.size rfl 23 _ _ _ HZ0.out Try.underlying23 rfl (by kernel_rfl) ?_) | (refine wpList_store_row rfl 23 _ _ rfl g _ rfl rfl 23 #[.int .i64 0, .int .i64 0, .int .i64 0] HZ1.out (by kernel_rfl) rfl (by simp [Value.oneCell']) ?_))
      refine ret_one (g := g) rfl rfl (setRow_heap _ _ _ _ _ _ HZ1.out) Try.underlying23 rfl (by kernel_rfl) rfl ?_
      refine ⟨?_, below_setRow HB9.out (by have := HG.out; omega) _⟩
      rw [HCK.out M, HM.out]
      dsimp only
      rw [Q1.out, Q2.out, Q3.out]
    · have hp2 : ¬ 2 * r < 1 := by omega
      have hp3 : 1 < 2 * r := by omega
      have Q1 : Hid (smoothX ⟨-1, -1, v⟩ r = (8 * r)) := if_neg (show ¬ (0 : Int) ≤ -1 by decide)
      have Q2 : Hid (spreadX ⟨-1, -1, v⟩ r = (2 * r)) := if_neg (show ¬ (0 : Int) ≤ -1 by decide)
      have Q3 : Hid (waitX (8 * r) (2 * r) = boundX (r + 2 * r)) := by
        show _ = _
        unfold waitX
        rw [if_neg (by omega)]
        rw [show 8 * r / 8 = r from by omega]
      obtain ⟨a0, a1, a2⟩ := three_cells HX0.out
      have f0 := frozen_of_row w1 w.heap.size 0 _ _ HX0.out
      have f1 := frozen_of_row w1 w.heap.size 1 _ _ HX0.out
      go_upto_region 7 with (fail)
      rw [show 4 * r / 2 = 2 * r from by omega]
      rw [put0 HX0.out]
      have HU0 := Lib.hid (setRow_heap _ _ _ #[.int .i64 (8 * r), .int .i64 (-1), .int .i64 v] _ _ HX0.out)
      have HU1 := Lib.hid ((setRow_other w1 w.heap.size g #[.int .i64 (8 * r), .int .i64 (-1), .int .i64 v] (show g ≠ w.heap.size by have := HG.out; omega)).trans HX1.out)
      have HB2 := Lib.hid (below_setRow HB1.out (Nat.le_refl _) #[.int .i64 (8 * r), .int .i64 (-1), .int .i64 v])
      generalize w1.setRow w.heap.size #[.int .i64 (8 * r), .int .i64 (-1), .int .i64 v] = w2 at *
      rw [put1 HU0.out]
      have HV0 := Lib.hid (setRow_heap _ _ _ #[.int .i64 (8 * r), .int .i64 (2 * r), .int .i64 v] _ _ HU0.out)
      have HV1 := Lib.hid ((setRow_other w2 w.heap.size g #[.int .i64 (8 * r), .int .i64 (2 * r), .int .i64 v] (show g ≠ w.heap.size by have := HG.out; omega)).trans HU1.out)
      have HB3 := Lib.hid (below_setRow HB2.out (Nat.le_refl _) #[.int .i64 (8 * r), .int .i64 (2 * r), .int .i64 v])
      generalize w2.setRow w.heap.size #[.int .i64 (8 * r), .int .i64 (2 * r), .int .i64 v] = w3 at *
      clear a0 a1 a2 f0 f1
      obtain ⟨e0, e1, e2⟩ := three_cells HV0.out
      go_wp2_with fail
      refine (bounded_any (r + 2 * r) _).mono ?_
      rintro e w8 ⟨rfl, hb8⟩
      have HY0 := Lib.hid (old_below HV0.out hb8 (row_lt HV0.out))
      have HY1 := Lib.hid (old_below HV1.out hb8 (row_lt HV1.out))
      have HB8 := Lib.hid (HB3.out.trans (hb8.mono HB3.out.size))
      clear e0 e1 e2 hb8
      obtain ⟨b0, b1, b2⟩ := three_cells HY0.out
      have hfz := frozen_of_row w8 w.heap.size 2 _ _ HY0.out
      go_upto_region 8 with (fail)
      rw [put2 HY0.out]
      have HZ0 := Lib.hid (setRow_heap _ _ _ #[.int .i64 (8 * r), .int .i64 (2 * r), .int .i64 (boundX (r + 2 * r))] _ _ HY0.out)
      have HZ1 := Lib.hid ((setRow_other w8 w.heap.size g #[.int .i64 (8 * r), .int .i64 (2 * r), .int .i64 (boundX (r + 2 * r))] (show g ≠ w.heap.size by have := HG.out; omega)).trans HY1.out)
      have HB9 := Lib.hid (below_setRow HB8.out (Nat.le_refl _) #[.int .i64 (8 * r), .int .i64 (2 * r), .int .i64 (boundX (r + 2 * r))])
      generalize w8.setRow w.heap.size #[.int .i64 (8 * r), .int .i64 (2 * r), .int .i64 (boundX (r + 2 * r))] = w9 at *
      clear b0 b1 b2 hfz
      go_wp2_with (first | (refine wpList_load_row rfl 23 _ rfl w.heap.size rfl 23 _ _ _ HZ0.out Try.underlying23 rfl (by kernel_rfl) ?_) | (refine wpList_store_row rfl 23 _ _ rfl g _ rfl rfl 23 #[.int .i64 0, .int .i64 0, .int .i64 0] HZ1.out (by kernel_rfl) rfl (by simp [Value.oneCell']) ?_))
      refine ret_one (g := g) rfl rfl (setRow_heap _ _ _ _ _ _ HZ1.out) Try.underlying23 rfl (by kernel_rfl) rfl ?_
      refine ⟨?_, below_setRow HB9.out (by have := HG.out; omega) _⟩
      rw [HCK.out M, HM.out]
      dsimp only
      rw [Q1.out, Q2.out, Q3.out]
  · have hsn : ¬ s < 0 := by omega
    obtain ⟨AP, hap⟩ : ∃ AP, apartX (s / 8 - r) = AP := ⟨_, rfl⟩
    have hap0 : 0 ≤ AP ∧ AP ≤ 240 := by rw [← hap]; unfold apartX; split <;> omega
    have HAP := Lib.hid hap
    have HAC : Hid (∀ w, Calls Try.prog 16 #[.int .i64 (s / 8), .int .i64 r] w fun e w' => e = .returned (.int .i64 AP) ∧ Below w.heap.size w w') := fun w => by
      have := codeapart_any (s / 8) r w (by unfold I64; omega) (by unfold I64; omega)
      rwa [hap] at this
    clear hap
    obtain ⟨hap0, hap1⟩ := hap0
    obtain ⟨E, hE⟩ : ∃ E, d + (AP - d / 4) = E := ⟨_, rfl⟩
    rcases Int.lt_trichotomy E 1 with hsp | rfl | hsp
    · have Q1 : Hid (smoothX ⟨s, d, v⟩ r = (s + (r - s / 8))) := by
        show _ = _
        unfold smoothX
        rw [if_pos hs0]
        dsimp only
        omega
      have Q2 : Hid (spreadX ⟨s, d, v⟩ r = E) := by
        show _ = _
        unfold spreadX
        rw [if_pos hs0, HAP.out]
        dsimp only
        omega
      have Q3 : Hid (waitX (s + (r - s / 8)) E = boundX ((s + (r - s / 8)) / 8 + 1)) := by
        show _ = _
        unfold waitX
        rw [if_pos (by omega)]
      obtain ⟨a0, a1, a2⟩ := three_cells HX0.out
      have f1 := frozen_of_row w1 w.heap.size 1 _ _ HX0.out
      have q1 : IntKind.i64.wrap (d.tdiv 4) = d / 4 := by rw [Int.tdiv_eq_ediv_of_nonneg hd0]; exact IntWalk.i64_in _ ⟨by omega, by omega⟩
      have q2 : IntKind.i64.wrap (AP - d / 4) = AP - d / 4 := IntWalk.i64_in _ ⟨by omega, by omega⟩
      have q3 : IntKind.i64.wrap (d + (AP - d / 4)) = E := by rw [hE]; exact IntWalk.i64_in _ ⟨by omega, by omega⟩
      have hE1 : -1000 < E := by omega
      have hE2 : E < 3000 := by omega
      clear hE
      clear hap0 hap1 HAP
      go_upto_region 5 with (fail)
      go_cut [] (fun wx => Hid (wx.heap[w.heap.size]? = some (.cells #[.int .i64 s, .int .i64 E, .int .i64 v] 23 (0, 0))) ∧ Hid (wx.heap[g]? = some (.cells #[.int .i64 0, .int .i64 0, .int .i64 0] 23 (0, 0))) ∧ Hid (Below w.heap.size w wx))
      case first =>
        go_region_with (go_at_call 16; refine (HAC.out _).mono ?_; rintro e w2 ⟨rfl, hb9⟩; have hb2 : Below w1.heap.size w1 w2 := (below_drewN' (Below.refl _ _) 1).trans (hb9.mono (Nat.le_refl _)); have HU0 := Lib.hid (old_below HX0.out hb2 (row_lt HX0.out)); have HU1 := Lib.hid (old_below HX1.out hb2 (row_lt HX1.out)); have HB2 := Lib.hid (HB1.out.trans (hb2.mono HB1.out.size)); obtain ⟨u0, u1, u2⟩ := three_cells HU0.out; have f2 := frozen_of_row w2 w.heap.size 1 _ _ HU0.out)
        all_goals (rw [put1 HU0.out]; go_wp2; go_meet; case rel => exact ⟨Lib.hid (setRow_heap _ _ _ #[.int .i64 s, .int .i64 E, .int .i64 v] _ _ HU0.out), Lib.hid ((setRow_other w2 w.heap.size g #[.int .i64 s, .int .i64 E, .int .i64 v] (show g ≠ w.heap.size by have := HG.out; omega)).trans HU1.out), Lib.hid (below_setRow HB2.out (Nat.le_refl _) #[.int .i64 s, .int .i64 E, .int .i64 v])⟩)
      case rest =>
        clear q1 q2 q3
        obtain ⟨HV0, HV1, HB3⟩ := hcut
        obtain ⟨c0, c1, c2⟩ := three_cells HV0.out
        have f3 := frozen_of_row wc w.heap.size 0 _ _ HV0.out
        go_upto_region 7 with (fail)
        rw [put0 HV0.out]
        have HR0 := Lib.hid (setRow_heap _ _ _ #[.int .i64 (s + (r - s / 8)), .int .i64 E, .int .i64 v] _ _ HV0.out)
        have HR1 := Lib.hid ((setRow_other wc w.heap.size g #[.int .i64 (s + (r - s / 8)), .int .i64 E, .int .i64 v] (show g ≠ w.heap.size by have := HG.out; omega)).trans HV1.out)
        have HB4 := Lib.hid (below_setRow HB3.out (Nat.le_refl _) #[.int .i64 (s + (r - s / 8)), .int .i64 E, .int .i64 v])
        generalize wc.setRow w.heap.size #[.int .i64 (s + (r - s / 8)), .int .i64 E, .int .i64 v] = w4 at *
        clear c0 c1 c2 f3
        obtain ⟨e0, e1, e2⟩ := three_cells HR0.out
        go_wp2_with fail
        refine (bounded_any ((s + (r - s / 8)) / 8 + 1) _).mono ?_
        rintro e w8 ⟨rfl, hb8⟩
        have HY0 := Lib.hid (old_below HR0.out hb8 (row_lt HR0.out))
        have HY1 := Lib.hid (old_below HR1.out hb8 (row_lt HR1.out))
        have HB8 := Lib.hid (HB4.out.trans (hb8.mono HB4.out.size))
        clear e0 e1 e2 hb8
        obtain ⟨b0, b1, b2⟩ := three_cells HY0.out
        have hfz := frozen_of_row w8 w.heap.size 2 _ _ HY0.out
        go_upto_region 8 with (fail)
        rw [put2 HY0.out]
        have HZ0 := Lib.hid (setRow_heap _ _ _ #[.int .i64 (s + (r - s / 8)), .int .i64 E, .int .i64 (boundX ((s + (r - s / 8)) / 8 + 1))] _ _ HY0.out)
        have HZ1 := Lib.hid ((setRow_other w8 w.heap.size g #[.int .i64 (s + (r - s / 8)), .int .i64 E, .int .i64 (boundX ((s + (r - s / 8)) / 8 + 1))] (show g ≠ w.heap.size by have := HG.out; omega)).trans HY1.out)
        have HB9 := Lib.hid (below_setRow HB8.out (Nat.le_refl _) #[.int .i64 (s + (r - s / 8)), .int .i64 E, .int .i64 (boundX ((s + (r - s / 8)) / 8 + 1))])
        generalize w8.setRow w.heap.size #[.int .i64 (s + (r - s / 8)), .int .i64 E, .int .i64 (boundX ((s + (r - s / 8)) / 8 + 1))] = w9 at *
        clear b0 b1 b2 hfz
        go_wp2_with (first | (refine wpList_load_row rfl 23 _ rfl w.heap.size rfl 23 _ _ _ HZ0.out Try.underlying23 rfl (by kernel_rfl) ?_) | (refine wpList_store_row rfl 23 _ _ rfl g _ rfl rfl 23 #[.int .i64 0, .int .i64 0, .int .i64 0] HZ1.out (by kernel_rfl) rfl (by simp [Value.oneCell']) ?_))
        refine ret_one (g := g) rfl rfl (setRow_heap _ _ _ _ _ _ HZ1.out) Try.underlying23 rfl (by kernel_rfl) rfl ?_
        refine ⟨?_, below_setRow HB9.out (by have := HG.out; omega) _⟩
        rw [HCK.out M, HM.out]
        dsimp only
        rw [Q1.out, Q2.out, Q3.out]
    · have Q1 : Hid (smoothX ⟨s, d, v⟩ r = (s + (r - s / 8))) := by
        show _ = _
        unfold smoothX
        rw [if_pos hs0]
        dsimp only
        omega
      have Q2 : Hid (spreadX ⟨s, d, v⟩ r = 1) := by
        show _ = _
        unfold spreadX
        rw [if_pos hs0, HAP.out]
        dsimp only
        omega
      have Q3 : Hid (waitX (s + (r - s / 8)) 1 = boundX ((s + (r - s / 8)) / 8 + 1)) := by
        show _ = _
        unfold waitX
        rw [if_neg (by omega)]
      obtain ⟨a0, a1, a2⟩ := three_cells HX0.out
      have f1 := frozen_of_row w1 w.heap.size 1 _ _ HX0.out
      have q1 : IntKind.i64.wrap (d.tdiv 4) = d / 4 := by rw [Int.tdiv_eq_ediv_of_nonneg hd0]; exact IntWalk.i64_in _ ⟨by omega, by omega⟩
      have q2 : IntKind.i64.wrap (AP - d / 4) = AP - d / 4 := IntWalk.i64_in _ ⟨by omega, by omega⟩
      have q3 : IntKind.i64.wrap (d + (AP - d / 4)) = 1 := by rw [hE]; exact IntWalk.i64_in _ ⟨by omega, by omega⟩


      clear hE
      clear hap0 hap1 HAP
      go_upto_region 5 with (fail)
      go_cut [] (fun wx => Hid (wx.heap[w.heap.size]? = some (.cells #[.int .i64 s, .int .i64 1, .int .i64 v] 23 (0, 0))) ∧ Hid (wx.heap[g]? = some (.cells #[.int .i64 0, .int .i64 0, .int .i64 0] 23 (0, 0))) ∧ Hid (Below w.heap.size w wx))
      case first =>
        go_region_with (go_at_call 16; refine (HAC.out _).mono ?_; rintro e w2 ⟨rfl, hb9⟩; have hb2 : Below w1.heap.size w1 w2 := (below_drewN' (Below.refl _ _) 1).trans (hb9.mono (Nat.le_refl _)); have HU0 := Lib.hid (old_below HX0.out hb2 (row_lt HX0.out)); have HU1 := Lib.hid (old_below HX1.out hb2 (row_lt HX1.out)); have HB2 := Lib.hid (HB1.out.trans (hb2.mono HB1.out.size)); obtain ⟨u0, u1, u2⟩ := three_cells HU0.out; have f2 := frozen_of_row w2 w.heap.size 1 _ _ HU0.out)
        all_goals (rw [put1 HU0.out]; go_wp2; go_meet; case rel => exact ⟨Lib.hid (setRow_heap _ _ _ #[.int .i64 s, .int .i64 1, .int .i64 v] _ _ HU0.out), Lib.hid ((setRow_other w2 w.heap.size g #[.int .i64 s, .int .i64 1, .int .i64 v] (show g ≠ w.heap.size by have := HG.out; omega)).trans HU1.out), Lib.hid (below_setRow HB2.out (Nat.le_refl _) #[.int .i64 s, .int .i64 1, .int .i64 v])⟩)
      case rest =>
        clear q1 q2 q3
        obtain ⟨HV0, HV1, HB3⟩ := hcut
        obtain ⟨c0, c1, c2⟩ := three_cells HV0.out
        have f3 := frozen_of_row wc w.heap.size 0 _ _ HV0.out
        go_upto_region 7 with (fail)
        rw [put0 HV0.out]
        have HR0 := Lib.hid (setRow_heap _ _ _ #[.int .i64 (s + (r - s / 8)), .int .i64 1, .int .i64 v] _ _ HV0.out)
        have HR1 := Lib.hid ((setRow_other wc w.heap.size g #[.int .i64 (s + (r - s / 8)), .int .i64 1, .int .i64 v] (show g ≠ w.heap.size by have := HG.out; omega)).trans HV1.out)
        have HB4 := Lib.hid (below_setRow HB3.out (Nat.le_refl _) #[.int .i64 (s + (r - s / 8)), .int .i64 1, .int .i64 v])
        generalize wc.setRow w.heap.size #[.int .i64 (s + (r - s / 8)), .int .i64 1, .int .i64 v] = w4 at *
        clear c0 c1 c2 f3
        obtain ⟨e0, e1, e2⟩ := three_cells HR0.out
        go_wp2_with fail
        refine (bounded_any ((s + (r - s / 8)) / 8 + 1) _).mono ?_
        rintro e w8 ⟨rfl, hb8⟩
        have HY0 := Lib.hid (old_below HR0.out hb8 (row_lt HR0.out))
        have HY1 := Lib.hid (old_below HR1.out hb8 (row_lt HR1.out))
        have HB8 := Lib.hid (HB4.out.trans (hb8.mono HB4.out.size))
        clear e0 e1 e2 hb8
        obtain ⟨b0, b1, b2⟩ := three_cells HY0.out
        have hfz := frozen_of_row w8 w.heap.size 2 _ _ HY0.out
        go_upto_region 8 with (fail)
        rw [put2 HY0.out]
        have HZ0 := Lib.hid (setRow_heap _ _ _ #[.int .i64 (s + (r - s / 8)), .int .i64 1, .int .i64 (boundX ((s + (r - s / 8)) / 8 + 1))] _ _ HY0.out)
        have HZ1 := Lib.hid ((setRow_other w8 w.heap.size g #[.int .i64 (s + (r - s / 8)), .int .i64 1, .int .i64 (boundX ((s + (r - s / 8)) / 8 + 1))] (show g ≠ w.heap.size by have := HG.out; omega)).trans HY1.out)
        have HB9 := Lib.hid (below_setRow HB8.out (Nat.le_refl _) #[.int .i64 (s + (r - s / 8)), .int .i64 1, .int .i64 (boundX ((s + (r - s / 8)) / 8 + 1))])
        generalize w8.setRow w.heap.size #[.int .i64 (s + (r - s / 8)), .int .i64 1, .int .i64 (boundX ((s + (r - s / 8)) / 8 + 1))] = w9 at *
        clear b0 b1 b2 hfz
        go_wp2_with (first | (refine wpList_load_row rfl 23 _ rfl w.heap.size rfl 23 _ _ _ HZ0.out Try.underlying23 rfl (by kernel_rfl) ?_) | (refine wpList_store_row rfl 23 _ _ rfl g _ rfl rfl 23 #[.int .i64 0, .int .i64 0, .int .i64 0] HZ1.out (by kernel_rfl) rfl (by simp [Value.oneCell']) ?_))
        refine ret_one (g := g) rfl rfl (setRow_heap _ _ _ _ _ _ HZ1.out) Try.underlying23 rfl (by kernel_rfl) rfl ?_
        refine ⟨?_, below_setRow HB9.out (by have := HG.out; omega) _⟩
        rw [HCK.out M, HM.out]
        dsimp only
        rw [Q1.out, Q2.out, Q3.out]
    · have hsp1 : ¬ E < 1 := by omega
      have Q1 : Hid (smoothX ⟨s, d, v⟩ r = (s + (r - s / 8))) := by
        show _ = _
        unfold smoothX
        rw [if_pos hs0]
        dsimp only
        omega
      have Q2 : Hid (spreadX ⟨s, d, v⟩ r = E) := by
        show _ = _
        unfold spreadX
        rw [if_pos hs0, HAP.out]
        dsimp only
        omega
      have Q3 : Hid (waitX (s + (r - s / 8)) E = boundX ((s + (r - s / 8)) / 8 + E)) := by
        show _ = _
        unfold waitX
        rw [if_neg (by omega)]
      obtain ⟨a0, a1, a2⟩ := three_cells HX0.out
      have f1 := frozen_of_row w1 w.heap.size 1 _ _ HX0.out
      have q1 : IntKind.i64.wrap (d.tdiv 4) = d / 4 := by rw [Int.tdiv_eq_ediv_of_nonneg hd0]; exact IntWalk.i64_in _ ⟨by omega, by omega⟩
      have q2 : IntKind.i64.wrap (AP - d / 4) = AP - d / 4 := IntWalk.i64_in _ ⟨by omega, by omega⟩
      have q3 : IntKind.i64.wrap (d + (AP - d / 4)) = E := by rw [hE]; exact IntWalk.i64_in _ ⟨by omega, by omega⟩
      have hE1 : -1000 < E := by omega
      have hE2 : E < 3000 := by omega
      clear hE
      clear hap0 hap1 HAP
      go_upto_region 5 with (fail)
      go_cut [] (fun wx => Hid (wx.heap[w.heap.size]? = some (.cells #[.int .i64 s, .int .i64 E, .int .i64 v] 23 (0, 0))) ∧ Hid (wx.heap[g]? = some (.cells #[.int .i64 0, .int .i64 0, .int .i64 0] 23 (0, 0))) ∧ Hid (Below w.heap.size w wx))
      case first =>
        go_region_with (go_at_call 16; refine (HAC.out _).mono ?_; rintro e w2 ⟨rfl, hb9⟩; have hb2 : Below w1.heap.size w1 w2 := (below_drewN' (Below.refl _ _) 1).trans (hb9.mono (Nat.le_refl _)); have HU0 := Lib.hid (old_below HX0.out hb2 (row_lt HX0.out)); have HU1 := Lib.hid (old_below HX1.out hb2 (row_lt HX1.out)); have HB2 := Lib.hid (HB1.out.trans (hb2.mono HB1.out.size)); obtain ⟨u0, u1, u2⟩ := three_cells HU0.out; have f2 := frozen_of_row w2 w.heap.size 1 _ _ HU0.out)
        all_goals (rw [put1 HU0.out]; go_wp2; go_meet; case rel => exact ⟨Lib.hid (setRow_heap _ _ _ #[.int .i64 s, .int .i64 E, .int .i64 v] _ _ HU0.out), Lib.hid ((setRow_other w2 w.heap.size g #[.int .i64 s, .int .i64 E, .int .i64 v] (show g ≠ w.heap.size by have := HG.out; omega)).trans HU1.out), Lib.hid (below_setRow HB2.out (Nat.le_refl _) #[.int .i64 s, .int .i64 E, .int .i64 v])⟩)
      case rest =>
        clear q1 q2 q3
        obtain ⟨HV0, HV1, HB3⟩ := hcut
        obtain ⟨c0, c1, c2⟩ := three_cells HV0.out
        have f3 := frozen_of_row wc w.heap.size 0 _ _ HV0.out
        go_upto_region 7 with (fail)
        rw [put0 HV0.out]
        have HR0 := Lib.hid (setRow_heap _ _ _ #[.int .i64 (s + (r - s / 8)), .int .i64 E, .int .i64 v] _ _ HV0.out)
        have HR1 := Lib.hid ((setRow_other wc w.heap.size g #[.int .i64 (s + (r - s / 8)), .int .i64 E, .int .i64 v] (show g ≠ w.heap.size by have := HG.out; omega)).trans HV1.out)
        have HB4 := Lib.hid (below_setRow HB3.out (Nat.le_refl _) #[.int .i64 (s + (r - s / 8)), .int .i64 E, .int .i64 v])
        generalize wc.setRow w.heap.size #[.int .i64 (s + (r - s / 8)), .int .i64 E, .int .i64 v] = w4 at *
        clear c0 c1 c2 f3
        obtain ⟨e0, e1, e2⟩ := three_cells HR0.out
        go_wp2_with fail
        refine (bounded_any ((s + (r - s / 8)) / 8 + E) _).mono ?_
        rintro e w8 ⟨rfl, hb8⟩
        have HY0 := Lib.hid (old_below HR0.out hb8 (row_lt HR0.out))
        have HY1 := Lib.hid (old_below HR1.out hb8 (row_lt HR1.out))
        have HB8 := Lib.hid (HB4.out.trans (hb8.mono HB4.out.size))
        clear e0 e1 e2 hb8
        obtain ⟨b0, b1, b2⟩ := three_cells HY0.out
        have hfz := frozen_of_row w8 w.heap.size 2 _ _ HY0.out
        go_upto_region 8 with (fail)
        rw [put2 HY0.out]
        have HZ0 := Lib.hid (setRow_heap _ _ _ #[.int .i64 (s + (r - s / 8)), .int .i64 E, .int .i64 (boundX ((s + (r - s / 8)) / 8 + E))] _ _ HY0.out)
        have HZ1 := Lib.hid ((setRow_other w8 w.heap.size g #[.int .i64 (s + (r - s / 8)), .int .i64 E, .int .i64 (boundX ((s + (r - s / 8)) / 8 + E))] (show g ≠ w.heap.size by have := HG.out; omega)).trans HY1.out)
        have HB9 := Lib.hid (below_setRow HB8.out (Nat.le_refl _) #[.int .i64 (s + (r - s / 8)), .int .i64 E, .int .i64 (boundX ((s + (r - s / 8)) / 8 + E))])
        generalize w8.setRow w.heap.size #[.int .i64 (s + (r - s / 8)), .int .i64 E, .int .i64 (boundX ((s + (r - s / 8)) / 8 + E))] = w9 at *
        clear b0 b1 b2 hfz
        go_wp2_with (first | (refine wpList_load_row rfl 23 _ rfl w.heap.size rfl 23 _ _ _ HZ0.out Try.underlying23 rfl (by kernel_rfl) ?_) | (refine wpList_store_row rfl 23 _ _ rfl g _ rfl rfl 23 #[.int .i64 0, .int .i64 0, .int .i64 0] HZ1.out (by kernel_rfl) rfl (by simp [Value.oneCell']) ?_))
        refine ret_one (g := g) rfl rfl (setRow_heap _ _ _ _ _ _ HZ1.out) Try.underlying23 rfl (by kernel_rfl) rfl ?_
        refine ⟨?_, below_setRow HB9.out (by have := HG.out; omega) _⟩
        rw [HCK.out M, HM.out]
        dsimp only
        rw [Q1.out, Q2.out, Q3.out]
end Go.Proofs.Ytafpnmmkaanjaaa
