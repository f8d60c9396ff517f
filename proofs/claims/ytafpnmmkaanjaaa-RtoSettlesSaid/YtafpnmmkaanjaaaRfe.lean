/-
  The document's Measure and Double of clocks. Every clock that is right, every time.
-/
import Derived.Test.YtafpnmmkaanjaaaCk
import Derived.Test.YtafpnmmkaanjaaaRfc
namespace Go.Proofs.Ytafpnmmkaanjaaa
open Go.RowKit

set_option maxRecDepth 100000 in
set_option maxHeartbeats 8000000 in
theorem refmeas_any (c : Ck) (t : Nat) (w : World) (h : rightX c = true) (ht : t < 18446744073709551616) :
    Calls Try.prog 12 #[.agg (ckA c), .int .u64 (t : Int)] w fun e w' => e = .returned (.agg (ckA (measX c t))) ∧ Below w.heap.size w w' := by
  have hr := right_iff.1 h
  obtain ⟨s, d, v⟩ := c
  simp only at hr
  have HM : Hid (measX ⟨s, d, v⟩ t = ⟨smoothX ⟨s, d, v⟩ (lidX t), spreadX ⟨s, d, v⟩ (lidX t), waitX (smoothX ⟨s, d, v⟩ (lidX t)) (spreadX ⟨s, d, v⟩ (lidX t))⟩) := rfl
  obtain ⟨M, hM⟩ : ∃ M, measX ⟨s, d, v⟩ t = M := ⟨_, rfl⟩
  rw [hM] at HM ⊢
  have HCK : Hid (∀ c : Ck, ckA c = #[.int .i64 c.s, .int .i64 c.d, .int .i64 c.w]) := fun _ => rfl
  have hck := HCK.out ⟨s, d, v⟩
  simp only at hck
  rw [hck]
  clear hck hM h
  obtain ⟨w1, hw1⟩ : ∃ w1, (w.alloc (.cells #[.int .i64 s, .int .i64 d, .int .i64 v] 23)).alloc (.cells #[.int .i64 0, .int .i64 0, .int .i64 0] 23) = w1 := ⟨_, rfl⟩
  have HB1 : Hid (Below w.heap.size w w1) := by rw [← hw1]; exact ((Below.refl _ _).alloc (Nat.le_refl _) _).alloc (by simp) _
  have HX0 : Hid (w1.heap[w.heap.size]? = some (.cells #[.int .i64 s, .int .i64 d, .int .i64 v] 23 (0, 0))) := by rw [← hw1]; exact old_alloc (heap_alloc_new w _) _
  have HX1 : Hid (w1.heap[w.heap.size + 1]? = some (.cells #[.int .i64 0, .int .i64 0, .int .i64 0] 23 (0, 0))) := by rw [← hw1]; exact new_at1 w _ _
  have HW := Lib.hid hw1
  clear hw1
  obtain ⟨g, hg⟩ : ∃ g, w.heap.size + 1 = g := ⟨_, rfl⟩
  rw [hg] at HX1
  have HG := Lib.hid hg
  clear hg
  obtain ⟨hv1, hv2, hsd⟩ := hr
  have HSD := Lib.hid hsd
  clear hsd
  by_cases h240 : t < 240
  · have HLD : Hid (lidX t = (t : Int)) := if_pos h240
    have h240b : (t : Int) < 240 := by omega
    rcases HSD.out with ⟨rfl, rfl⟩ | ⟨hs0, hs1, hd0, hd1⟩
    · rcases Nat.eq_zero_or_pos t with rfl | hp
      · have Q1 : Hid (smoothX ⟨-1, -1, v⟩ ((0 : Nat) : Int) = (8 * ((0 : Nat) : Int))) := if_neg (show ¬ (0 : Int) ≤ -1 by decide)
        have Q2 : Hid (spreadX ⟨-1, -1, v⟩ ((0 : Nat) : Int) = (2 * ((0 : Nat) : Int))) := if_neg (show ¬ (0 : Int) ≤ -1 by decide)
        have Q3 : Hid (waitX (8 * ((0 : Nat) : Int)) (2 * ((0 : Nat) : Int)) = boundX (8 * ((0 : Nat) : Int) / 8 + 1)) := by
          show _ = _
          unfold waitX
          rw [if_pos (by omega)]
        go_enter Try.func12, Try.ntmps12
        go_upto_region 1 with (fail)
        change Code.wp _ _ _ _ ((w.alloc (.cells #[.int .i64 (-1), .int .i64 (-1), .int .i64 v] 23)).alloc (.cells #[.int .i64 0, .int .i64 0, .int .i64 0] 23))
        rw [HW.out, HG.out]
        clear HW
        obtain ⟨a0, a1, a2⟩ := three_cells HX0.out
        go_wp2_with fail
        refine (refbound_any _ _).mono ?_
        rintro e w2 ⟨rfl, hb2⟩
        have HX2 := Lib.hid ((hb2.block _ (row_lt HX1.out)).trans HX1.out)
        have HB2 := Lib.hid (HB1.out.trans ((show Below w1.heap.size w1 w2 from hb2).mono HB1.out.size))
        clear a0 a1 a2 hb2
        go_wp2_with (refine wpList_store_row rfl 23 _ _ rfl g _ rfl rfl 23 #[.int .i64 0, .int .i64 0, .int .i64 0] HX2.out (by kernel_rfl) rfl (by simp [Value.oneCell']) ?_)
        refine ret_one (g := g) rfl rfl (setRow_heap _ _ _ _ _ _ HX2.out) Try.underlying23 rfl (by kernel_rfl) rfl ?_
        refine ⟨?_, below_setRow HB2.out (by have := HG.out; omega) _⟩
        rw [HCK.out M, HM.out, HLD.out]
        dsimp only
        rw [Q1.out, Q2.out, Q3.out]
        rfl
      · have hp2 : ¬ 2 * (t : Int) < 1 := by omega
        have Q1 : Hid (smoothX ⟨-1, -1, v⟩ (t : Int) = (8 * (t : Int))) := if_neg (show ¬ (0 : Int) ≤ -1 by decide)
        have Q2 : Hid (spreadX ⟨-1, -1, v⟩ (t : Int) = (2 * (t : Int))) := if_neg (show ¬ (0 : Int) ≤ -1 by decide)
        have Q3 : Hid (waitX (8 * (t : Int)) (2 * (t : Int)) = boundX (8 * (t : Int) / 8 + 2 * (t : Int))) := by
          show _ = _
          unfold waitX
          rw [if_neg (by omega)]
        go_enter Try.func12, Try.ntmps12
        go_upto_region 1 with (fail)
        change Code.wp _ _ _ _ ((w.alloc (.cells #[.int .i64 (-1), .int .i64 (-1), .int .i64 v] 23)).alloc (.cells #[.int .i64 0, .int .i64 0, .int .i64 0] 23))
        rw [HW.out, HG.out]
        clear HW
        obtain ⟨a0, a1, a2⟩ := three_cells HX0.out
        go_wp2_with fail
        refine (refbound_any _ _).mono ?_
        rintro e w2 ⟨rfl, hb2⟩
        have HX2 := Lib.hid ((hb2.block _ (row_lt HX1.out)).trans HX1.out)
        have HB2 := Lib.hid (HB1.out.trans ((show Below w1.heap.size w1 w2 from hb2).mono HB1.out.size))
        clear a0 a1 a2 hb2
        go_wp2_with (refine wpList_store_row rfl 23 _ _ rfl g _ rfl rfl 23 #[.int .i64 0, .int .i64 0, .int .i64 0] HX2.out (by kernel_rfl) rfl (by simp [Value.oneCell']) ?_)
        refine ret_one (g := g) rfl rfl (setRow_heap _ _ _ _ _ _ HX2.out) Try.underlying23 rfl (by kernel_rfl) rfl ?_
        refine ⟨?_, below_setRow HB2.out (by have := HG.out; omega) _⟩
        rw [HCK.out M, HM.out, HLD.out]
        dsimp only
        rw [Q1.out, Q2.out, Q3.out]
        rw [show 8 * (t : Int) / 8 = (t : Int) from by omega]
    · have hsn : ¬ s < 0 := by omega
      rcases Int.lt_or_le (s / 8 - (t : Int)) 0 with hap | hap
      · rcases Int.lt_or_le (d - d / 4 + -(s / 8 - (t : Int))) 1 with hsp | hsp
        · exfalso
          omega
        · have hsp2 : ¬ (d - d / 4 + -(s / 8 - (t : Int))) < 1 := by omega
          have Q1 : Hid (smoothX ⟨s, d, v⟩ (t : Int) = (s - s / 8 + (t : Int))) := if_pos hs0
          have Q2 : Hid (spreadX ⟨s, d, v⟩ (t : Int) = (d - d / 4 + -(s / 8 - (t : Int)))) := by
            show _ = _
            unfold spreadX apartX
            rw [if_pos hs0, if_pos hap]
          have Q3 : Hid (waitX (s - s / 8 + (t : Int)) (d - d / 4 + -(s / 8 - (t : Int))) = boundX ((s - s / 8 + (t : Int)) / 8 + (d - d / 4 + -(s / 8 - (t : Int))))) := by
            show _ = _
            unfold waitX
            rw [if_neg hsp2]
          go_enter Try.func12, Try.ntmps12
          go_upto_region 1 with (fail)
          change Code.wp _ _ _ _ ((w.alloc (.cells #[.int .i64 s, .int .i64 d, .int .i64 v] 23)).alloc (.cells #[.int .i64 0, .int .i64 0, .int .i64 0] 23))
          rw [HW.out, HG.out]
          clear HW
          obtain ⟨a0, a1, a2⟩ := three_cells HX0.out
          go_upto_region 9 with (fail)
          go_region
          go_wp2_with fail
          refine (refbound_any _ _).mono ?_
          rintro e w2 ⟨rfl, hb2⟩
          have HX2 := Lib.hid ((hb2.block _ (row_lt HX1.out)).trans HX1.out)
          have HB2 := Lib.hid (HB1.out.trans ((show Below w1.heap.size w1 w2 from (below_drewN' (Below.refl _ _) 1).trans (hb2.mono (Nat.le_refl _))).mono HB1.out.size))
          clear a0 a1 a2 hb2
          go_wp2_with (refine wpList_store_row rfl 23 _ _ rfl g _ rfl rfl 23 #[.int .i64 0, .int .i64 0, .int .i64 0] HX2.out (by kernel_rfl) rfl (by simp [Value.oneCell']) ?_)
          refine ret_one (g := g) rfl rfl (setRow_heap _ _ _ _ _ _ HX2.out) Try.underlying23 rfl (by kernel_rfl) rfl ?_
          refine ⟨?_, below_setRow HB2.out (by have := HG.out; omega) _⟩
          rw [HCK.out M, HM.out, HLD.out]
          dsimp only
          rw [Q1.out, Q2.out, Q3.out]
      · rcases Int.lt_or_le (d - d / 4 + (s / 8 - (t : Int))) 1 with hsp | hsp
        · have hap2 : ¬ s / 8 - (t : Int) < 0 := by omega
          have Q1 : Hid (smoothX ⟨s, d, v⟩ (t : Int) = (s - s / 8 + (t : Int))) := if_pos hs0
          have Q2 : Hid (spreadX ⟨s, d, v⟩ (t : Int) = (d - d / 4 + (s / 8 - (t : Int)))) := by
            show _ = _
            unfold spreadX apartX
            rw [if_pos hs0, if_neg hap2]
          have Q3 : Hid (waitX (s - s / 8 + (t : Int)) (d - d / 4 + (s / 8 - (t : Int))) = boundX ((s - s / 8 + (t : Int)) / 8 + 1)) := by
            show _ = _
            unfold waitX
            rw [if_pos hsp]
          go_enter Try.func12, Try.ntmps12
          go_upto_region 1 with (fail)
          change Code.wp _ _ _ _ ((w.alloc (.cells #[.int .i64 s, .int .i64 d, .int .i64 v] 23)).alloc (.cells #[.int .i64 0, .int .i64 0, .int .i64 0] 23))
          rw [HW.out, HG.out]
          clear HW
          obtain ⟨a0, a1, a2⟩ := three_cells HX0.out
          go_upto_region 9 with (fail)
          go_region
          go_wp2_with fail
          refine (refbound_any _ _).mono ?_
          rintro e w2 ⟨rfl, hb2⟩
          have HX2 := Lib.hid ((hb2.block _ (row_lt HX1.out)).trans HX1.out)
          have HB2 := Lib.hid (HB1.out.trans ((show Below w1.heap.size w1 w2 from (below_drewN' (Below.refl _ _) 1).trans (hb2.mono (Nat.le_refl _))).mono HB1.out.size))
          clear a0 a1 a2 hb2
          go_wp2_with (refine wpList_store_row rfl 23 _ _ rfl g _ rfl rfl 23 #[.int .i64 0, .int .i64 0, .int .i64 0] HX2.out (by kernel_rfl) rfl (by simp [Value.oneCell']) ?_)
          refine ret_one (g := g) rfl rfl (setRow_heap _ _ _ _ _ _ HX2.out) Try.underlying23 rfl (by kernel_rfl) rfl ?_
          refine ⟨?_, below_setRow HB2.out (by have := HG.out; omega) _⟩
          rw [HCK.out M, HM.out, HLD.out]
          dsimp only
          rw [Q1.out, Q2.out, Q3.out]
        · have hap2 : ¬ s / 8 - (t : Int) < 0 := by omega
          have hsp2 : ¬ (d - d / 4 + (s / 8 - (t : Int))) < 1 := by omega
          have Q1 : Hid (smoothX ⟨s, d, v⟩ (t : Int) = (s - s / 8 + (t : Int))) := if_pos hs0
          have Q2 : Hid (spreadX ⟨s, d, v⟩ (t : Int) = (d - d / 4 + (s / 8 - (t : Int)))) := by
            show _ = _
            unfold spreadX apartX
            rw [if_pos hs0, if_neg hap2]
          have Q3 : Hid (waitX (s - s / 8 + (t : Int)) (d - d / 4 + (s / 8 - (t : Int))) = boundX ((s - s / 8 + (t : Int)) / 8 + (d - d / 4 + (s / 8 - (t : Int))))) := by
            show _ = _
            unfold waitX
            rw [if_neg hsp2]
          go_enter Try.func12, Try.ntmps12
          go_upto_region 1 with (fail)
          change Code.wp _ _ _ _ ((w.alloc (.cells #[.int .i64 s, .int .i64 d, .int .i64 v] 23)).alloc (.cells #[.int .i64 0, .int .i64 0, .int .i64 0] 23))
          rw [HW.out, HG.out]
          clear HW
          obtain ⟨a0, a1, a2⟩ := three_cells HX0.out
          go_upto_region 9 with (fail)
          go_region
          go_wp2_with fail
          refine (refbound_any _ _).mono ?_
          rintro e w2 ⟨rfl, hb2⟩
          have HX2 := Lib.hid ((hb2.block _ (row_lt HX1.out)).trans HX1.out)
          have HB2 := Lib.hid (HB1.out.trans ((show Below w1.heap.size w1 w2 from (below_drewN' (Below.refl _ _) 1).trans (hb2.mono (Nat.le_refl _))).mono HB1.out.size))
          clear a0 a1 a2 hb2
          go_wp2_with (refine wpList_store_row rfl 23 _ _ rfl g _ rfl rfl 23 #[.int .i64 0, .int .i64 0, .int .i64 0] HX2.out (by kernel_rfl) rfl (by simp [Value.oneCell']) ?_)
          refine ret_one (g := g) rfl rfl (setRow_heap _ _ _ _ _ _ HX2.out) Try.underlying23 rfl (by kernel_rfl) rfl ?_
          refine ⟨?_, below_setRow HB2.out (by have := HG.out; omega) _⟩
          rw [HCK.out M, HM.out, HLD.out]
          dsimp only
          rw [Q1.out, Q2.out, Q3.out]
  · have HLD : Hid (lidX t = 240) := if_neg h240
    have h240b : ¬ (t : Int) < 240 := by omega
    rcases HSD.out with ⟨rfl, rfl⟩ | ⟨hs0, hs1, hd0, hd1⟩
    · have Q1 : Hid (smoothX ⟨-1, -1, v⟩ 240 = 1920) := if_neg (show ¬ (0 : Int) ≤ -1 by decide)
      have Q2 : Hid (spreadX ⟨-1, -1, v⟩ 240 = 480) := if_neg (show ¬ (0 : Int) ≤ -1 by decide)
      have Q3 : Hid (waitX 1920 480 = boundX 720) := by
        show _ = _
        unfold waitX
        rw [if_neg (by decide)]
        rfl
      go_enter Try.func12, Try.ntmps12
      go_upto_region 1 with (fail)
      change Code.wp _ _ _ _ ((w.alloc (.cells #[.int .i64 (-1), .int .i64 (-1), .int .i64 v] 23)).alloc (.cells #[.int .i64 0, .int .i64 0, .int .i64 0] 23))
      rw [HW.out, HG.out]
      clear HW
      obtain ⟨a0, a1, a2⟩ := three_cells HX0.out
      go_wp2_with fail
      refine (refbound_any _ _).mono ?_
      rintro e w2 ⟨rfl, hb2⟩
      have HX2 := Lib.hid ((hb2.block _ (row_lt HX1.out)).trans HX1.out)
      have HB2 := Lib.hid (HB1.out.trans ((show Below w1.heap.size w1 w2 from hb2).mono HB1.out.size))
      clear a0 a1 a2 hb2
      go_wp2_with (refine wpList_store_row rfl 23 _ _ rfl g _ rfl rfl 23 #[.int .i64 0, .int .i64 0, .int .i64 0] HX2.out (by kernel_rfl) rfl (by simp [Value.oneCell']) ?_)
      refine ret_one (g := g) rfl rfl (setRow_heap _ _ _ _ _ _ HX2.out) Try.underlying23 rfl (by kernel_rfl) rfl ?_
      refine ⟨?_, below_setRow HB2.out (by have := HG.out; omega) _⟩
      rw [HCK.out M, HM.out, HLD.out]
      dsimp only
      rw [Q1.out, Q2.out, Q3.out]
    · have hsn : ¬ s < 0 := by omega
      rcases Int.lt_or_le (s / 8 - 240) 0 with hap | hap
      · rcases Int.lt_or_le (d - d / 4 + -(s / 8 - 240)) 1 with hsp | hsp
        · exfalso
          omega
        · have hsp2 : ¬ (d - d / 4 + -(s / 8 - 240)) < 1 := by omega
          have Q1 : Hid (smoothX ⟨s, d, v⟩ 240 = (s - s / 8 + 240)) := if_pos hs0
          have Q2 : Hid (spreadX ⟨s, d, v⟩ 240 = (d - d / 4 + -(s / 8 - 240))) := by
            show _ = _
            unfold spreadX apartX
            rw [if_pos hs0, if_pos hap]
          have Q3 : Hid (waitX (s - s / 8 + 240) (d - d / 4 + -(s / 8 - 240)) = boundX ((s - s / 8 + 240) / 8 + (d - d / 4 + -(s / 8 - 240)))) := by
            show _ = _
            unfold waitX
            rw [if_neg hsp2]
          go_enter Try.func12, Try.ntmps12
          go_upto_region 1 with (fail)
          change Code.wp _ _ _ _ ((w.alloc (.cells #[.int .i64 s, .int .i64 d, .int .i64 v] 23)).alloc (.cells #[.int .i64 0, .int .i64 0, .int .i64 0] 23))
          rw [HW.out, HG.out]
          clear HW
          obtain ⟨a0, a1, a2⟩ := three_cells HX0.out
          go_upto_region 9 with (fail)
          go_region
          go_wp2_with fail
          refine (refbound_any _ _).mono ?_
          rintro e w2 ⟨rfl, hb2⟩
          have HX2 := Lib.hid ((hb2.block _ (row_lt HX1.out)).trans HX1.out)
          have HB2 := Lib.hid (HB1.out.trans ((show Below w1.heap.size w1 w2 from (below_drewN' (Below.refl _ _) 1).trans (hb2.mono (Nat.le_refl _))).mono HB1.out.size))
          clear a0 a1 a2 hb2
          go_wp2_with (refine wpList_store_row rfl 23 _ _ rfl g _ rfl rfl 23 #[.int .i64 0, .int .i64 0, .int .i64 0] HX2.out (by kernel_rfl) rfl (by simp [Value.oneCell']) ?_)
          refine ret_one (g := g) rfl rfl (setRow_heap _ _ _ _ _ _ HX2.out) Try.underlying23 rfl (by kernel_rfl) rfl ?_
          refine ⟨?_, below_setRow HB2.out (by have := HG.out; omega) _⟩
          rw [HCK.out M, HM.out, HLD.out]
          dsimp only
          rw [Q1.out, Q2.out, Q3.out]
      · rcases Int.lt_or_le (d - d / 4 + (s / 8 - 240)) 1 with hsp | hsp
        · have hap2 : ¬ s / 8 - 240 < 0 := by omega
          have Q1 : Hid (smoothX ⟨s, d, v⟩ 240 = (s - s / 8 + 240)) := if_pos hs0
          have Q2 : Hid (spreadX ⟨s, d, v⟩ 240 = (d - d / 4 + (s / 8 - 240))) := by
            show _ = _
            unfold spreadX apartX
            rw [if_pos hs0, if_neg hap2]
          have Q3 : Hid (waitX (s - s / 8 + 240) (d - d / 4 + (s / 8 - 240)) = boundX ((s - s / 8 + 240) / 8 + 1)) := by
            show _ = _
            unfold waitX
            rw [if_pos hsp]
          go_enter Try.func12, Try.ntmps12
          go_upto_region 1 with (fail)
          change Code.wp _ _ _ _ ((w.alloc (.cells #[.int .i64 s, .int .i64 d, .int .i64 v] 23)).alloc (.cells #[.int .i64 0, .int .i64 0, .int .i64 0] 23))
          rw [HW.out, HG.out]
          clear HW
          obtain ⟨a0, a1, a2⟩ := three_cells HX0.out
          go_upto_region 9 with (fail)
          go_region
          go_wp2_with fail
          refine (refbound_any _ _).mono ?_
          rintro e w2 ⟨rfl, hb2⟩
          have HX2 := Lib.hid ((hb2.block _ (row_lt HX1.out)).trans HX1.out)
          have HB2 := Lib.hid (HB1.out.trans ((show Below w1.heap.size w1 w2 from (below_drewN' (Below.refl _ _) 1).trans (hb2.mono (Nat.le_refl _))).mono HB1.out.size))
          clear a0 a1 a2 hb2
          go_wp2_with (refine wpList_store_row rfl 23 _ _ rfl g _ rfl rfl 23 #[.int .i64 0, .int .i64 0, .int .i64 0] HX2.out (by kernel_rfl) rfl (by simp [Value.oneCell']) ?_)
          refine ret_one (g := g) rfl rfl (setRow_heap _ _ _ _ _ _ HX2.out) Try.underlying23 rfl (by kernel_rfl) rfl ?_
          refine ⟨?_, below_setRow HB2.out (by have := HG.out; omega) _⟩
          rw [HCK.out M, HM.out, HLD.out]
          dsimp only
          rw [Q1.out, Q2.out, Q3.out]
        · have hap2 : ¬ s / 8 - 240 < 0 := by omega
          have hsp2 : ¬ (d - d / 4 + (s / 8 - 240)) < 1 := by omega
          have Q1 : Hid (smoothX ⟨s, d, v⟩ 240 = (s - s / 8 + 240)) := if_pos hs0
          have Q2 : Hid (spreadX ⟨s, d, v⟩ 240 = (d - d / 4 + (s / 8 - 240))) := by
            show _ = _
            unfold spreadX apartX
            rw [if_pos hs0, if_neg hap2]
          have Q3 : Hid (waitX (s - s / 8 + 240) (d - d / 4 + (s / 8 - 240)) = boundX ((s - s / 8 + 240) / 8 + (d - d / 4 + (s / 8 - 240)))) := by
            show _ = _
            unfold waitX
            rw [if_neg hsp2]
          go_enter Try.func12, Try.ntmps12
          go_upto_region 1 with (fail)
          change Code.wp _ _ _ _ ((w.alloc (.cells #[.int .i64 s, .int .i64 d, .int .i64 v] 23)).alloc (.cells #[.int .i64 0, .int .i64 0, .int .i64 0] 23))
          rw [HW.out, HG.out]
          clear HW
          obtain ⟨a0, a1, a2⟩ := three_cells HX0.out
          go_upto_region 9 with (fail)
          go_region
          go_wp2_with fail
          refine (refbound_any _ _).mono ?_
          rintro e w2 ⟨rfl, hb2⟩
          have HX2 := Lib.hid ((hb2.block _ (row_lt HX1.out)).trans HX1.out)
          have HB2 := Lib.hid (HB1.out.trans ((show Below w1.heap.size w1 w2 from (below_drewN' (Below.refl _ _) 1).trans (hb2.mono (Nat.le_refl _))).mono HB1.out.size))
          clear a0 a1 a2 hb2
          go_wp2_with (refine wpList_store_row rfl 23 _ _ rfl g _ rfl rfl 23 #[.int .i64 0, .int .i64 0, .int .i64 0] HX2.out (by kernel_rfl) rfl (by simp [Value.oneCell']) ?_)
          refine ret_one (g := g) rfl rfl (setRow_heap _ _ _ _ _ _ HX2.out) Try.underlying23 rfl (by kernel_rfl) rfl ?_
          refine ⟨?_, below_setRow HB2.out (by have := HG.out; omega) _⟩
          rw [HCK.out M, HM.out, HLD.out]
          dsimp only
          rw [Q1.out, Q2.out, Q3.out]

set_option maxRecDepth 100000 in
set_option maxHeartbeats 8000000 in
theorem refdbl_any (c : Ck) (w : World) (h : rightX c = true) : Calls Try.prog 13 #[.agg (ckA c)] w fun e w' => e = .returned (.agg (ckA (dblX c))) ∧ Below w.heap.size w w' := by
  have hr := right_iff.1 h
  obtain ⟨s, d, v⟩ := c
  simp only at hr
  have HM : Hid (ckA (dblX ⟨s, d, v⟩) = #[.int .i64 s, .int .i64 d, .int .i64 (boundX (v + v))]) := rfl
  have hck : ckA ⟨s, d, v⟩ = #[.int .i64 s, .int .i64 d, .int .i64 v] := rfl
  rw [hck, HM.out]
  clear hck h HM
  obtain ⟨w1, hw1⟩ : ∃ w1, (w.alloc (.cells #[.int .i64 s, .int .i64 d, .int .i64 v] 23)).alloc (.cells #[.int .i64 0, .int .i64 0, .int .i64 0] 23) = w1 := ⟨_, rfl⟩
  have HB1 : Hid (Below w.heap.size w w1) := by rw [← hw1]; exact ((Below.refl _ _).alloc (Nat.le_refl _) _).alloc (by simp) _
  have HX0 : Hid (w1.heap[w.heap.size]? = some (.cells #[.int .i64 s, .int .i64 d, .int .i64 v] 23 (0, 0))) := by rw [← hw1]; exact old_alloc (heap_alloc_new w _) _
  have HX1 : Hid (w1.heap[w.heap.size + 1]? = some (.cells #[.int .i64 0, .int .i64 0, .int .i64 0] 23 (0, 0))) := by rw [← hw1]; exact new_at1 w _ _
  have HW := Lib.hid hw1
  clear hw1
  obtain ⟨g, hg⟩ : ∃ g, w.heap.size + 1 = g := ⟨_, rfl⟩
  rw [hg] at HX1
  have HG := Lib.hid hg
  clear hg
  have HNE : Hid (w.heap.size ≠ g) := by have := HG.out; show _ ≠ _; omega
  obtain ⟨hv1, hv2, -⟩ := hr
  have hwr : IntKind.i64.wrap (v + v) = v + v := IntWalk.i64_in _ ⟨by omega, by omega⟩
  go_enter Try.func13, Try.ntmps13
  go_upto_region 1 with (fail)
  change Code.wp _ _ _ _ ((w.alloc (.cells #[.int .i64 s, .int .i64 d, .int .i64 v] 23)).alloc (.cells #[.int .i64 0, .int .i64 0, .int .i64 0] 23))
  rw [HW.out, HG.out]
  clear HW
  apply wp_region_relyG [11] (OldO w1 11 g 23 #[.int .i64 0, .int .i64 0, .int .i64 0] #[.int .i64 s, .int .i64 d, .int .i64 (boundX (v + v))]) (RL [Is (.pointer (some ⟨w.heap.size, 0, none⟩)), Is (.int .i64 s), Is (.pointer (some ⟨w.heap.size, 1, none⟩)), Is (.int .i64 d), Is (.pointer (some ⟨w.heap.size, 2, none⟩)), Is (.int .i64 v), Is (.pointer (some ⟨w.heap.size, 2, none⟩)), Is (.int .i64 v), Is (.int .i64 (v + v)), Is (.int .i64 (boundX (v + v))), Is (.agg #[.int .i64 s, .int .i64 d, .int .i64 (boundX (v + v))]), Any]) [false, false, false, true, true, true, true, true, true, true, true, true, true, true]
  · kernel_rfl
  · kernel_rfl
  · kernel_rfl
  · refine ⟨?_, ?_, ?_, ?_, ?_, ?_, ?_, ?_, ?_, ?_, ?_, ?_, trivial⟩
    · intro L ev w' hC hL hx K hK
      have e1 : ev (.tmp 1) = _ := hx.base 1 (by kernel_rfl)
      have HK := Lib.hid hK
      have HC := Lib.hid hC
      have HL := Lib.hid hL
      have HX := Lib.hid hx
      have hc := hx.cst
      skip
      clear hx hK hC hL
      unfold Run
      simp [execOp, Upon, go_sem, *]
      exact HK.out _ _ (.inl ⟨Below.refl _ _, by decide⟩) rfl
    · intro L ev w' hC hL hx K hK
      have e3 := hx.held 0 _ rfl (by kernel_rfl)
      change ev (.tmp 3) = _ at e3
      have HK := Lib.hid hK
      have HC := Lib.hid hC
      have HL := Lib.hid hL
      have HX := Lib.hid hx
      have hc := hx.cst
      skip
      clear hx hK hC hL
      have q1 : ev (.tmp 3) = .pointer (some ⟨w.heap.size, 0, none⟩) := e3
      have hld := run_loadVar_cell (P := Try.prog) w' ⟨w.heap.size, 0, none⟩ 2 (.int .i64 s) _ ((cell_of_row _ _ _ _ _ _ (HC.out.keep HX0.out HNE.out)).trans rfl) Try.underlying2 rfl
      unfold Run
      rw [rely_load 2 _ rfl q1 hld]
      exact HK.out _ _ (.inl ⟨Below.refl _ _, by decide⟩) rfl
    · intro L ev w' hC hL hx K hK
      have e1 : ev (.tmp 1) = _ := hx.base 1 (by kernel_rfl)
      have HK := Lib.hid hK
      have HC := Lib.hid hC
      have HL := Lib.hid hL
      have HX := Lib.hid hx
      have hc := hx.cst
      skip
      clear hx hK hC hL
      unfold Run
      simp [execOp, Upon, go_sem, *]
      exact HK.out _ _ (.inl ⟨Below.refl _ _, by decide⟩) rfl
    · intro L ev w' hC hL hx K hK
      have e5 := hx.held 2 _ rfl (by kernel_rfl)
      change ev (.tmp 5) = _ at e5
      have HK := Lib.hid hK
      have HC := Lib.hid hC
      have HL := Lib.hid hL
      have HX := Lib.hid hx
      have hc := hx.cst
      skip
      clear hx hK hC hL
      have q1 : ev (.tmp 5) = .pointer (some ⟨w.heap.size, 1, none⟩) := e5
      have hld := run_loadVar_cell (P := Try.prog) w' ⟨w.heap.size, 1, none⟩ 2 (.int .i64 d) _ ((cell_of_row _ _ _ _ _ _ (HC.out.keep HX0.out HNE.out)).trans rfl) Try.underlying2 rfl
      unfold Run
      rw [rely_load 2 _ rfl q1 hld]
      exact HK.out _ _ (.inl ⟨Below.refl _ _, by decide⟩) rfl
    · intro L ev w' hC hL hx K hK
      have e1 : ev (.tmp 1) = _ := hx.base 1 (by kernel_rfl)
      have HK := Lib.hid hK
      have HC := Lib.hid hC
      have HL := Lib.hid hL
      have HX := Lib.hid hx
      have hc := hx.cst
      skip
      clear hx hK hC hL
      unfold Run
      simp [execOp, Upon, go_sem, *]
      exact HK.out _ _ (.inl ⟨Below.refl _ _, by decide⟩) rfl
    · intro L ev w' hC hL hx K hK
      have e7 := hx.held 4 _ rfl (by kernel_rfl)
      change ev (.tmp 7) = _ at e7
      have HK := Lib.hid hK
      have HC := Lib.hid hC
      have HL := Lib.hid hL
      have HX := Lib.hid hx
      have hc := hx.cst
      skip
      clear hx hK hC hL
      have q1 : ev (.tmp 7) = .pointer (some ⟨w.heap.size, 2, none⟩) := e7
      have hld := run_loadVar_cell (P := Try.prog) w' ⟨w.heap.size, 2, none⟩ 2 (.int .i64 v) _ ((cell_of_row _ _ _ _ _ _ (HC.out.keep HX0.out HNE.out)).trans rfl) Try.underlying2 rfl
      unfold Run
      rw [rely_load 2 _ rfl q1 hld]
      exact HK.out _ _ (.inl ⟨Below.refl _ _, by decide⟩) rfl
    · intro L ev w' hC hL hx K hK
      have e1 : ev (.tmp 1) = _ := hx.base 1 (by kernel_rfl)
      have HK := Lib.hid hK
      have HC := Lib.hid hC
      have HL := Lib.hid hL
      have HX := Lib.hid hx
      have hc := hx.cst
      skip
      clear hx hK hC hL
      unfold Run
      simp [execOp, Upon, go_sem, *]
      exact HK.out _ _ (.inl ⟨Below.refl _ _, by decide⟩) rfl
    · intro L ev w' hC hL hx K hK
      have e9 := hx.held 6 _ rfl (by kernel_rfl)
      change ev (.tmp 9) = _ at e9
      have HK := Lib.hid hK
      have HC := Lib.hid hC
      have HL := Lib.hid hL
      have HX := Lib.hid hx
      have hc := hx.cst
      skip
      clear hx hK hC hL
      have q1 : ev (.tmp 9) = .pointer (some ⟨w.heap.size, 2, none⟩) := e9
      have hld := run_loadVar_cell (P := Try.prog) w' ⟨w.heap.size, 2, none⟩ 2 (.int .i64 v) _ ((cell_of_row _ _ _ _ _ _ (HC.out.keep HX0.out HNE.out)).trans rfl) Try.underlying2 rfl
      unfold Run
      rw [rely_load 2 _ rfl q1 hld]
      exact HK.out _ _ (.inl ⟨Below.refl _ _, by decide⟩) rfl
    · intro L ev w' hC hL hx K hK
      have e8 := hx.held 5 _ rfl (by kernel_rfl)
      have e10 := hx.held 7 _ rfl (by kernel_rfl)
      change ev (.tmp 8) = _ at e8
      change ev (.tmp 10) = _ at e10
      have HK := Lib.hid hK
      have HC := Lib.hid hC
      have HL := Lib.hid hL
      have HX := Lib.hid hx
      have hc := hx.cst
      skip
      clear hx hK hC hL
      unfold Run
      simp [execOp, Upon, go_sem, *]
      exact HK.out _ _ (.inl ⟨Below.refl _ _, by decide⟩) rfl
    · intro L ev w' hC hL hx K hK
      have e11 := hx.held 8 _ rfl (by kernel_rfl)
      change ev (.tmp 11) = _ at e11
      have HK := Lib.hid hK
      have HC := Lib.hid hC
      have HL := Lib.hid hL
      have HX := Lib.hid hx
      have hc := hx.cst
      have hf := hx.fn
      clear hx hK hC hL
      unfold Run
      simp [execOp, Upon, go_sem, *]
      refine (refbound_any (v + v) w').mono ?_
      rintro e w2 ⟨rfl, hb⟩
      exact ⟨_, rfl, HK.out _ _ (.inl ⟨hb, by decide⟩) rfl⟩
    · intro L ev w' hC hL hx K hK
      have e4 := hx.held 1 _ rfl (by kernel_rfl)
      have e6 := hx.held 3 _ rfl (by kernel_rfl)
      have e12 := hx.held 9 _ rfl (by kernel_rfl)
      change ev (.tmp 4) = _ at e4
      change ev (.tmp 6) = _ at e6
      change ev (.tmp 12) = _ at e12
      have HK := Lib.hid hK
      have HC := Lib.hid hC
      have HL := Lib.hid hL
      have HX := Lib.hid hx
      have hc := hx.cst
      skip
      clear hx hK hC hL
      unfold Run
      simp [execOp, Upon, go_sem, *]
      exact HK.out _ _ (.inl ⟨Below.refl _ _, by decide⟩) rfl
    · intro L ev w' hC hL hx K hK
      have e2 : ev (.tmp 2) = _ := hx.base 2 (by kernel_rfl)
      have e13 := hx.held 10 _ rfl (by kernel_rfl)
      change ev (.tmp 13) = _ at e13
      have HK := Lib.hid hK
      have HC := Lib.hid hC
      have HL := Lib.hid hL
      have HX := Lib.hid hx
      have hc := hx.cst
      skip
      clear hx hK hC hL
      have qv : ev (.tmp 13) = .agg #[.int .i64 s, .int .i64 d, .int .i64 (boundX (v + v))] := e13
      have nst : L 11 = false := HL.out
      have qp : ev (.tmp 2) = .pointer (some ⟨g, 0, none⟩) := e2
      have hgh := HC.out.old nst
      have hnv := HC.out.store nst rfl
      have hst := run_storeVar_row (P := Try.prog) w' g 23 23 #[.int .i64 0, .int .i64 0, .int .i64 0] #[.int .i64 s, .int .i64 d, .int .i64 (boundX (v + v))] hgh (by kernel_rfl) rfl (by simp [Value.oneCell'])
      unfold Run
      rw [rely_store 23 _ _ rfl qp qv hst]
      refine HK.out _ _ (.inr ⟨hnv, fun j hj hlj u hr => ?_⟩) trivial
      rcases j with _ | _ | _ | _ | _ | _ | _ | _ | _ | _ | _ | _ | j
      · exact hr
      · exact hr
      · exact hr
      · exact hr
      · exact hr
      · exact hr
      · exact hr
      · exact hr
      · exact hr
      · exact hr
      · exact hr
      · exact absurd rfl hj
      · exact trivial
  · exact rl_mono ⟨is_mono _, is_mono _, is_mono _, is_mono _, is_mono _, is_mono _, is_mono _, is_mono _, is_mono _, is_mono _, is_mono _, any_mono, trivial⟩
  · exact fun L L' w' h1 hg => hg.agree (h1 11 (by simp))
  · exact fun L w' w'' hb hg => hg.below hb
  · exact OldO.start HX1.out
  · simp
  intro us wr hG hH
  obtain ⟨-, -, -, -, -, -, -, -, -, -, -, -, -⟩ := hH
  simp only [fillM]
  obtain ⟨hG9, hvn1⟩ := hG
  have HVN1 : Hid (wr.heap[g]? = some (.cells #[.int .i64 s, .int .i64 d, .int .i64 (boundX (v + v))] 23 (0, 0))) := hvn1
  have HG9 := Lib.hid hG9
  clear hG9 hvn1
  generalize us 3 = v3
  generalize us 4 = v4
  generalize us 5 = v5
  generalize us 6 = v6
  generalize us 7 = v7
  generalize us 8 = v8
  generalize us 9 = v9
  generalize us 10 = v10
  generalize us 11 = v11
  generalize us 12 = v12
  generalize us 13 = v13
  have HB9 := Lib.hid (HB1.out.trans (HG9.out.below (B := w.heap.size) (fun k hk => by rw [hk, ← HG.out]; omega) HB1.out.size))
  go_wp2
  refine ret_one (g := g) rfl rfl HVN1.out Try.underlying23 rfl (by kernel_rfl) rfl ?_
  exact ⟨rfl, HB9.out⟩
end Go.Proofs.Ytafpnmmkaanjaaa
