/-
  FragSplits returns true for every packet, and turns nothing that was there.
-/
import Derived.Test.YtkgfphkhnhdemaaLives
import Derived.Test.YtkgfphkhnhdemaaPkShape
namespace Go.Proofs.Ytkgfphkhnhdemaa
open Go.RowKit

set_option maxRecDepth 100000 in
set_option maxHeartbeats 1000000 in
theorem splits_any (cs : Array Value) (p : Pk) (w : World) (h : PkV w 0 w.heap.size cs p) :
    Calls Try.prog 3 #[.agg cs] w fun e w' => e = .returned (.bool true) ∧ Below w.heap.size w w' := by
  obtain ⟨A, c, _, _, h13, _, hlc, hm, _⟩ := h.parts
  obtain ⟨n, hbn⟩ : ∃ n, p.data.length = n := ⟨_, rfl⟩
  rw [hbn] at h13 hlc
  have HBN := Lib.hid hbn
  have hn2 : n ≤ 9223372036854775807 := by unfold maxLen at hm; omega
  have HF := Lib.hid h
  have HS := Lib.hid h.size
  have HB0 := Lib.hid ((Below.refl w.heap.size w).alloc (Nat.le_refl _) (.cells cs 27))
  have HG0 := Lib.hid (heap_alloc_new w (.cells cs 27))
  have H13 := Lib.hid h13
  clear h hbn hlc hm h13
  by_cases hi : 1500 < n
  all_goals
    go_enter Try.func3, Try.ntmps3
    go_wp2_with fail
    refine (lives_any _).mono ?_
    rintro e w1 ⟨rfl, hb1⟩
    have hx1 := (hb1.block _ (row_lt HG0.out)).trans HG0.out
    have hc13 : w1.cell? ⟨w.heap.size, 13, none⟩ = some (.slice A n c) := by
      rw [cell_of_row _ _ _ _ _ _ hx1]
      exact H13.out
    have HX1 := Lib.hid hx1
    have HB1 := Lib.hid (HB0.out.trans (hb1.mono HB0.out.size))
    clear hb1 hx1
  · go_wp2_with fail
    refine (lives_any _).mono ?_
    rintro e w2 ⟨rfl, hb2⟩
    have HB := Lib.hid (HB1.out.trans (hb2.mono HB1.out.size))
    clear hb2
    go_wp2
    go_ret
    exact ⟨rfl, HB.out⟩
  · go_wp2_with (refine wpList_load_row rfl 27 _ rfl w.heap.size rfl _ cs _ _ HX1.out Try.underlying27 rfl (size_pk HS.out) ?_)
    clear hc13
    refine (split_any cs p 0 w.heap.size w1 (HF.out.below HB1.out (Nat.le_refl _)) HB1.out.size).mono ?_
    rintro e w2 ⟨v, rfl, hv, hb2⟩
    have HX2 := Lib.hid ((hb2.block _ (row_lt HX1.out)).trans HX1.out)
    have HB2 := Lib.hid (HB1.out.trans (hb2.mono HB1.out.size))
    have HV := Lib.hid hv.rd
    have HE : Hid ((splitP p).1.length ≤ 1000000) := by
      show _ ≤ _
      unfold splitP
      have := HBN.out
      split
      · simp
      · split
        · simp
        · show (splitL p _).length ≤ _
          rw [splitL_length]
          unfold piecesN
          split <;> omega
    obtain ⟨r, hr⟩ : ∃ r, splitP p = r := ⟨_, rfl⟩
    rw [hr] at HV HE ⊢
    have HR := Lib.hid hr
    obtain ⟨ps, er⟩ := r
    obtain ⟨A2, c2, xs2, rfl, hv2⟩ := HV.out
    simp only
    clear hb2 hv hr hv2
    go_wp2_with (refine wpList_load_row rfl 27 _ rfl w.heap.size rfl _ cs _ _ HX2.out Try.underlying27 rfl (size_pk HS.out) ?_)
    refine (refsplit_any cs p 0 w.heap.size w2 (HF.out.below HB2.out (Nat.le_refl _)) HB2.out.size).mono ?_
    rintro e w3 ⟨v3, rfl, hv3, hb3⟩
    rw [HR.out] at hv3 ⊢
    simp only at hv3 ⊢
    have HB3 := Lib.hid (HB2.out.trans (hb3.mono HB2.out.size))
    have HV2 := Lib.hid (HV.out.below hb3)
    have HV3 := Lib.hid hv3
    obtain ⟨A3, c3, xs3, rfl, _⟩ := hv3
    have her : (er == er) = true := by simp
    clear hb3
    go_wp2_with fail
    refine (same_list ps _ _ w3 HV2.out HV3.out HE.out).mono ?_
    rintro e w4 ⟨rfl, hb4⟩
    have HB := Lib.hid (HB3.out.trans (hb4.mono HB3.out.size))
    clear hb4
    go_wp2
    go_ret
    exact ⟨rfl, HB.out⟩
end Go.Proofs.Ytkgfphkhnhdemaa
