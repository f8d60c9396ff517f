/-
  route.Find. Every right slice of routes, every address.
-/
import Derived.Test.YtfifigokglmjlaaClR
import Derived.Test.YtfifigokglmjlaaRom
import Derived.Test.YtfifigokglmjlaaWiR
namespace Go.Proofs.Ytfifigokglmjlaa
open Go.RowKit

theorem find_first {dst : Ip} {K : List Ro} {i : Nat} {r : Ro} (hK : rightX K = true) (hr : K[i]? = some r) (hw : withinX dst r.net r.bits = true) (hno : ∀ j h, j < i → K[j]? = some h → inX dst h = false) : findX K dst = (viaX dst r, 0) := by
  unfold findX
  rw [best_find (right_iff.1 hK).2.2]
  have : K.find? (inX dst) = some r := by
    have hlt := (List.getElem?_eq_some_iff.1 hr).1
    rw [List.find?_eq_some_iff_getElem]
    refine ⟨hw, i, hlt, (List.getElem?_eq_some_iff.1 hr).2, fun j hj => ?_⟩
    rw [hno j _ hj (List.getElem?_eq_getElem (by omega))]
    rfl
  rw [this]
theorem find_nowhere {dst : Ip} {K : List Ro} (hK : rightX K = true) (hno : ∀ j h, j < K.length → K[j]? = some h → inX dst h = false) : findX K dst = (zeroIp, 15) := by
  unfold findX
  rw [best_find (right_iff.1 hK).2.2]
  have : K.find? (inX dst) = none := by
    rw [List.find?_eq_none]
    intro x hx
    obtain ⟨j, hj, rfl⟩ := List.mem_iff_getElem.1 hx
    rw [hno j _ hj (List.getElem?_eq_getElem hj)]
    simp
  rw [this]
set_option maxRecDepth 100000 in
set_option maxHeartbeats 8000000 in
theorem find_any (v : Value) (K : List Ro) (dst : Ip) (w : World) (hv : RoT w v K) (hK : rightX K = true) :
    Calls Try.prog 15 #[v, .agg (ipA dst)] w fun e w' => e = .returned (.tuple #[.agg (ipA (findX K dst).1), .int .i64 (findX K dst).2]) ∧ Below w.heap.size w w' := by
  have hl := right_len hK
  obtain ⟨A, c, rfl, htr, -, hnc, hcm⟩ := hv
  obtain ⟨n, hnn⟩ : ∃ n, K.length = n := ⟨_, rfl⟩
  rw [hnn] at hl hnc ⊢
  have hcm2 : c ≤ 9223372036854775807 := by unfold maxLen at hcm; omega
  obtain ⟨w1, hw1⟩ : ∃ w1, (w.alloc (.cells (ipA dst) 26)).alloc (.cells Z4b 26) = w1 := ⟨_, rfl⟩
  have HB1 : Hid (Below w.heap.size w w1) := by rw [← hw1]; exact ((Below.refl _ _).alloc (Nat.le_refl _) _).alloc (by simp) _
  have HX0 : Hid (w1.heap[w.heap.size]? = some (.cells (ipA dst) 26 (0, 0))) := by rw [← hw1]; exact old_alloc (heap_alloc_new w _) _
  have HX1 : Hid (w1.heap[w.heap.size + 1]? = some (.cells Z4b 26 (0, 0))) := by rw [← hw1]; exact new_at1 w _ _
  have HW := Lib.hid hw1
  have HTR := Lib.hid (htr.below HB1.out (Nat.le_refl _))
  have HN := Lib.hid hnn
  have HRK := Lib.hid hK
  have HWI : Hid (∀ (r : Ro) (w : World), Calls Try.prog 28 #[.agg (ipA dst), .agg (ipA r.net), .int .i64 r.bits] w fun e w' => e = .returned (.bool (withinX dst r.net r.bits)) ∧ Below w.heap.size w w') := fun r w => within_any dst r.net r.bits w
  have HEZ : Hid (∀ (r : Ro) (w : World), (Op.equalIn 10000 26 (.agg (ipA r.via)) (.agg #[.int .u8 0, .int .u8 0, .int .u8 0, .int .u8 0])).run Try.prog w = .ok (decide (r.via = zeroIp)) w) := fun r w => eq_ip 9998 r.via zeroIp w
  have HST : Hid ((ipA dst).size = 4) := ipE.size _
  have HCT : Hid ((ipA dst).all (·.oneCell') = true) := ipE.one _
  obtain ⟨CT, hCT⟩ : ∃ CT, ipA dst = CT := ⟨_, rfl⟩
  have HCE := Lib.hid hCT
  rw [hCT] at HX0 HW HWI HST HCT ⊢
  clear hnn htr hcm hw1 hCT hK
  obtain ⟨g, hg⟩ : ∃ g, w.heap.size + 1 = g := ⟨_, rfl⟩
  rw [hg] at HX1
  have HG := Lib.hid hg
  clear hg
  go_enter Try.func15, Try.ntmps15
  go_upto_region 1 with (fail)
  change Code.wp _ _ _ _ ((w.alloc (.cells CT 26)).alloc (.cells Z4b 26))
  rw [HW.out, HG.out]
  clear HW
  go_wp2
  go_loopw [10] (fun t10 wr => ∃ i : Nat, i ≤ n ∧ t10 = .int .i64 (i : Int) ∧ Hid (∀ j h, j < i → K[j]? = some h → inX dst h = false) ∧ Hid (Below w1.heap.size w1 wr)) (fun t10 _ => n - (intOf t10).toNat)
  case atStart => exact ⟨0, Nat.zero_le _, rfl, Lib.hid (fun j h hj => by omega), Lib.hid (Below.refl _ _)⟩
  case round =>
    obtain ⟨i, hi, rfl, HNO, HBW⟩ := hrel
    have HXT := Lib.hid (old_below HX0.out HBW.out (row_lt HX0.out))
    have HXR := Lib.hid (old_below HX1.out HBW.out (row_lt HX1.out))
    have HTW := Lib.hid (HTR.out.below HBW.out (Nat.le_refl _))
    have HBV := Lib.hid (HB1.out.trans (HBW.out.mono HB1.out.size))
    have hgw : g < wr.heap.size := row_lt HXR.out
    have hww : w.heap.size < wr.heap.size := row_lt HXT.out
    by_cases hlt : i < n
    · obtain ⟨r, hr⟩ : ∃ r, K[i]? = some r := ⟨_, List.getElem?_eq_getElem (by rw [HN.out]; exact hlt)⟩
      have HR := Lib.hid hr
      obtain ⟨ad, rfl, hel⟩ := el_cells roE HTW.out (by omega) hr
      have HEL := Lib.hid hel
      have HRO : Hid ((roA r).all (·.oneCell') = true) := roE.one r
      have HRS : Hid ((roA r).size = 9) := roE.size r
      obtain ⟨w2, hw2⟩ : ∃ w2, wr.alloc (.cells (roA r) 28) = w2 := ⟨_, rfl⟩
      have HY0 : Hid (w2.heap[wr.heap.size]? = some (.cells (roA r) 28 (0, 0))) := by rw [← hw2]; exact heap_alloc_new wr _
      have HXT2 : Hid (w2.heap[w.heap.size]? = some (.cells CT 26 (0, 0))) := by rw [← hw2]; exact old_alloc HXT.out _
      have HXR2 : Hid (w2.heap[g]? = some (.cells Z4b 26 (0, 0))) := by rw [← hw2]; exact old_alloc HXR.out _
      have HB2 : Hid (Below w.heap.size w w2) := by rw [← hw2]; exact HBV.out.alloc HBV.out.size _
      have HBW2 : Hid (Below w1.heap.size w1 w2) := by rw [← hw2]; exact HBW.out.alloc HBW.out.size _
      have c4 : w2.cell? ⟨wr.heap.size, 4, none⟩ = some (.int .i64 r.bits) := (cell_of_row _ _ _ _ _ _ HY0.out).trans (roA_bits r)
      have KA := var_all HY0.out
      have HKN : Hid (∀ (j : Nat) v, (ipA r.net)[j]? = some v → w2.cell? ((⟨wr.heap.size, 0, none⟩ : Addr).add j) = some v) := fun j v hv => KA w2 (Below.refl _ _) j v (roA_net r j v hv)
      have HKV : Hid (∀ w', Below w2.heap.size w2 w' → ∀ (j : Nat) v, (ipA r.via)[j]? = some v → w'.cell? ((⟨wr.heap.size, 5, none⟩ : Addr).add j) = some v) := fun w' hb j v hv => by
        have := KA w' hb (5 + j) v (roA_via r j v hv)
        rw [Addr.add_mid] at this ⊢
        rw [← this]
        congr 2
        omega
      have HW2 := Lib.hid hw2
      have HSN : Hid ((ipA r.net).size = 4) := ipE.size _
      have HSV : Hid ((ipA r.via).size = 4) := ipE.size _
      have HOV : Hid ((ipA r.via).all (·.oneCell') = true) := ipE.one _
      have HCV : Hid (r.via ≠ zeroIp → viaX dst r = r.via) := fun h => if_neg h
      have HCW : Hid (r.via = zeroIp → viaX dst r = dst) := fun h => if_pos h
      have HF : Hid (withinX dst r.net r.bits = true → findX K dst = (viaX dst r, 0)) := fun h => find_first HRK.out hr h HNO.out
      have HF2 : Hid (withinX dst r.net r.bits = false → ∀ j h, j < i + 1 → K[j]? = some h → inX dst h = false) := fun h => no_next HNO.out hr h
      have heq := HEZ.out r
      replace HWI := Lib.hid (HWI.out r)
      clear hw2 hr hel KA
      generalize withinX dst r.net r.bits = wi at HWI HF HF2
      generalize r.bits = z at HWI c4
      generalize ipA r.net = CN at HWI HKN HSN
      obtain ⟨CV, hCV⟩ : ∃ CV, ipA r.via = CV := ⟨_, rfl⟩
      have HCC := Lib.hid hCV
      rw [hCV] at HKV heq HSV HOV
      clear hCV
      obtain ⟨CR, hCR⟩ : ∃ CR, roA r = CR := ⟨_, rfl⟩
      rw [hCR] at HEL HRO HRS HY0 HW2
      clear hCR
      go_upto_region 4 with (first | (refine wpList_load_atA rfl 28 _ rfl (ad.add (i * 9)) rfl CR _ HEL.out Try.underlying28 rfl (by rw [HRS.out]; kernel_rfl) ?_) | (refine wpList_store_new rfl 28 _ _ rfl wr zeroR CR rfl rfl (by rw [HRS.out]; kernel_rfl) (by rw [HRS.out]; rfl) HRO.out ?_))
      change Code.wp _ _ _ _ (wr.alloc (.cells CR 28))
      rw [HW2.out]
      clear HW2
      cases wi
      · have HNO2 := Lib.hid (HF2.out rfl)
        clear HF HF2 HCV HCW HCC
        go_wp2_with (first | (refine wpList_load_row rfl 26 _ rfl w.heap.size rfl 26 CT (0, 0) _ HXT2.out Try.underlying26 rfl (by rw [HST.out]; kernel_rfl) ?_) | (refine wpList_load_atA rfl 26 _ rfl ⟨wr.heap.size, 0, none⟩ rfl CN _ HKN.out Try.underlying26 rfl (by rw [HSN.out]; kernel_rfl) ?_))
        refine (HWI.out w2).mono ?_
        rintro e w3 ⟨rfl, hb3⟩
        have HB3 := Lib.hid (HBW2.out.trans (hb3.mono HBW2.out.size))
        clear hb3
        go_wp2
        go_roundw
        case rel => exact ⟨i + 1, by omega, by go_num, HNO2, HB3⟩
        case measure => simp [intOf]; omega
      · have HV := Lib.hid (HF.out rfl)
        clear HF HF2
        go_wp2_with (first | (refine wpList_load_row rfl 26 _ rfl w.heap.size rfl 26 CT (0, 0) _ HXT2.out Try.underlying26 rfl (by rw [HST.out]; kernel_rfl) ?_) | (refine wpList_load_atA rfl 26 _ rfl ⟨wr.heap.size, 0, none⟩ rfl CN _ HKN.out Try.underlying26 rfl (by rw [HSN.out]; kernel_rfl) ?_))
        refine (HWI.out w2).mono ?_
        rintro e w3 ⟨rfl, hb3⟩
        have HXT3 := Lib.hid (old_below HXT2.out hb3 (row_lt HXT2.out))
        have HXR3 := Lib.hid (old_below HXR2.out hb3 (row_lt HXR2.out))
        have HKV3 := Lib.hid (HKV.out w3 hb3)
        have HB3 := Lib.hid (HB2.out.trans (hb3.mono HB2.out.size))
        clear hb3
        by_cases hvz : r.via = zeroIp
        · rw [decide_eq_true hvz] at heq
          have HVV := Lib.hid (HCW.out hvz)
          clear hvz HCV HCW
          go_upto_region 6 with (refine wpList_load_atA rfl 26 _ rfl ⟨wr.heap.size, 5, none⟩ rfl CV _ HKV3.out Try.underlying26 rfl (by rw [HSV.out]; kernel_rfl) ?_)
          go_wp2_with (first | (refine wpList_load_row rfl 26 _ rfl w.heap.size rfl 26 CT (0, 0) _ HXT3.out Try.underlying26 rfl (by rw [HST.out]; kernel_rfl) ?_) | refine wpList_store_row rfl 26 _ _ rfl g CT rfl rfl 26 Z4b HXR3.out (by rw [HST.out]; kernel_rfl) (by rw [HST.out]; rfl) HCT.out ?_)
          try simp only [Exit.inBlock, Exit.then]
          refine ret_two (g := g) rfl rfl (setRow_heap _ _ _ _ _ _ HXR3.out) Try.underlying26 rfl (by rw [HST.out]; kernel_rfl) rfl ?_
          rw [HV.out, HVV.out]
          exact ⟨by rw [HCE.out]; rfl, below_setRow HB3.out (by have := HG.out; omega) _⟩
        · rw [decide_eq_false hvz] at heq
          have HVV := Lib.hid (HCV.out hvz)
          clear hvz HCV HCW
          go_upto_region 7 with (refine wpList_load_atA rfl 26 _ rfl ⟨wr.heap.size, 5, none⟩ rfl CV _ HKV3.out Try.underlying26 rfl (by rw [HSV.out]; kernel_rfl) ?_)
          go_wp2_with (first | (refine wpList_load_atA rfl 26 _ rfl ⟨wr.heap.size, 5, none⟩ rfl CV _ HKV3.out Try.underlying26 rfl (by rw [HSV.out]; kernel_rfl) ?_) | refine wpList_store_row rfl 26 _ _ rfl g CV rfl rfl 26 Z4b HXR3.out (by rw [HSV.out]; kernel_rfl) (by rw [HSV.out]; rfl) HOV.out ?_)
          try simp only [Exit.inBlock, Exit.then]
          refine ret_two (g := g) rfl rfl (setRow_heap _ _ _ _ _ _ HXR3.out) Try.underlying26 rfl (by rw [HSV.out]; kernel_rfl) rfl ?_
          rw [HV.out, HVV.out]
          exact ⟨by rw [HCC.out]; rfl, below_setRow HB3.out (by have := HG.out; omega) _⟩
    · obtain rfl : i = n := by omega
      have HV := Lib.hid (find_nowhere (dst := dst) HRK.out (fun j h hj => HNO.out j h (by rw [HN.out] at hj; exact hj)))
      go_wp2_with (refine wpList_store_row rfl 26 _ _ rfl g Z4b rfl rfl 26 Z4b HXR.out (by kernel_rfl) rfl (ipE.one zeroIp) ?_)
      refine ret_two (g := g) rfl rfl (setRow_heap _ _ _ _ _ _ HXR.out) Try.underlying26 rfl (by kernel_rfl) rfl ?_
      rw [HV.out]
      exact ⟨rfl, below_setRow HBV.out (by have := HG.out; omega) _⟩
end Go.Proofs.Ytfifigokglmjlaa
