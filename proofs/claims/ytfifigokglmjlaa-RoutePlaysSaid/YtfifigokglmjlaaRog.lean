/-
  The code's route.Right. Every slice of routes of at most sixty.
-/
import Derived.Test.YtfifigokglmjlaaRob
import Derived.Test.YtfifigokglmjlaaClR
import Derived.Test.YtfifigokglmjlaaRom
namespace Go.Proofs.Ytfifigokglmjlaa
open Go.RowKit

set_option maxRecDepth 100000 in
set_option maxHeartbeats 8000000 in
theorem right_any (v : Value) (K : List Ro) (w : World) (hv : RoT w v K) (hI : ∀ r ∈ K, I64 r.bits) (hl : K.length ≤ 60) : Calls Try.prog 13 #[v] w fun e w' => e = .returned (.bool (rightX K)) ∧ Below w.heap.size w w' := by
  obtain ⟨A, c, rfl, htr, hA, hnc, hcm⟩ := hv
  obtain ⟨n, hnn⟩ : ∃ n, K.length = n := ⟨_, rfl⟩
  rw [hnn] at hl hnc ⊢
  have hcm2 : c ≤ 9223372036854775807 := by unfold maxLen at hcm; omega
  have HTR := Lib.hid htr
  have HN := Lib.hid hnn
  have HII := Lib.hid hI
  clear hnn htr hA hcm hI
  by_cases hn8 : 8 < n
  · have HV : Hid (rightX K = false) := by
      show _ = _
      unfold rightX
      rw [decide_eq_false (by rw [HN.out]; omega), Bool.and_false]
    go_enter Try.func13, Try.ntmps13
    go_wp2
    go_ret
    rw [HV.out]
    exact ⟨rfl, Below.refl _ _⟩
  go_enter Try.func13, Try.ntmps13
  go_wp2
  go_loopw [10] (fun t10 wr => ∃ i : Nat, i ≤ n ∧ t10 = .int .i64 (i : Int) ∧ Hid (∀ j, j < i → okI K j = true) ∧ Hid (Below w.heap.size w wr)) (fun t10 _ => n - (intOf t10).toNat)
  case atStart => exact ⟨0, Nat.zero_le _, rfl, Lib.hid (fun j hj => by omega), Lib.hid (Below.refl _ _)⟩
  case round =>
    obtain ⟨i, hi, rfl, HOK, HBW⟩ := hrel
    by_cases hlt : i < n
    · obtain ⟨r, hr⟩ : ∃ r, K[i]? = some r := ⟨_, List.getElem?_eq_getElem (by rw [HN.out]; exact hlt)⟩
      have HR := Lib.hid hr
      have HI6 : Hid (I64 r.bits) := HII.out r (List.mem_of_getElem? hr)
      have HTW := Lib.hid (HTR.out.below HBW.out (Nat.le_refl _))
      obtain ⟨ad, rfl, hKA⟩ := el_all roE HTW.out (by omega) hr
      have HEL : Hid (∀ (j : Nat) v, (roA r)[j]? = some v → wr.cell? ((ad.add (i * 9)).add j) = some v) := hKA wr (Below.refl _ _)
      obtain ⟨w2, hw2⟩ : ∃ w2, wr.alloc (.cells (roA r) 28) = w2 := ⟨_, rfl⟩
      have HY0 : Hid (w2.heap[wr.heap.size]? = some (.cells (roA r) 28 (0, 0))) := by rw [← hw2]; exact heap_alloc_new wr _
      have HB2 : Hid (Below w.heap.size w w2) := by rw [← hw2]; exact HBW.out.alloc HBW.out.size _
      have HBR : Hid (Below wr.heap.size wr w2) := by rw [← hw2]; exact (Below.refl _ _).alloc (Nat.le_refl _) _
      have HW2 := Lib.hid hw2
      have KA := Lib.hid (var_all HY0.out)
      have A4 := Lib.hid (all_cell (o := 4) KA.out (roA_bits r))
      have AN := Lib.hid (all_part0 KA.out (roA_net r))
      have HBS : Hid (Below w2.heap.size w2 w2) := Below.refl _ _
      have HMY : Hid (∀ w, Calls Try.prog 21 #[.int .i64 r.bits] w fun e w' => e = .returned (.bool (mayX r.bits)) ∧ Below w.heap.size w w') := fun w => (may_any r.bits w).mono (by rintro e w' ⟨rfl, rfl⟩; exact ⟨rfl, Below.refl _ _⟩)
      have HRO : Hid ((roA r).all (·.oneCell') = true) := roE.one r
      have HRS : Hid ((roA r).size = 9) := roE.size r
      obtain ⟨CR, hCR⟩ : ∃ CR, roA r = CR := ⟨_, rfl⟩
      have HCR := Lib.hid hCR
      rw [hCR] at HEL HRO HRS HY0 HW2
      clear hw2 hr hCR
      by_cases hmy : 0 ≤ r.bits ∧ r.bits ≤ 32
      · obtain ⟨h0, h32⟩ := hmy
        obtain ⟨b, hb⟩ : ∃ b : Nat, r.bits = (b : Int) := Int.eq_ofNat_of_zero_le h0
        have HMK : Hid (∀ w, Calls Try.prog 22 #[.agg (ipA r.net), .int .i64 (b : Int)] w fun e w' => e = .returned (.agg (ipA (maskX r.net b))) ∧ Below w.heap.size w w') := fun w => bare_any r.net b w (by omega)
        have HEQ : Hid (∀ w, (Op.equalIn 10000 26 (.agg (ipA r.net)) (.agg (ipA (maskX r.net b)))).run Try.prog w = .ok (decide (r.net = maskX r.net b)) w) := eq_ip 9998 _ _
        have HR4 : Hid (r.bits = (b : Int)) := hb
        have HB32 : Hid ((b : Int) ≤ 32) := by show _ ≤ _; rw [← hb]; exact h32
        rw [show mayX r.bits = true from decide_eq_true ⟨h0, h32⟩, hb] at HMY
        rw [hb] at A4
        obtain ⟨CN, hCN⟩ : ∃ CN, ipA r.net = CN := ⟨_, rfl⟩
        have HCS : Hid (CN.size = 4) := by rw [← hCN]; exact ipE.size _
        obtain ⟨CM, hCM⟩ : ∃ CM, ipA (maskX r.net b) = CM := ⟨_, rfl⟩
        rw [hCN] at AN HMK HEQ
        rw [hCM] at HMK HEQ
        clear hCN hCM hb h0 h32 HI6
        by_cases hm : r.net = maskX r.net b
        · have heq := HEQ.out
          rw [decide_eq_true hm] at heq
          have HG : Hid (∀ p, okR p r = (match p with | none => true | some q => firstX q r)) := fun p => okR_good (by rw [HR4.out]; omega) (by rw [HR4.out]; exact HB32.out) (by rw [HR4.out]; exact hm.symm)
          clear HEQ hm
          rcases Nat.eq_zero_or_pos i with rfl | hi0
          · have HOK2 : Hid (∀ j, j < 0 + 1 → okI K j = true) := fun j hj => by
              obtain rfl : j = 0 := by omega
              rw [okI_at HR.out, HG.out]
              rfl
            clear hKA
            go_upto_region 6 with (first | (refine wpList_load_atA rfl 28 _ rfl (ad.add (0 * 9)) rfl CR _ HEL.out Try.underlying28 rfl (by rw [HRS.out]; kernel_rfl) ?_) | (refine wpList_store_new rfl 28 _ _ rfl wr zeroR CR rfl rfl (by rw [HRS.out]; kernel_rfl) (by rw [HRS.out]; rfl) HRO.out ?_))
            change Code.wp _ _ _ _ (wr.alloc (.cells CR 28))
            rw [HW2.out]
            clear HW2
            refine wp_region_quiet_below (by kernel_rfl) (by kernel_rfl) ?_
            (first | go_big_quiet_step (fail) | quiet_step (fail))
            (refine wpQuiet_step (fun K hK => ?_); refine quiet_load_cell (by kernel_rfl) 3 _ rfl ((⟨wr.heap.size, 0, none⟩ : Addr).add 4) (by first | rfl | (simp [Act.eval, Addr.add_mid])) (.int .i64 (b : Int)) _ A4.out Try.underlying3 rfl ?_; refine hK _ ?_; clear hK K; go_frame)
            quiet_step (first | (go_at_call 21; exact Calls.regrown_of (HMY.out _)))
            (first | go_big_quiet_step (fail) | quiet_step (fail))
            (first | go_big_quiet_step (fail) | quiet_step (fail))
            (first | go_big_quiet_step (fail) | quiet_step (fail))
            (refine wpQuiet_step (fun K hK => ?_); refine quiet_load_at (by kernel_rfl) 26 _ rfl (⟨wr.heap.size, 0, none⟩ : Addr) (by first | rfl | (simp [Act.eval, Addr.add_mid])) CN _ AN.out Try.underlying26 rfl (by rw [HCS.out]; kernel_rfl) ?_; refine hK _ ?_; clear hK K; go_frame)
            (first | go_big_quiet_step (fail) | quiet_step (fail))
            (refine wpQuiet_step (fun K hK => ?_); refine quiet_load_at (by kernel_rfl) 26 _ rfl (⟨wr.heap.size, 0, none⟩ : Addr) (by first | rfl | (simp [Act.eval, Addr.add_mid])) CN _ AN.out Try.underlying26 rfl (by rw [HCS.out]; kernel_rfl) ?_; refine hK _ ?_; clear hK K; go_frame)
            (first | go_big_quiet_step (fail) | quiet_step (fail))
            (refine wpQuiet_step (fun K hK => ?_); refine quiet_load_cell (by kernel_rfl) 3 _ rfl ((⟨wr.heap.size, 0, none⟩ : Addr).add 4) (by first | rfl | (simp [Act.eval, Addr.add_mid])) (.int .i64 (b : Int)) _ A4.out Try.underlying3 rfl ?_; refine hK _ ?_; clear hK K; go_frame)
            quiet_step (first | (go_at_call 22; exact Calls.regrown_of (HMK.out _)))
            (first | go_big_quiet_step (fail) | quiet_step (fail))
            (first | go_big_quiet_step (fail) | quiet_step (fail))
            refine wpQuiet_nil ?_
            intro w9 hw9
            obtain ⟨⟨dq, osq⟩, rfl⟩ := hw9
            have HB3 := Lib.hid ((HBS.out).trans ((below_regrown w2 dq osq).mono (HBS.out).size))
            generalize Sort.grow (redrawn w2 dq) osq = w3 at *
            go_upto_region 8 with (fail)
            refine wp_region_quiet_below (by kernel_rfl) (by kernel_rfl) ?_
            (first | go_big_quiet_step (fail) | quiet_step (fail))
            (first | go_big_quiet_step (fail) | quiet_step (fail))
            (first | go_big_quiet_step (fail) | quiet_step (fail))
            (first | go_big_quiet_step (fail) | quiet_step (fail))
            (first | go_big_quiet_step (fail) | quiet_step (fail))
            (first | go_big_quiet_step (fail) | quiet_step (fail))
            (first | go_big_quiet_step (fail) | quiet_step (fail))
            (first | go_big_quiet_step (fail) | quiet_step (fail))
            (first | go_big_quiet_step (fail) | quiet_step (fail))
            (first | go_big_quiet_step (fail) | quiet_step (fail))
            (first | go_big_quiet_step (fail) | quiet_step (fail))
            (first | go_big_quiet_step (fail) | quiet_step (fail))
            refine wpQuiet_nil ?_
            intro w9 hw9
            obtain ⟨⟨dq, osq⟩, rfl⟩ := hw9
            have HB4 := Lib.hid ((HB3.out).trans ((below_regrown w3 dq osq).mono (HB3.out).size))
            generalize Sort.grow (redrawn w3 dq) osq = w4 at *
            have HBN := Lib.hid (HB2.out.trans (HB4.out.mono HB2.out.size))
            go_wp2
            go_roundw
            case rel => exact ⟨0 + 1, by omega, by go_num, HOK2, HBN⟩
            case measure => simp [intOf]; omega
          · obtain ⟨i1, hi1⟩ : ∃ i1, i = i1 + 1 := ⟨i - 1, by omega⟩
            obtain ⟨q, hq⟩ : ∃ q, K[i1]? = some q := ⟨_, List.getElem?_eq_getElem (by rw [HN.out]; omega)⟩
            have HQ := Lib.hid hq
            obtain ⟨ad', had, hKQ⟩ := el_all roE HTW.out (by omega) hq
            injection had with had
            subst had
            have HKQ : Hid (∀ w', Below w2.heap.size w2 w' → ∀ (j : Nat) v, (roA q)[j]? = some v → w'.cell? ((ad.add (i1 * 9)).add j) = some v) := fun w' hb j v hv => hKQ w' (HBR.out.trans (hb.mono HBR.out.size)) j v hv
            have HKR : Hid (∀ w', Below w2.heap.size w2 w' → ∀ (j : Nat) v, (roA r)[j]? = some v → w'.cell? ((⟨wr.heap.size, 0, none⟩ : Addr).add j) = some v) := by rw [HCR.out]; exact var_all HY0.out
            have HFI : Hid (∀ w, Calls Try.prog 27 #[.agg (roA q), .agg (roA r)] w fun e w' => e = .returned (.bool (firstX q r)) ∧ Below w.heap.size w w') := fun w => ahead_any q r w
            have HPO : Hid (okI K i = firstX q r) := by
              show _ = _
              rw [okI_at HR.out, HG.out, if_neg (by omega), show i - 1 = i1 from by omega, HQ.out]
            have hsub : (i : Int) - 1 = (i1 : Int) := by omega
            have hi10 : (0 : Int) ≤ (i1 : Int) := by omega
            have hi1n : (i1 : Int) < (n : Int) := by omega
            have hi1m : i1 < n := by omega
            obtain ⟨CQ, hCQ⟩ : ∃ CQ, roA q = CQ := ⟨_, rfl⟩
            have HQS : Hid (CQ.size = 9) := by rw [← hCQ]; exact roE.size _
            rw [hCQ] at HKQ HFI
            rw [HCR.out] at HKR HFI
            have HI1 := Lib.hid hi1
            clear hCQ hq hKQ hKA hi1
            cases hf : firstX q r
            · have HV : Hid (rightX K = false) := right_false HR.out (by rw [HPO.out, hf])
              rw [hf] at HFI
              clear hf
              go_upto_region 6 with (first | (refine wpList_load_atA rfl 28 _ rfl (ad.add (i * 9)) rfl CR _ HEL.out Try.underlying28 rfl (by rw [HRS.out]; kernel_rfl) ?_) | (refine wpList_store_new rfl 28 _ _ rfl wr zeroR CR rfl rfl (by rw [HRS.out]; kernel_rfl) (by rw [HRS.out]; rfl) HRO.out ?_))
              change Code.wp _ _ _ _ (wr.alloc (.cells CR 28))
              rw [HW2.out]
              clear HW2
              refine wp_region_quiet_below (by kernel_rfl) (by kernel_rfl) ?_
              (first | go_big_quiet_step (fail) | quiet_step (fail))
              (refine wpQuiet_step (fun K hK => ?_); refine quiet_load_cell (by kernel_rfl) 3 _ rfl ((⟨wr.heap.size, 0, none⟩ : Addr).add 4) (by first | rfl | (simp [Act.eval, Addr.add_mid])) (.int .i64 (b : Int)) _ A4.out Try.underlying3 rfl ?_; refine hK _ ?_; clear hK K; go_frame)
              quiet_step (first | (go_at_call 21; exact Calls.regrown_of (HMY.out _)))
              (first | go_big_quiet_step (fail) | quiet_step (fail))
              (first | go_big_quiet_step (fail) | quiet_step (fail))
              (first | go_big_quiet_step (fail) | quiet_step (fail))
              (refine wpQuiet_step (fun K hK => ?_); refine quiet_load_at (by kernel_rfl) 26 _ rfl (⟨wr.heap.size, 0, none⟩ : Addr) (by first | rfl | (simp [Act.eval, Addr.add_mid])) CN _ AN.out Try.underlying26 rfl (by rw [HCS.out]; kernel_rfl) ?_; refine hK _ ?_; clear hK K; go_frame)
              (first | go_big_quiet_step (fail) | quiet_step (fail))
              (refine wpQuiet_step (fun K hK => ?_); refine quiet_load_at (by kernel_rfl) 26 _ rfl (⟨wr.heap.size, 0, none⟩ : Addr) (by first | rfl | (simp [Act.eval, Addr.add_mid])) CN _ AN.out Try.underlying26 rfl (by rw [HCS.out]; kernel_rfl) ?_; refine hK _ ?_; clear hK K; go_frame)
              (first | go_big_quiet_step (fail) | quiet_step (fail))
              (refine wpQuiet_step (fun K hK => ?_); refine quiet_load_cell (by kernel_rfl) 3 _ rfl ((⟨wr.heap.size, 0, none⟩ : Addr).add 4) (by first | rfl | (simp [Act.eval, Addr.add_mid])) (.int .i64 (b : Int)) _ A4.out Try.underlying3 rfl ?_; refine hK _ ?_; clear hK K; go_frame)
              quiet_step (first | (go_at_call 22; exact Calls.regrown_of (HMK.out _)))
              (first | go_big_quiet_step (fail) | quiet_step (fail))
              (first | go_big_quiet_step (fail) | quiet_step (fail))
              refine wpQuiet_nil ?_
              intro w9 hw9
              obtain ⟨⟨dq, osq⟩, rfl⟩ := hw9
              have HB3 := Lib.hid ((HBS.out).trans ((below_regrown w2 dq osq).mono (HBS.out).size))
              generalize Sort.grow (redrawn w2 dq) osq = w3 at *
              have KQ : Hid (∀ w', Reg w3 w' → ∀ (j : Nat) v, CQ[j]? = some v → w'.cell? ((ad.add (i1 * 9)).add j) = some v) := reg_cells HB3.out HKQ.out
              have KR : Hid (∀ w', Reg w3 w' → ∀ (j : Nat) v, CR[j]? = some v → w'.cell? ((⟨wr.heap.size, 0, none⟩ : Addr).add j) = some v) := reg_cells HB3.out HKR.out
              go_upto_region 8 with (fail)
              refine wp_region_quiet_below (by kernel_rfl) (by kernel_rfl) ?_
              (first | go_big_quiet_step (fail) | quiet_step (fail))
              (first | go_big_quiet_step (fail) | quiet_step (fail))
              (first | go_big_quiet_step (fail) | quiet_step (fail))
              (first | go_big_quiet_step (fail) | quiet_step (fail))
              (first | go_big_quiet_step (fail) | quiet_step (fail))
              (first | go_big_quiet_step (fail) | quiet_step (fail))
              (first | go_big_quiet_step (fail) | quiet_step (fail))
              (refine wpQuiet_step (fun K hK => ?_); refine quiet_load_at (by kernel_rfl) 28 _ rfl (ad.add (i1 * 9)) (by first | rfl | (simp [Act.eval, Addr.add_mid])) CQ _ KQ.out Try.underlying28 rfl (by rw [HQS.out]; kernel_rfl) ?_; refine hK _ ?_; clear hK K; go_frame)
              (refine wpQuiet_step (fun K hK => ?_); refine quiet_load_at (by kernel_rfl) 28 _ rfl (⟨wr.heap.size, 0, none⟩ : Addr) (by first | rfl | (simp [Act.eval, Addr.add_mid])) CR _ KR.out Try.underlying28 rfl (by rw [HRS.out]; kernel_rfl) ?_; refine hK _ ?_; clear hK K; go_frame)
              quiet_step (first | (go_at_call 27; exact Calls.regrown_of (HFI.out _)))
              (first | go_big_quiet_step (fail) | quiet_step (fail))
              (first | go_big_quiet_step (fail) | quiet_step (fail))
              refine wpQuiet_nil ?_
              intro w9 hw9
              obtain ⟨⟨dq, osq⟩, rfl⟩ := hw9
              have HB4 := Lib.hid ((HB3.out).trans ((below_regrown w3 dq osq).mono (HB3.out).size))
              generalize Sort.grow (redrawn w3 dq) osq = w4 at *
              go_wp2
              go_ret
              rw [HV.out]
              exact ⟨rfl, HB2.out.trans (HB4.out.mono HB2.out.size)⟩
            · have HOK2 : Hid (∀ j, j < i + 1 → okI K j = true) := fun j hj => by
                by_cases hji : j < i
                · exact HOK.out j hji
                · obtain rfl : j = i := by omega
                  rw [HPO.out, hf]
              rw [hf] at HFI
              clear hf
              go_upto_region 6 with (first | (refine wpList_load_atA rfl 28 _ rfl (ad.add (i * 9)) rfl CR _ HEL.out Try.underlying28 rfl (by rw [HRS.out]; kernel_rfl) ?_) | (refine wpList_store_new rfl 28 _ _ rfl wr zeroR CR rfl rfl (by rw [HRS.out]; kernel_rfl) (by rw [HRS.out]; rfl) HRO.out ?_))
              change Code.wp _ _ _ _ (wr.alloc (.cells CR 28))
              rw [HW2.out]
              clear HW2
              refine wp_region_quiet_below (by kernel_rfl) (by kernel_rfl) ?_
              (first | go_big_quiet_step (fail) | quiet_step (fail))
              (refine wpQuiet_step (fun K hK => ?_); refine quiet_load_cell (by kernel_rfl) 3 _ rfl ((⟨wr.heap.size, 0, none⟩ : Addr).add 4) (by first | rfl | (simp [Act.eval, Addr.add_mid])) (.int .i64 (b : Int)) _ A4.out Try.underlying3 rfl ?_; refine hK _ ?_; clear hK K; go_frame)
              quiet_step (first | (go_at_call 21; exact Calls.regrown_of (HMY.out _)))
              (first | go_big_quiet_step (fail) | quiet_step (fail))
              (first | go_big_quiet_step (fail) | quiet_step (fail))
              (first | go_big_quiet_step (fail) | quiet_step (fail))
              (refine wpQuiet_step (fun K hK => ?_); refine quiet_load_at (by kernel_rfl) 26 _ rfl (⟨wr.heap.size, 0, none⟩ : Addr) (by first | rfl | (simp [Act.eval, Addr.add_mid])) CN _ AN.out Try.underlying26 rfl (by rw [HCS.out]; kernel_rfl) ?_; refine hK _ ?_; clear hK K; go_frame)
              (first | go_big_quiet_step (fail) | quiet_step (fail))
              (refine wpQuiet_step (fun K hK => ?_); refine quiet_load_at (by kernel_rfl) 26 _ rfl (⟨wr.heap.size, 0, none⟩ : Addr) (by first | rfl | (simp [Act.eval, Addr.add_mid])) CN _ AN.out Try.underlying26 rfl (by rw [HCS.out]; kernel_rfl) ?_; refine hK _ ?_; clear hK K; go_frame)
              (first | go_big_quiet_step (fail) | quiet_step (fail))
              (refine wpQuiet_step (fun K hK => ?_); refine quiet_load_cell (by kernel_rfl) 3 _ rfl ((⟨wr.heap.size, 0, none⟩ : Addr).add 4) (by first | rfl | (simp [Act.eval, Addr.add_mid])) (.int .i64 (b : Int)) _ A4.out Try.underlying3 rfl ?_; refine hK _ ?_; clear hK K; go_frame)
              quiet_step (first | (go_at_call 22; exact Calls.regrown_of (HMK.out _)))
              (first | go_big_quiet_step (fail) | quiet_step (fail))
              (first | go_big_quiet_step (fail) | quiet_step (fail))
              refine wpQuiet_nil ?_
              intro w9 hw9
              obtain ⟨⟨dq, osq⟩, rfl⟩ := hw9
              have HB3 := Lib.hid ((HBS.out).trans ((below_regrown w2 dq osq).mono (HBS.out).size))
              generalize Sort.grow (redrawn w2 dq) osq = w3 at *
              have KQ : Hid (∀ w', Reg w3 w' → ∀ (j : Nat) v, CQ[j]? = some v → w'.cell? ((ad.add (i1 * 9)).add j) = some v) := reg_cells HB3.out HKQ.out
              have KR : Hid (∀ w', Reg w3 w' → ∀ (j : Nat) v, CR[j]? = some v → w'.cell? ((⟨wr.heap.size, 0, none⟩ : Addr).add j) = some v) := reg_cells HB3.out HKR.out
              go_upto_region 8 with (fail)
              refine wp_region_quiet_below (by kernel_rfl) (by kernel_rfl) ?_
              (first | go_big_quiet_step (fail) | quiet_step (fail))
              (first | go_big_quiet_step (fail) | quiet_step (fail))
              (first | go_big_quiet_step (fail) | quiet_step (fail))
              (first | go_big_quiet_step (fail) | quiet_step (fail))
              (first | go_big_quiet_step (fail) | quiet_step (fail))
              (first | go_big_quiet_step (fail) | quiet_step (fail))
              (first | go_big_quiet_step (fail) | quiet_step (fail))
              (refine wpQuiet_step (fun K hK => ?_); refine quiet_load_at (by kernel_rfl) 28 _ rfl (ad.add (i1 * 9)) (by first | rfl | (simp [Act.eval, Addr.add_mid])) CQ _ KQ.out Try.underlying28 rfl (by rw [HQS.out]; kernel_rfl) ?_; refine hK _ ?_; clear hK K; go_frame)
              (refine wpQuiet_step (fun K hK => ?_); refine quiet_load_at (by kernel_rfl) 28 _ rfl (⟨wr.heap.size, 0, none⟩ : Addr) (by first | rfl | (simp [Act.eval, Addr.add_mid])) CR _ KR.out Try.underlying28 rfl (by rw [HRS.out]; kernel_rfl) ?_; refine hK _ ?_; clear hK K; go_frame)
              quiet_step (first | (go_at_call 27; exact Calls.regrown_of (HFI.out _)))
              (first | go_big_quiet_step (fail) | quiet_step (fail))
              (first | go_big_quiet_step (fail) | quiet_step (fail))
              refine wpQuiet_nil ?_
              intro w9 hw9
              obtain ⟨⟨dq, osq⟩, rfl⟩ := hw9
              have HB4 := Lib.hid ((HB3.out).trans ((below_regrown w3 dq osq).mono (HB3.out).size))
              generalize Sort.grow (redrawn w3 dq) osq = w4 at *
              have HBN := Lib.hid (HB2.out.trans (HB4.out.mono HB2.out.size))
              go_wp2
              go_roundw
              case rel => exact ⟨i + 1, by omega, by go_num, HOK2, HBN⟩
              case measure => simp [intOf]; omega
        · have heq := HEQ.out
          rw [decide_eq_false hm] at heq
          have HV : Hid (rightX K = false) := right_false HR.out ((okI_at HR.out).trans (okR_bits (.inr (.inr (by rw [HR4.out]; exact fun h => hm h.symm)))))
          clear HEQ hm hKA
          go_upto_region 6 with (first | (refine wpList_load_atA rfl 28 _ rfl (ad.add (i * 9)) rfl CR _ HEL.out Try.underlying28 rfl (by rw [HRS.out]; kernel_rfl) ?_) | (refine wpList_store_new rfl 28 _ _ rfl wr zeroR CR rfl rfl (by rw [HRS.out]; kernel_rfl) (by rw [HRS.out]; rfl) HRO.out ?_))
          change Code.wp _ _ _ _ (wr.alloc (.cells CR 28))
          rw [HW2.out]
          clear HW2
          refine wp_region_quiet_below (by kernel_rfl) (by kernel_rfl) ?_
          (first | go_big_quiet_step (fail) | quiet_step (fail))
          (refine wpQuiet_step (fun K hK => ?_); refine quiet_load_cell (by kernel_rfl) 3 _ rfl ((⟨wr.heap.size, 0, none⟩ : Addr).add 4) (by first | rfl | (simp [Act.eval, Addr.add_mid])) (.int .i64 (b : Int)) _ A4.out Try.underlying3 rfl ?_; refine hK _ ?_; clear hK K; go_frame)
          quiet_step (first | (go_at_call 21; exact Calls.regrown_of (HMY.out _)))
          (first | go_big_quiet_step (fail) | quiet_step (fail))
          (first | go_big_quiet_step (fail) | quiet_step (fail))
          (first | go_big_quiet_step (fail) | quiet_step (fail))
          (refine wpQuiet_step (fun K hK => ?_); refine quiet_load_at (by kernel_rfl) 26 _ rfl (⟨wr.heap.size, 0, none⟩ : Addr) (by first | rfl | (simp [Act.eval, Addr.add_mid])) CN _ AN.out Try.underlying26 rfl (by rw [HCS.out]; kernel_rfl) ?_; refine hK _ ?_; clear hK K; go_frame)
          (first | go_big_quiet_step (fail) | quiet_step (fail))
          (refine wpQuiet_step (fun K hK => ?_); refine quiet_load_at (by kernel_rfl) 26 _ rfl (⟨wr.heap.size, 0, none⟩ : Addr) (by first | rfl | (simp [Act.eval, Addr.add_mid])) CN _ AN.out Try.underlying26 rfl (by rw [HCS.out]; kernel_rfl) ?_; refine hK _ ?_; clear hK K; go_frame)
          (first | go_big_quiet_step (fail) | quiet_step (fail))
          (refine wpQuiet_step (fun K hK => ?_); refine quiet_load_cell (by kernel_rfl) 3 _ rfl ((⟨wr.heap.size, 0, none⟩ : Addr).add 4) (by first | rfl | (simp [Act.eval, Addr.add_mid])) (.int .i64 (b : Int)) _ A4.out Try.underlying3 rfl ?_; refine hK _ ?_; clear hK K; go_frame)
          quiet_step (first | (go_at_call 22; exact Calls.regrown_of (HMK.out _)))
          (first | go_big_quiet_step (fail) | quiet_step (fail))
          (first | go_big_quiet_step (fail) | quiet_step (fail))
          refine wpQuiet_nil ?_
          intro w9 hw9
          obtain ⟨⟨dq, osq⟩, rfl⟩ := hw9
          have HB3 := Lib.hid ((HBS.out).trans ((below_regrown w2 dq osq).mono (HBS.out).size))
          generalize Sort.grow (redrawn w2 dq) osq = w3 at *
          go_wp2
          go_ret
          rw [HV.out]
          exact ⟨rfl, HB2.out.trans (HB3.out.mono HB2.out.size)⟩
      · have HV : Hid (rightX K = false) := right_false HR.out ((okI_at HR.out).trans (okR_bits (by omega)))
        rw [show mayX r.bits = false from decide_eq_false hmy] at HMY
        obtain ⟨z, hz⟩ : ∃ z, r.bits = z := ⟨_, rfl⟩
        rw [hz] at A4 HMY
        clear hKA hmy hz
        go_upto_region 6 with (first | (refine wpList_load_atA rfl 28 _ rfl (ad.add (i * 9)) rfl CR _ HEL.out Try.underlying28 rfl (by rw [HRS.out]; kernel_rfl) ?_) | (refine wpList_store_new rfl 28 _ _ rfl wr zeroR CR rfl rfl (by rw [HRS.out]; kernel_rfl) (by rw [HRS.out]; rfl) HRO.out ?_))
        change Code.wp _ _ _ _ (wr.alloc (.cells CR 28))
        rw [HW2.out]
        clear HW2
        refine wp_region_quiet_below (by kernel_rfl) (by kernel_rfl) ?_
        (first | go_big_quiet_step (fail) | quiet_step (fail))
        (refine wpQuiet_step (fun K hK => ?_); refine quiet_load_cell (by kernel_rfl) 3 _ rfl ((⟨wr.heap.size, 0, none⟩ : Addr).add 4) (by first | rfl | (simp [Act.eval, Addr.add_mid])) (.int .i64 z) _ A4.out Try.underlying3 rfl ?_; refine hK _ ?_; clear hK K; go_frame)
        quiet_step (first | (go_at_call 21; exact Calls.regrown_of (HMY.out _)))
        (first | go_big_quiet_step (fail) | quiet_step (fail))
        (first | go_big_quiet_step (fail) | quiet_step (fail))
        (first | go_big_quiet_step (fail) | quiet_step (fail))
        (first | go_big_quiet_step (fail) | quiet_step (fail))
        (first | go_big_quiet_step (fail) | quiet_step (fail))
        (first | go_big_quiet_step (fail) | quiet_step (fail))
        (first | go_big_quiet_step (fail) | quiet_step (fail))
        (first | go_big_quiet_step (fail) | quiet_step (fail))
        (first | go_big_quiet_step (fail) | quiet_step (fail))
        (first | go_big_quiet_step (fail) | quiet_step (fail))
        (first | go_big_quiet_step (fail) | quiet_step (fail))
        refine wpQuiet_nil ?_
        intro w9 hw9
        obtain ⟨⟨dq, osq⟩, rfl⟩ := hw9
        have HB3 := Lib.hid ((HBS.out).trans ((below_regrown w2 dq osq).mono (HBS.out).size))
        generalize Sort.grow (redrawn w2 dq) osq = w3 at *
        go_wp2
        go_ret
        rw [HV.out]
        exact ⟨rfl, HB2.out.trans (HB3.out.mono HB2.out.size)⟩
    · obtain rfl : i = n := by omega
      have HV : Hid (rightX K = true) := by
        have := right_end (K := K) (fun j hj => HOK.out j (by rw [HN.out] at hj; exact hj))
        rw [HN.out] at this
        show _ = _
        rw [this]
        exact decide_eq_true (by omega)
      go_wp2
      go_ret
      rw [HV.out]
      exact ⟨rfl, HBW.out⟩
end Go.Proofs.Ytfifigokglmjlaa
