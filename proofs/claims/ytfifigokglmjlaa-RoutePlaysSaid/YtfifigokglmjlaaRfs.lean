/-
  The document's Same of routes. Every two slices of routes.
-/
import Derived.Test.YtfifigokglmjlaaRff
namespace Go.Proofs.Ytfifigokglmjlaa
open Go.RowKit

theorem list_same {α : Type} {K M : List α} (hl : K.length = M.length) (h : ∀ j, j < K.length → K[j]? = M[j]?) : K = M := by
  refine List.ext_getElem? fun j => ?_
  by_cases hj : j < K.length
  · exact h j hj
  · rw [List.getElem?_eq_none (by omega), List.getElem?_eq_none (by omega)]
set_option maxRecDepth 100000 in
set_option maxHeartbeats 4000000 in
theorem same_any (v u : Value) (K M : List Ro) (w : World) (hv : RoT w v K) (hu : RoT w u M) (hl : K.length ≤ 140737488351232) : Calls Try.prog 10 #[v, u] w fun e w' => e = .returned (.bool (decide (K = M))) ∧ Below w.heap.size w w' := by
  obtain ⟨A, c, rfl, htr, -, hnc, hcm⟩ := hv
  obtain ⟨B, d, rfl, htr2, -, hmd, hdm⟩ := hu
  obtain ⟨n, hnn⟩ : ∃ n, K.length = n := ⟨_, rfl⟩
  obtain ⟨m, hmm⟩ : ∃ m, M.length = m := ⟨_, rfl⟩
  rw [hnn] at hl hnc ⊢
  rw [hmm] at hmd ⊢
  have hcm2 : c ≤ 9223372036854775807 := by unfold maxLen at hcm; omega
  have hdm2 : d ≤ 9223372036854775807 := by unfold maxLen at hdm; omega
  have HTR := Lib.hid htr
  have HTS := Lib.hid htr2
  have HN := Lib.hid hnn
  have HM := Lib.hid hmm
  clear hnn hmm htr htr2 hcm hdm
  by_cases hnm : n = m
  · subst hnm
    go_enter Try.func10, Try.ntmps10
    go_wp2
    go_loopw [5] (fun t5 wr => ∃ i : Nat, i ≤ n ∧ t5 = .int .i64 (i : Int) ∧ Hid (∀ j, j < i → K[j]? = M[j]?) ∧ Hid (Below w.heap.size w wr)) (fun t5 _ => n - (intOf t5).toNat)
    case atStart => exact ⟨0, Nat.zero_le _, rfl, Lib.hid (fun j hj => by omega), Lib.hid (Below.refl _ _)⟩
    case round =>
      obtain ⟨i, hi, rfl, HOK, HBW⟩ := hrel
      by_cases hlt : i < n
      · obtain ⟨r, hr⟩ : ∃ r, K[i]? = some r := ⟨_, List.getElem?_eq_getElem (by rw [HN.out]; exact hlt)⟩
        obtain ⟨s, hs⟩ : ∃ s, M[i]? = some s := ⟨_, List.getElem?_eq_getElem (by rw [HM.out]; exact hlt)⟩
        have HR := Lib.hid hr
        have HS := Lib.hid hs
        obtain ⟨ad, rfl, hKA⟩ := el_all roE (HTR.out.below HBW.out (Nat.le_refl _)) (by omega) hr
        obtain ⟨bd, rfl, hKB⟩ := el_all roE (HTS.out.below HBW.out (Nat.le_refl _)) (by omega) hs
        have KR : Hid (∀ w', Reg wr w' → ∀ (j : Nat) v, (roA r)[j]? = some v → w'.cell? ((ad.add (i * 9)).add j) = some v) := fun w' hr j v hv => hKA w' (reg_below hr) j v hv
        have KS : Hid (∀ w', Reg wr w' → ∀ (j : Nat) v, (roA s)[j]? = some v → w'.cell? ((bd.add (i * 9)).add j) = some v) := fun w' hr j v hv => hKB w' (reg_below hr) j v hv
        have heq : ∀ w, (Op.equalIn 10000 28 (.agg (roA r)) (.agg (roA s))).run Try.prog w = .ok (decide (r = s)) w := eq_ro 9997 r s
        obtain ⟨CR, hCR⟩ : ∃ CR, roA r = CR := ⟨_, rfl⟩
        obtain ⟨CS, hCS⟩ : ∃ CS, roA s = CS := ⟨_, rfl⟩
        have HRS : Hid (CR.size = 9) := by rw [← hCR]; exact roE.size _
        have HSS : Hid (CS.size = 9) := by rw [← hCS]; exact roE.size _
        rw [hCR] at KR heq
        rw [hCS] at KS heq
        clear hKA hKB hr hs hCR hCS
        by_cases hrs : r = s
        · have HOK2 : Hid (∀ j, j < i + 1 → K[j]? = M[j]?) := fun j hj => by
            by_cases hji : j < i
            · exact HOK.out j hji
            · obtain rfl : j = i := by omega
              rw [HR.out, HS.out, hrs]
          rw [decide_eq_true hrs] at heq
          clear hrs
          go_upto_region 6 with (fail)
          refine wp_region_quiet_below (by kernel_rfl) (by kernel_rfl) ?_
          (first | go_big_quiet_step (fail) | quiet_step (fail))
          (first | go_big_quiet_step (fail) | quiet_step (fail))
          (first | go_big_quiet_step (fail) | quiet_step (fail))
          (refine wpQuiet_step (fun K hK => ?_); refine quiet_load_at (by kernel_rfl) 28 _ rfl (ad.add (i * 9)) (by first | rfl | (simp [Act.eval, Addr.add_mid])) CR _ KR.out Try.underlying28 rfl (by rw [HRS.out]; kernel_rfl) ?_; refine hK _ ?_; clear hK K; go_frame)
          (first | go_big_quiet_step (fail) | quiet_step (fail))
          (first | go_big_quiet_step (fail) | quiet_step (fail))
          (first | go_big_quiet_step (fail) | quiet_step (fail))
          (refine wpQuiet_step (fun K hK => ?_); refine quiet_load_at (by kernel_rfl) 28 _ rfl (bd.add (i * 9)) (by first | rfl | (simp [Act.eval, Addr.add_mid])) CS _ KS.out Try.underlying28 rfl (by rw [HSS.out]; kernel_rfl) ?_; refine hK _ ?_; clear hK K; go_frame)
          (first | go_big_quiet_step (fail) | quiet_step (fail))
          refine wpQuiet_nil ?_
          intro w9 hw9
          obtain ⟨⟨dq, osq⟩, rfl⟩ := hw9
          have HB9 := Lib.hid ((HBW.out).trans ((below_regrown wr dq osq).mono (HBW.out).size))
          generalize Sort.grow (redrawn wr dq) osq = w9b at *
          go_wp2
          go_roundw
          case rel => exact ⟨i + 1, by omega, by go_num, HOK2, HB9⟩
          case measure => simp [intOf]; omega
        · have HV : Hid (decide (K = M) = false) := decide_eq_false fun e => by
            have := HR.out
            rw [e, HS.out] at this
            injection this with this
            exact hrs this.symm
          rw [decide_eq_false hrs] at heq
          clear hrs
          go_upto_region 6 with (fail)
          refine wp_region_quiet_below (by kernel_rfl) (by kernel_rfl) ?_
          (first | go_big_quiet_step (fail) | quiet_step (fail))
          (first | go_big_quiet_step (fail) | quiet_step (fail))
          (first | go_big_quiet_step (fail) | quiet_step (fail))
          (refine wpQuiet_step (fun K hK => ?_); refine quiet_load_at (by kernel_rfl) 28 _ rfl (ad.add (i * 9)) (by first | rfl | (simp [Act.eval, Addr.add_mid])) CR _ KR.out Try.underlying28 rfl (by rw [HRS.out]; kernel_rfl) ?_; refine hK _ ?_; clear hK K; go_frame)
          (first | go_big_quiet_step (fail) | quiet_step (fail))
          (first | go_big_quiet_step (fail) | quiet_step (fail))
          (first | go_big_quiet_step (fail) | quiet_step (fail))
          (refine wpQuiet_step (fun K hK => ?_); refine quiet_load_at (by kernel_rfl) 28 _ rfl (bd.add (i * 9)) (by first | rfl | (simp [Act.eval, Addr.add_mid])) CS _ KS.out Try.underlying28 rfl (by rw [HSS.out]; kernel_rfl) ?_; refine hK _ ?_; clear hK K; go_frame)
          (first | go_big_quiet_step (fail) | quiet_step (fail))
          refine wpQuiet_nil ?_
          intro w9 hw9
          obtain ⟨⟨dq, osq⟩, rfl⟩ := hw9
          have HB9 := Lib.hid ((HBW.out).trans ((below_regrown wr dq osq).mono (HBW.out).size))
          generalize Sort.grow (redrawn wr dq) osq = w9b at *
          go_wp2
          go_ret
          rw [HV.out]
          exact ⟨rfl, HB9.out⟩
      · obtain rfl : i = n := by omega
        have HV : Hid (decide (K = M) = true) := decide_eq_true (list_same (HN.out.trans HM.out.symm) fun j hj => HOK.out j (by rw [HN.out] at hj; exact hj))
        go_wp2
        go_ret
        rw [HV.out]
        exact ⟨rfl, HBW.out⟩
  · have HV : Hid (decide (K = M) = false) := decide_eq_false fun e => hnm (by rw [← HN.out, ← HM.out, e])
    have hnm2 : ¬ (n : Int) = (m : Int) := by omega
    go_enter Try.func10, Try.ntmps10
    go_wp2
    go_ret
    rw [HV.out]
    exact ⟨rfl, Below.refl _ _⟩
end Go.Proofs.Ytfifigokglmjlaa
