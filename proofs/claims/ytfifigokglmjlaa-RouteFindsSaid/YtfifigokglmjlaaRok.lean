/-
  route.before. Every slice of routes, every route.
-/
import Derived.Test.YtfifigokglmjlaaRob
import Derived.Test.YtfifigokglmjlaaRom
namespace Go.Proofs.Ytfifigokglmjlaa
open Go.RowKit

/-- how many stand ahead -/
def befX (K : List Ro) (r : Ro) : Nat := (K.takeWhile (fun q => firstX q r)).length
theorem take_while_stop {α : Type} {p : α → Bool} : ∀ {K : List α} {i : Nat} {x : α}, K[i]? = some x → p x = false → (∀ j h, j < i → K[j]? = some h → p h = true) → (K.takeWhile p).length = i
  | [], _, _, h, _, _ => by simp at h
  | y :: K, 0, x, h, hx, _ => by
    simp at h
    rw [← h] at hx
    rw [List.takeWhile_cons, hx]
    rfl
  | y :: K, i + 1, x, h, hx, ha => by
    rw [List.takeWhile_cons, ha 0 y (by omega) rfl, if_pos rfl, List.length_cons, take_while_stop (by simpa using h) hx (fun j h hj hh => ha (j + 1) h (by omega) (by simpa using hh))]
theorem take_while_end {α : Type} {p : α → Bool} : ∀ {K : List α}, (∀ j h, j < K.length → K[j]? = some h → p h = true) → (K.takeWhile p).length = K.length
  | [], _ => rfl
  | y :: K, ha => by
    rw [List.takeWhile_cons, ha 0 y (by simp) rfl, if_pos rfl, List.length_cons, take_while_end fun j h hj hh => ha (j + 1) h (by simp; omega) (by simpa using hh), List.length_cons]
set_option maxRecDepth 100000 in
set_option maxHeartbeats 8000000 in
theorem before_any (v : Value) (K : List Ro) (r : Ro) (w : World) (hv : RoT w v K) (hl : K.length ≤ 1000) : Calls Try.prog 24 #[v, .agg (roA r)] w fun e w' => e = .returned (.int .i64 (befX K r : Int)) ∧ Below w.heap.size w w' := by
  obtain ⟨A, c, rfl, htr, hA, hnc, hcm⟩ := hv
  obtain ⟨n, hnn⟩ : ∃ n, K.length = n := ⟨_, rfl⟩
  rw [hnn] at hl hnc ⊢
  have hcm2 : c ≤ 9223372036854775807 := by unfold maxLen at hcm; omega
  obtain ⟨w1, hw1⟩ : ∃ w1, w.alloc (.cells (roA r) 28) = w1 := ⟨_, rfl⟩
  have HB1 : Hid (Below w.heap.size w w1) := by rw [← hw1]; exact (Below.refl _ _).alloc (Nat.le_refl _) _
  have HX0 : Hid (w1.heap[w.heap.size]? = some (.cells (roA r) 28 (0, 0))) := by rw [← hw1]; exact heap_alloc_new w _
  have HTR := Lib.hid (htr.below HB1.out (Nat.le_refl _))
  have HN := Lib.hid hnn
  have HFA : Hid (∀ (q : Ro) (w : World), Calls Try.prog 27 #[.agg (roA q), .agg (roA r)] w fun e w' => e = .returned (.bool (firstX q r)) ∧ Below w.heap.size w w') := fun q w => ahead_any q r w
  have HRS : Hid ((roA r).size = 9) := roE.size r
  have HW := Lib.hid hw1
  obtain ⟨CR, hCR⟩ : ∃ CR, roA r = CR := ⟨_, rfl⟩
  rw [hCR] at HFA HX0 HRS HW ⊢
  clear hnn htr hA hcm hw1 hCR
  go_enter Try.func24, Try.ntmps24
  go_upto_region 1 with (fail)
  change Code.wp _ _ _ _ (w.alloc (.cells CR 28))
  rw [HW.out]
  clear HW
  go_wp2
  go_loopw [5] (fun t5 wr => ∃ i : Nat, i ≤ n ∧ t5 = .int .i64 (i : Int) ∧ Hid (∀ j h, j < i → K[j]? = some h → firstX h r = true) ∧ Hid (Below w1.heap.size w1 wr)) (fun t5 _ => n - (intOf t5).toNat)
  case atStart => exact ⟨0, Nat.zero_le _, rfl, Lib.hid (fun j h hj => by omega), Lib.hid (Below.refl _ _)⟩
  case round =>
    obtain ⟨i, hi, rfl, HYS, HBW⟩ := hrel
    have HTW := Lib.hid (HTR.out.below HBW.out (Nat.le_refl _))
    by_cases hlt : i < n
    · obtain ⟨q, hq⟩ : ∃ q, K[i]? = some q := ⟨_, List.getElem?_eq_getElem (by rw [HN.out]; exact hlt)⟩
      have HQ := Lib.hid hq
      obtain ⟨ad, rfl, hKA⟩ := el_all roE HTW.out (by omega) hq
      have KQ : Hid (∀ w', Reg wr w' → ∀ (j : Nat) v, (roA q)[j]? = some v → w'.cell? ((ad.add (i * 9)).add j) = some v) := fun w' hr j v hv => hKA w' (reg_below hr) j v hv
      have KR : Hid (∀ w', Reg wr w' → ∀ (j : Nat) v, CR[j]? = some v → w'.cell? ((⟨w.heap.size, 0, none⟩ : Addr).add j) = some v) := fun w' hr j v hv => var_all HX0.out w' (HBW.out.trans ((reg_below hr).mono HBW.out.size)) j v hv
      have HFI := Lib.hid (HFA.out q)
      have HQS : Hid ((roA q).size = 9) := roE.size q
      obtain ⟨CQ, hCQ⟩ : ∃ CQ, roA q = CQ := ⟨_, rfl⟩
      rw [hCQ] at KQ HFI HQS
      clear hKA hq hCQ
      cases hf : firstX q r
      · have HV : Hid (befX K r = i) := take_while_stop HQ.out hf HYS.out
        rw [hf] at HFI
        clear hf
        go_upto_region 2 with (fail)
        refine wp_region_quiet_below (by kernel_rfl) (by kernel_rfl) ?_
        (first | go_big_quiet_step (fail) | quiet_step (fail))
        (first | go_big_quiet_step (fail) | quiet_step (fail))
        (first | go_big_quiet_step (fail) | quiet_step (fail))
        (first | go_big_quiet_step (fail) | quiet_step (fail))
        (first | go_big_quiet_step (fail) | quiet_step (fail))
        (first | go_big_quiet_step (fail) | quiet_step (fail))
        (first | go_big_quiet_step (fail) | quiet_step (fail))
        (first | go_big_quiet_step (fail) | quiet_step (fail))
        (refine wpQuiet_step (fun K hK => ?_); refine quiet_load_at (by kernel_rfl) 28 _ rfl (ad.add (i * 9)) (by first | rfl | (simp [Act.eval, Addr.add_mid])) CQ _ KQ.out Try.underlying28 rfl (by rw [HQS.out]; kernel_rfl) ?_; refine hK _ ?_; clear hK K; go_frame)
        (refine wpQuiet_step (fun K hK => ?_); refine quiet_load_at (by kernel_rfl) 28 _ rfl (⟨w.heap.size, 0, none⟩ : Addr) (by first | rfl | (simp [Act.eval, Addr.add_mid])) CR _ KR.out Try.underlying28 rfl (by rw [HRS.out]; kernel_rfl) ?_; refine hK _ ?_; clear hK K; go_frame)
        quiet_step (first | (go_at_call 27; exact Calls.regrown_of (HFI.out _)))
        (first | go_big_quiet_step (fail) | quiet_step (fail))
        refine wpQuiet_nil ?_
        intro w9 hw9
        obtain ⟨⟨dq, osq⟩, rfl⟩ := hw9
        have HB9 := Lib.hid ((HBW.out).trans ((below_regrown wr dq osq).mono (HBW.out).size))
        generalize Sort.grow (redrawn wr dq) osq = w9b at *
        go_wp2
        go_ret
        rw [HV.out]
        exact ⟨rfl, HB1.out.trans (HB9.out.mono HB1.out.size)⟩
      · have HY2 : Hid (∀ j h, j < i + 1 → K[j]? = some h → firstX h r = true) := fun j h hj hh => by
          by_cases hji : j < i
          · exact HYS.out j h hji hh
          · obtain rfl : j = i := by omega
            rw [HQ.out] at hh
            injection hh with hh
            rw [← hh]
            exact hf
        rw [hf] at HFI
        clear hf
        go_upto_region 2 with (fail)
        refine wp_region_quiet_below (by kernel_rfl) (by kernel_rfl) ?_
        (first | go_big_quiet_step (fail) | quiet_step (fail))
        (first | go_big_quiet_step (fail) | quiet_step (fail))
        (first | go_big_quiet_step (fail) | quiet_step (fail))
        (first | go_big_quiet_step (fail) | quiet_step (fail))
        (first | go_big_quiet_step (fail) | quiet_step (fail))
        (first | go_big_quiet_step (fail) | quiet_step (fail))
        (first | go_big_quiet_step (fail) | quiet_step (fail))
        (first | go_big_quiet_step (fail) | quiet_step (fail))
        (refine wpQuiet_step (fun K hK => ?_); refine quiet_load_at (by kernel_rfl) 28 _ rfl (ad.add (i * 9)) (by first | rfl | (simp [Act.eval, Addr.add_mid])) CQ _ KQ.out Try.underlying28 rfl (by rw [HQS.out]; kernel_rfl) ?_; refine hK _ ?_; clear hK K; go_frame)
        (refine wpQuiet_step (fun K hK => ?_); refine quiet_load_at (by kernel_rfl) 28 _ rfl (⟨w.heap.size, 0, none⟩ : Addr) (by first | rfl | (simp [Act.eval, Addr.add_mid])) CR _ KR.out Try.underlying28 rfl (by rw [HRS.out]; kernel_rfl) ?_; refine hK _ ?_; clear hK K; go_frame)
        quiet_step (first | (go_at_call 27; exact Calls.regrown_of (HFI.out _)))
        (first | go_big_quiet_step (fail) | quiet_step (fail))
        refine wpQuiet_nil ?_
        intro w9 hw9
        obtain ⟨⟨dq, osq⟩, rfl⟩ := hw9
        have HB9 := Lib.hid ((HBW.out).trans ((below_regrown wr dq osq).mono (HBW.out).size))
        generalize Sort.grow (redrawn wr dq) osq = w9b at *
        go_wp2
        go_roundw
        case rel => exact ⟨i + 1, by omega, by go_num, HY2, HB9⟩
        case measure => simp [intOf]; omega
    · obtain rfl : i = n := by omega
      have HV : Hid (befX K r = i) := by
        have := take_while_end (K := K) (p := fun q => firstX q r) (fun j h hj => HYS.out j h (by rw [HN.out] at hj; exact hj))
        rw [HN.out] at this
        exact this
      go_upto_region 2 with (fail)
      refine wp_region_quiet_below (by kernel_rfl) (by kernel_rfl) ?_
      (first | go_big_quiet_step (fail) | quiet_step (fail))
      (first | go_big_quiet_step (fail) | quiet_step (fail))
      (first | go_big_quiet_step (fail) | quiet_step (fail))
      (first | go_big_quiet_step (fail) | quiet_step (fail))
      (first | go_big_quiet_step (fail) | quiet_step (fail))
      (first | go_big_quiet_step (fail) | quiet_step (fail))
      (first | go_big_quiet_step (fail) | quiet_step (fail))
      (first | go_big_quiet_step (fail) | quiet_step (fail))
      (first | go_big_quiet_step (fail) | quiet_step (fail))
      (first | go_big_quiet_step (fail) | quiet_step (fail))
      (first | go_big_quiet_step (fail) | quiet_step (fail))
      (first | go_big_quiet_step (fail) | quiet_step (fail))
      refine wpQuiet_nil ?_
      intro w9 hw9
      obtain ⟨⟨dq, osq⟩, rfl⟩ := hw9
      have HB9 := Lib.hid ((HBW.out).trans ((below_regrown wr dq osq).mono (HBW.out).size))
      generalize Sort.grow (redrawn wr dq) osq = w9b at *
      go_wp2
      go_ret
      rw [HV.out]
      exact ⟨rfl, HB1.out.trans (HB9.out.mono HB1.out.size)⟩
end Go.Proofs.Ytfifigokglmjlaa
