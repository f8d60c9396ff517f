/-
  The document's Find of routes. Every slice of routes, every address.
-/
import Derived.Test.YtfifigokglmjlaaRfw
namespace Go.Proofs.Ytfifigokglmjlaa
open Go.RowKit

/-- of the routes that a host lies in, the first of the longest -/
def stepB (dst : Ip) (best : Option Ro) (r : Ro) : Option Ro :=
  if withinX dst r.net r.bits = true then (match best with | none => some r | some q => if q.bits < r.bits then some r else some q) else best
def bestX (dst : Ip) (K : List Ro) : Option Ro := K.foldl (stepB dst) none
def zeroIp : Ip := ⟨0, 0, 0, 0⟩
def viaX (dst : Ip) (r : Ro) : Ip := if r.via = zeroIp then dst else r.via
def findX (K : List Ro) (dst : Ip) : Ip × Int := match bestX dst K with
  | none => (zeroIp, 15)
  | some r => (viaX dst r, 0)
theorem best_snoc {dst : Ip} {K : List Ro} {i : Nat} {r : Ro} (h : K[i]? = some r) : bestX dst (K.take (i + 1)) = stepB dst (bestX dst (K.take i)) r := by
  have hi := (List.getElem?_eq_some_iff.1 h).1
  unfold bestX
  rw [List.take_succ_eq_append_getElem hi, List.foldl_append, (List.getElem?_eq_some_iff.1 h).2]
  rfl
def Z4b : Array Value := #[.int .u8 0, .int .u8 0, .int .u8 0, .int .u8 0]
theorem zeroIp_cells : ipA zeroIp = Z4b := rfl
set_option maxRecDepth 100000 in
set_option maxHeartbeats 8000000 in
theorem reffind_any (v : Value) (K : List Ro) (dst : Ip) (w : World) (hv : RoT w v K) (hl : K.length ≤ 140737488351232) :
    Calls Try.prog 16 #[v, .agg (ipA dst)] w fun e w' => e = .returned (.tuple #[.agg (ipA (findX K dst).1), .int .i64 (findX K dst).2]) ∧ Below w.heap.size w w' := by
  obtain ⟨A, c, rfl, htr, -, hnc, hcm⟩ := hv
  obtain ⟨n, hnn⟩ : ∃ n, K.length = n := ⟨_, rfl⟩
  rw [hnn] at hl hnc ⊢
  have hcm2 : c ≤ 9223372036854775807 := by unfold maxLen at hcm; omega
  obtain ⟨w1, hw1⟩ : ∃ w1, (w.alloc (.cells (ipA dst) 26)).alloc (.cells Z4b 26) = w1 := ⟨_, rfl⟩
  have HB1 : Hid (Below w.heap.size w w1) := by rw [← hw1]; exact ((Below.refl _ _).alloc (Nat.le_refl _) _).alloc (by simp) _
  have HX0 : Hid (w1.heap[w.heap.size]? = some (.cells (ipA dst) 26 (0, 0))) := by rw [← hw1]; exact old_alloc (heap_alloc_new w _) _
  have HX1 : Hid (w1.heap[w.heap.size + 1]? = some (.cells Z4b 26 (0, 0))) := by rw [← hw1]; exact new_at1 w _ _
  have HW := Lib.hid hw1
  have HTR := Lib.hid (htr.below HB1.out (Nat.le_refl _))
  have HN := Lib.hid hnn
  have HWI : Hid (∀ (r : Ro) (w : World), Calls Try.prog 17 #[.agg (ipA dst), .agg (ipA r.net), .int .i64 r.bits] w fun e w' => e = .returned (.bool (withinX dst r.net r.bits)) ∧ Below w.heap.size w w') := fun r w => refwithin_any dst r.net r.bits w
  have HEZ : Hid (∀ (r : Ro) (w : World), (Op.equalIn 10000 26 (.agg (ipA r.via)) (.agg Z4b)).run Try.prog w = .ok (decide (r.via = zeroIp)) w) := fun r w => eq_ip 9998 r.via zeroIp w
  have HST : Hid ((ipA dst).size = 4) := ipE.size _
  have HCT : Hid ((ipA dst).all (·.oneCell') = true) := ipE.one _
  obtain ⟨CT, hCT⟩ : ∃ CT, ipA dst = CT := ⟨_, rfl⟩
  have HCE := Lib.hid hCT
  rw [hCT] at HX0 HW HWI HST HCT ⊢
  clear hnn htr hcm hw1 hCT
  obtain ⟨g, hg⟩ : ∃ g, w.heap.size + 1 = g := ⟨_, rfl⟩
  rw [hg] at HX1
  have HG := Lib.hid hg
  clear hg
  go_enter Try.func16, Try.ntmps16
  go_upto_region 1 with (fail)
  change Code.wp _ _ _ _ ((w.alloc (.cells CT 26)).alloc (.cells Z4b 26))
  rw [HW.out, HG.out]
  clear HW
  go_wp2
  go_loopw [6, 7] (fun t6 t7 wr => ∃ i : Nat, i ≤ n ∧ t7 = .int .i64 (i : Int) ∧ ((t6 = .int .i64 (-1) ∧ Hid (bestX dst (K.take i) = none)) ∨ (∃ (b : Nat) (q : Ro), b < n ∧ t6 = .int .i64 (b : Int) ∧ Hid (K[b]? = some q) ∧ Hid (bestX dst (K.take i) = some q))) ∧ Hid (Below w1.heap.size w1 wr)) (fun _ t7 _ => n - (intOf t7).toNat)
  case atStart => exact ⟨0, Nat.zero_le _, rfl, .inl ⟨rfl, Lib.hid rfl⟩, Lib.hid (Below.refl _ _)⟩
  case round =>
    obtain ⟨i, hi, rfl, hbest, HBW⟩ := hrel
    have HXT := Lib.hid (old_below HX0.out HBW.out (row_lt HX0.out))
    have HTW := Lib.hid (HTR.out.below HBW.out (Nat.le_refl _))
    by_cases hlt : i < n
    · obtain ⟨r, hr⟩ : ∃ r, K[i]? = some r := ⟨_, List.getElem?_eq_getElem (by rw [HN.out]; exact hlt)⟩
      have HR := Lib.hid hr
      obtain ⟨ad, rfl, hKA⟩ := el_all roE HTW.out (by omega) hr
      have KT : Hid (∀ w', Reg wr w' → ∀ (j : Nat) v, CT[j]? = some v → w'.cell? ((⟨w.heap.size, 0, none⟩ : Addr).add j) = some v) := fun w' hr j v hv => var_all HXT.out w' (reg_below hr) j v hv
      have K4 := Lib.hid (all_cell (o := 4) hKA (roA_bits r))
      have KN := Lib.hid (all_part0 hKA (roA_net r))
      have HSB := Lib.hid (best_snoc (dst := dst) hr)
      replace HWI := Lib.hid (HWI.out r)
      have HSN : Hid ((ipA r.net).size = 4) := ipE.size _
      obtain ⟨z, hz⟩ : ∃ z, r.bits = z := ⟨_, rfl⟩
      obtain ⟨CN, hCN⟩ : ∃ CN, ipA r.net = CN := ⟨_, rfl⟩
      have HZ := Lib.hid hz
      rw [hz] at K4 HWI
      rw [hCN] at KN HWI HSN
      clear hKA hr hCN
      cases hw : withinX dst r.net z
      · have HSB2 : Hid (bestX dst (K.take (i + 1)) = bestX dst (K.take i)) := by
          show _ = _
          rw [HSB.out]
          unfold stepB
          rw [HZ.out, hw]
          rfl
        rw [hw] at HWI
        clear hw HSB hz
        rcases hbest with ⟨rfl, HBB⟩ | ⟨b, q, hbn, rfl, HQB, HBB⟩
        · go_upto_region 5 with (fail)
          refine wp_region_quiet_below (by kernel_rfl) (by kernel_rfl) ?_
          (refine wpQuiet_step (fun K hK => ?_); refine quiet_load_at (by kernel_rfl) 26 _ rfl (⟨w.heap.size, 0, none⟩ : Addr) (by first | rfl | (simp [Act.eval, Addr.add_mid])) CT _ KT.out Try.underlying26 rfl (by rw [HST.out]; kernel_rfl) ?_; refine hK _ ?_; clear hK K; go_frame)
          (first | go_big_quiet_step (fail) | quiet_step (fail))
          (first | go_big_quiet_step (fail) | quiet_step (fail))
          (first | go_big_quiet_step (fail) | quiet_step (fail))
          (first | go_big_quiet_step (fail) | quiet_step (fail))
          (refine wpQuiet_step (fun K hK => ?_); refine quiet_load_at (by kernel_rfl) 26 _ rfl (ad.add (i * 9)) (by first | rfl | (simp [Act.eval, Addr.add_mid])) CN _ KN.out Try.underlying26 rfl (by rw [HSN.out]; kernel_rfl) ?_; refine hK _ ?_; clear hK K; go_frame)
          (first | go_big_quiet_step (fail) | quiet_step (fail))
          (first | go_big_quiet_step (fail) | quiet_step (fail))
          (first | go_big_quiet_step (fail) | quiet_step (fail))
          (first | go_big_quiet_step (fail) | quiet_step (fail))
          (refine wpQuiet_step (fun K hK => ?_); refine quiet_load_cell (by kernel_rfl) 3 _ rfl ((ad.add (i * 9)).add 4) (by first | rfl | (simp [Act.eval, Addr.add_mid])) (.int .i64 z) _ K4.out Try.underlying3 rfl ?_; refine hK _ ?_; clear hK K; go_frame)
          quiet_step (first | (go_at_call 17; exact Calls.regrown_of (HWI.out _)))
          (first | go_big_quiet_step (fail) | quiet_step (fail))
          (first | go_big_quiet_step (fail) | quiet_step (fail))
          (first | go_big_quiet_step (fail) | quiet_step (fail))
          (first | go_big_quiet_step (fail) | quiet_step (fail))
          (first | go_big_quiet_step (fail) | quiet_step (fail))
          (first | go_big_quiet_step (fail) | quiet_step (fail))
          (first | go_big_quiet_step (fail) | quiet_step (fail))
          (first | go_big_quiet_step (fail) | quiet_step (fail))
          (first | go_big_quiet_step (fail) | quiet_step (fail))
          (first | go_big_quiet_step (fail) | quiet_step (fail))
          (first | go_big_quiet_step (fail) | quiet_step (fail))
          (first | go_big_quiet_step (fail) | quiet_step (fail))
          (first | go_big_quiet_step (fail) | quiet_step (fail))
          (first | go_big_quiet_step (fail) | quiet_step (fail))
          (first | go_big_quiet_step (fail) | quiet_step (fail))
          (first | go_big_quiet_step (fail) | quiet_step (fail))
          (first | go_big_quiet_step (fail) | quiet_step (fail))
          refine wpQuiet_nil ?_
          intro w9 hw9
          obtain ⟨⟨dq, osq⟩, rfl⟩ := hw9
          have HB9 := Lib.hid ((HBW.out).trans ((below_regrown wr dq osq).mono (HBW.out).size))
          generalize Sort.grow (redrawn wr dq) osq = w9b at *
          go_wp2
          go_roundw
          case rel => exact ⟨i + 1, by omega, by go_num, .inl ⟨rfl, by rw [HSB2.out]; exact HBB⟩, HB9⟩
          case measure => simp [intOf]; omega
        · go_upto_region 5 with (fail)
          refine wp_region_quiet_below (by kernel_rfl) (by kernel_rfl) ?_
          (refine wpQuiet_step (fun K hK => ?_); refine quiet_load_at (by kernel_rfl) 26 _ rfl (⟨w.heap.size, 0, none⟩ : Addr) (by first | rfl | (simp [Act.eval, Addr.add_mid])) CT _ KT.out Try.underlying26 rfl (by rw [HST.out]; kernel_rfl) ?_; refine hK _ ?_; clear hK K; go_frame)
          (first | go_big_quiet_step (fail) | quiet_step (fail))
          (first | go_big_quiet_step (fail) | quiet_step (fail))
          (first | go_big_quiet_step (fail) | quiet_step (fail))
          (first | go_big_quiet_step (fail) | quiet_step (fail))
          (refine wpQuiet_step (fun K hK => ?_); refine quiet_load_at (by kernel_rfl) 26 _ rfl (ad.add (i * 9)) (by first | rfl | (simp [Act.eval, Addr.add_mid])) CN _ KN.out Try.underlying26 rfl (by rw [HSN.out]; kernel_rfl) ?_; refine hK _ ?_; clear hK K; go_frame)
          (first | go_big_quiet_step (fail) | quiet_step (fail))
          (first | go_big_quiet_step (fail) | quiet_step (fail))
          (first | go_big_quiet_step (fail) | quiet_step (fail))
          (first | go_big_quiet_step (fail) | quiet_step (fail))
          (refine wpQuiet_step (fun K hK => ?_); refine quiet_load_cell (by kernel_rfl) 3 _ rfl ((ad.add (i * 9)).add 4) (by first | rfl | (simp [Act.eval, Addr.add_mid])) (.int .i64 z) _ K4.out Try.underlying3 rfl ?_; refine hK _ ?_; clear hK K; go_frame)
          quiet_step (first | (go_at_call 17; exact Calls.regrown_of (HWI.out _)))
          (first | go_big_quiet_step (fail) | quiet_step (fail))
          (first | go_big_quiet_step (fail) | quiet_step (fail))
          (first | go_big_quiet_step (fail) | quiet_step (fail))
          (first | go_big_quiet_step (fail) | quiet_step (fail))
          (first | go_big_quiet_step (fail) | quiet_step (fail))
          (first | go_big_quiet_step (fail) | quiet_step (fail))
          (first | go_big_quiet_step (fail) | quiet_step (fail))
          (first | go_big_quiet_step (fail) | quiet_step (fail))
          (first | go_big_quiet_step (fail) | quiet_step (fail))
          (first | go_big_quiet_step (fail) | quiet_step (fail))
          (first | go_big_quiet_step (fail) | quiet_step (fail))
          (first | go_big_quiet_step (fail) | quiet_step (fail))
          (first | go_big_quiet_step (fail) | quiet_step (fail))
          (first | go_big_quiet_step (fail) | quiet_step (fail))
          (first | go_big_quiet_step (fail) | quiet_step (fail))
          (first | go_big_quiet_step (fail) | quiet_step (fail))
          (first | go_big_quiet_step (fail) | quiet_step (fail))
          refine wpQuiet_nil ?_
          intro w9 hw9
          obtain ⟨⟨dq, osq⟩, rfl⟩ := hw9
          have HB9 := Lib.hid ((HBW.out).trans ((below_regrown wr dq osq).mono (HBW.out).size))
          generalize Sort.grow (redrawn wr dq) osq = w9b at *
          go_wp2
          go_roundw
          case rel => exact ⟨i + 1, by omega, by go_num, .inr ⟨b, q, hbn, rfl, HQB, by rw [HSB2.out]; exact HBB⟩, HB9⟩
          case measure => simp [intOf]; omega
      · rw [hw] at HWI
        rcases hbest with ⟨rfl, HBB⟩ | ⟨b, q, hbn, rfl, HQB, HBB⟩
        · have HSB2 : Hid (bestX dst (K.take (i + 1)) = some r) := by
            show _ = _
            rw [HSB.out, HBB.out]
            unfold stepB
            rw [HZ.out, hw]
            rfl
          clear hw HSB hz
          go_upto_region 5 with (fail)
          refine wp_region_quiet_below (by kernel_rfl) (by kernel_rfl) ?_
          (refine wpQuiet_step (fun K hK => ?_); refine quiet_load_at (by kernel_rfl) 26 _ rfl (⟨w.heap.size, 0, none⟩ : Addr) (by first | rfl | (simp [Act.eval, Addr.add_mid])) CT _ KT.out Try.underlying26 rfl (by rw [HST.out]; kernel_rfl) ?_; refine hK _ ?_; clear hK K; go_frame)
          (first | go_big_quiet_step (fail) | quiet_step (fail))
          (first | go_big_quiet_step (fail) | quiet_step (fail))
          (first | go_big_quiet_step (fail) | quiet_step (fail))
          (first | go_big_quiet_step (fail) | quiet_step (fail))
          (refine wpQuiet_step (fun K hK => ?_); refine quiet_load_at (by kernel_rfl) 26 _ rfl (ad.add (i * 9)) (by first | rfl | (simp [Act.eval, Addr.add_mid])) CN _ KN.out Try.underlying26 rfl (by rw [HSN.out]; kernel_rfl) ?_; refine hK _ ?_; clear hK K; go_frame)
          (first | go_big_quiet_step (fail) | quiet_step (fail))
          (first | go_big_quiet_step (fail) | quiet_step (fail))
          (first | go_big_quiet_step (fail) | quiet_step (fail))
          (first | go_big_quiet_step (fail) | quiet_step (fail))
          (refine wpQuiet_step (fun K hK => ?_); refine quiet_load_cell (by kernel_rfl) 3 _ rfl ((ad.add (i * 9)).add 4) (by first | rfl | (simp [Act.eval, Addr.add_mid])) (.int .i64 z) _ K4.out Try.underlying3 rfl ?_; refine hK _ ?_; clear hK K; go_frame)
          quiet_step (first | (go_at_call 17; exact Calls.regrown_of (HWI.out _)))
          (first | go_big_quiet_step (fail) | quiet_step (fail))
          (first | go_big_quiet_step (fail) | quiet_step (fail))
          (first | go_big_quiet_step (fail) | quiet_step (fail))
          (first | go_big_quiet_step (fail) | quiet_step (fail))
          (first | go_big_quiet_step (fail) | quiet_step (fail))
          (first | go_big_quiet_step (fail) | quiet_step (fail))
          (first | go_big_quiet_step (fail) | quiet_step (fail))
          (first | go_big_quiet_step (fail) | quiet_step (fail))
          (first | go_big_quiet_step (fail) | quiet_step (fail))
          (first | go_big_quiet_step (fail) | quiet_step (fail))
          (first | go_big_quiet_step (fail) | quiet_step (fail))
          (first | go_big_quiet_step (fail) | quiet_step (fail))
          (first | go_big_quiet_step (fail) | quiet_step (fail))
          (first | go_big_quiet_step (fail) | quiet_step (fail))
          (first | go_big_quiet_step (fail) | quiet_step (fail))
          (first | go_big_quiet_step (fail) | quiet_step (fail))
          (first | go_big_quiet_step (fail) | quiet_step (fail))
          refine wpQuiet_nil ?_
          intro w9 hw9
          obtain ⟨⟨dq, osq⟩, rfl⟩ := hw9
          have HB9 := Lib.hid ((HBW.out).trans ((below_regrown wr dq osq).mono (HBW.out).size))
          generalize Sort.grow (redrawn wr dq) osq = w9b at *
          go_wp2
          go_roundw
          case rel => exact ⟨i + 1, by omega, by go_num, .inr ⟨i, r, hlt, rfl, HR, HSB2⟩, HB9⟩
          case measure => simp [intOf]; omega
        · have hb0 : ¬ (b : Int) < 0 := by omega
          obtain ⟨ad2, had2, hKQ⟩ := el_all roE HTW.out (by omega) HQB.out
          injection had2 with had2
          subst had2
          have Q4 := Lib.hid (all_cell (o := 4) hKQ (roA_bits q))
          obtain ⟨y, hy⟩ : ∃ y, q.bits = y := ⟨_, rfl⟩
          have HY := Lib.hid hy
          rw [hy] at Q4
          by_cases hqr : y < z
          · have HSB2 : Hid (bestX dst (K.take (i + 1)) = some r) := by
              show _ = _
              rw [HSB.out, HBB.out]
              unfold stepB
              simp only [HZ.out, HY.out, hw, if_true, if_pos hqr]
            clear hw HSB hz hy hKQ
            go_upto_region 5 with (fail)
            refine wp_region_quiet_below (by kernel_rfl) (by kernel_rfl) ?_
            (refine wpQuiet_step (fun K hK => ?_); refine quiet_load_at (by kernel_rfl) 26 _ rfl (⟨w.heap.size, 0, none⟩ : Addr) (by first | rfl | (simp [Act.eval, Addr.add_mid])) CT _ KT.out Try.underlying26 rfl (by rw [HST.out]; kernel_rfl) ?_; refine hK _ ?_; clear hK K; go_frame)
            (first | go_big_quiet_step (fail) | quiet_step (fail))
            (first | go_big_quiet_step (fail) | quiet_step (fail))
            (first | go_big_quiet_step (fail) | quiet_step (fail))
            (first | go_big_quiet_step (fail) | quiet_step (fail))
            (refine wpQuiet_step (fun K hK => ?_); refine quiet_load_at (by kernel_rfl) 26 _ rfl (ad.add (i * 9)) (by first | rfl | (simp [Act.eval, Addr.add_mid])) CN _ KN.out Try.underlying26 rfl (by rw [HSN.out]; kernel_rfl) ?_; refine hK _ ?_; clear hK K; go_frame)
            (first | go_big_quiet_step (fail) | quiet_step (fail))
            (first | go_big_quiet_step (fail) | quiet_step (fail))
            (first | go_big_quiet_step (fail) | quiet_step (fail))
            (first | go_big_quiet_step (fail) | quiet_step (fail))
            (refine wpQuiet_step (fun K hK => ?_); refine quiet_load_cell (by kernel_rfl) 3 _ rfl ((ad.add (i * 9)).add 4) (by first | rfl | (simp [Act.eval, Addr.add_mid])) (.int .i64 z) _ K4.out Try.underlying3 rfl ?_; refine hK _ ?_; clear hK K; go_frame)
            quiet_step (first | (go_at_call 17; exact Calls.regrown_of (HWI.out _)))
            (first | go_big_quiet_step (fail) | quiet_step (fail))
            (first | go_big_quiet_step (fail) | quiet_step (fail))
            (first | go_big_quiet_step (fail) | quiet_step (fail))
            (first | go_big_quiet_step (fail) | quiet_step (fail))
            (first | go_big_quiet_step (fail) | quiet_step (fail))
            (first | go_big_quiet_step (fail) | quiet_step (fail))
            (first | go_big_quiet_step (fail) | quiet_step (fail))
            (first | go_big_quiet_step (fail) | quiet_step (fail))
            (refine wpQuiet_step (fun K hK => ?_); refine quiet_load_cell (by kernel_rfl) 3 _ rfl ((ad.add (i * 9)).add 4) (by first | rfl | (simp [Act.eval, Addr.add_mid])) (.int .i64 z) _ K4.out Try.underlying3 rfl ?_; refine hK _ ?_; clear hK K; go_frame)
            (first | go_big_quiet_step (fail) | quiet_step (fail))
            (first | go_big_quiet_step (fail) | quiet_step (fail))
            (first | go_big_quiet_step (fail) | quiet_step (fail))
            (first | go_big_quiet_step (fail) | quiet_step (fail))
            (refine wpQuiet_step (fun K hK => ?_); refine quiet_load_cell (by kernel_rfl) 3 _ rfl ((ad.add (b * 9)).add 4) (by first | rfl | (simp [Act.eval, Addr.add_mid])) (.int .i64 y) _ Q4.out Try.underlying3 rfl ?_; refine hK _ ?_; clear hK K; go_frame)
            (first | go_big_quiet_step (fail) | quiet_step (fail))
            (first | go_big_quiet_step (fail) | quiet_step (fail))
            (first | go_big_quiet_step (fail) | quiet_step (fail))
            refine wpQuiet_nil ?_
            intro w9 hw9
            obtain ⟨⟨dq, osq⟩, rfl⟩ := hw9
            have HB9 := Lib.hid ((HBW.out).trans ((below_regrown wr dq osq).mono (HBW.out).size))
            generalize Sort.grow (redrawn wr dq) osq = w9b at *
            go_wp2
            go_roundw
            case rel => exact ⟨i + 1, by omega, by go_num, .inr ⟨i, r, hlt, rfl, HR, HSB2⟩, HB9⟩
            case measure => simp [intOf]; omega
          · have HSB2 : Hid (bestX dst (K.take (i + 1)) = some q) := by
              show _ = _
              rw [HSB.out, HBB.out]
              unfold stepB
              simp only [HZ.out, HY.out, hw, if_true, if_neg hqr]
            clear hw HSB hz hy hKQ
            go_upto_region 5 with (fail)
            refine wp_region_quiet_below (by kernel_rfl) (by kernel_rfl) ?_
            (refine wpQuiet_step (fun K hK => ?_); refine quiet_load_at (by kernel_rfl) 26 _ rfl (⟨w.heap.size, 0, none⟩ : Addr) (by first | rfl | (simp [Act.eval, Addr.add_mid])) CT _ KT.out Try.underlying26 rfl (by rw [HST.out]; kernel_rfl) ?_; refine hK _ ?_; clear hK K; go_frame)
            (first | go_big_quiet_step (fail) | quiet_step (fail))
            (first | go_big_quiet_step (fail) | quiet_step (fail))
            (first | go_big_quiet_step (fail) | quiet_step (fail))
            (first | go_big_quiet_step (fail) | quiet_step (fail))
            (refine wpQuiet_step (fun K hK => ?_); refine quiet_load_at (by kernel_rfl) 26 _ rfl (ad.add (i * 9)) (by first | rfl | (simp [Act.eval, Addr.add_mid])) CN _ KN.out Try.underlying26 rfl (by rw [HSN.out]; kernel_rfl) ?_; refine hK _ ?_; clear hK K; go_frame)
            (first | go_big_quiet_step (fail) | quiet_step (fail))
            (first | go_big_quiet_step (fail) | quiet_step (fail))
            (first | go_big_quiet_step (fail) | quiet_step (fail))
            (first | go_big_quiet_step (fail) | quiet_step (fail))
            (refine wpQuiet_step (fun K hK => ?_); refine quiet_load_cell (by kernel_rfl) 3 _ rfl ((ad.add (i * 9)).add 4) (by first | rfl | (simp [Act.eval, Addr.add_mid])) (.int .i64 z) _ K4.out Try.underlying3 rfl ?_; refine hK _ ?_; clear hK K; go_frame)
            quiet_step (first | (go_at_call 17; exact Calls.regrown_of (HWI.out _)))
            (first | go_big_quiet_step (fail) | quiet_step (fail))
            (first | go_big_quiet_step (fail) | quiet_step (fail))
            (first | go_big_quiet_step (fail) | quiet_step (fail))
            (first | go_big_quiet_step (fail) | quiet_step (fail))
            (first | go_big_quiet_step (fail) | quiet_step (fail))
            (first | go_big_quiet_step (fail) | quiet_step (fail))
            (first | go_big_quiet_step (fail) | quiet_step (fail))
            (first | go_big_quiet_step (fail) | quiet_step (fail))
            (refine wpQuiet_step (fun K hK => ?_); refine quiet_load_cell (by kernel_rfl) 3 _ rfl ((ad.add (i * 9)).add 4) (by first | rfl | (simp [Act.eval, Addr.add_mid])) (.int .i64 z) _ K4.out Try.underlying3 rfl ?_; refine hK _ ?_; clear hK K; go_frame)
            (first | go_big_quiet_step (fail) | quiet_step (fail))
            (first | go_big_quiet_step (fail) | quiet_step (fail))
            (first | go_big_quiet_step (fail) | quiet_step (fail))
            (first | go_big_quiet_step (fail) | quiet_step (fail))
            (refine wpQuiet_step (fun K hK => ?_); refine quiet_load_cell (by kernel_rfl) 3 _ rfl ((ad.add (b * 9)).add 4) (by first | rfl | (simp [Act.eval, Addr.add_mid])) (.int .i64 y) _ Q4.out Try.underlying3 rfl ?_; refine hK _ ?_; clear hK K; go_frame)
            (first | go_big_quiet_step (fail) | quiet_step (fail))
            (first | go_big_quiet_step (fail) | quiet_step (fail))
            (first | go_big_quiet_step (fail) | quiet_step (fail))
            refine wpQuiet_nil ?_
            intro w9 hw9
            obtain ⟨⟨dq, osq⟩, rfl⟩ := hw9
            have HB9 := Lib.hid ((HBW.out).trans ((below_regrown wr dq osq).mono (HBW.out).size))
            generalize Sort.grow (redrawn wr dq) osq = w9b at *
            go_wp2
            go_roundw
            case rel => exact ⟨i + 1, by omega, by go_num, .inr ⟨b, q, hbn, rfl, HQB, HSB2⟩, HB9⟩
            case measure => simp [intOf]; omega
    · obtain rfl : i = n := by omega
      have HTK : Hid (bestX dst K = bestX dst (K.take i)) := by
        show _ = _
        rw [List.take_of_length_le (Nat.le_of_eq HN.out)]
      have HXR := Lib.hid (old_below HX1.out HBW.out (row_lt HX1.out))
      have HBV := Lib.hid (HB1.out.trans (HBW.out.mono HB1.out.size))
      have hgw : g < wr.heap.size := row_lt HXR.out
      have hww : w.heap.size < wr.heap.size := row_lt HXT.out
      obtain ⟨w5, hw5⟩ : ∃ w5, wr.alloc (.cells Z4b 26) = w5 := ⟨_, rfl⟩
      have HXN : Hid (w5.heap[wr.heap.size]? = some (.cells Z4b 26 (0, 0))) := by rw [← hw5]; exact heap_alloc_new wr _
      have HXR5 : Hid (w5.heap[g]? = some (.cells Z4b 26 (0, 0))) := by rw [← hw5]; exact old_alloc HXR.out _
      have HXT5 : Hid (w5.heap[w.heap.size]? = some (.cells CT 26 (0, 0))) := by rw [← hw5]; exact old_alloc HXT.out _
      have HTW5 : Hid (Rs w5 A (rowsOf roA K)) := by rw [← hw5]; exact HTW.out.alloc _
      have HB5 : Hid (Below w.heap.size w w5) := by rw [← hw5]; exact HBV.out.alloc HBV.out.size _
      have HW5 := Lib.hid hw5
      clear hw5 HXT HTW HXR
      rcases hbest with ⟨rfl, HBB⟩ | ⟨b, q, hbn, rfl, HQB, HBB⟩
      · have HV : Hid (findX K dst = (zeroIp, 15)) := by
          show _ = _
          unfold findX
          rw [HTK.out, HBB.out]
        go_upto_region 8 with (go_in)
        change Code.wp _ _ _ _ (wr.alloc (.cells Z4b 26))
        rw [HW5.out]
        clear HW5
        go_wp2_with (first | (refine wpList_load_row rfl 26 _ rfl wr.heap.size rfl 26 Z4b (0, 0) _ HXN.out Try.underlying26 rfl (by kernel_rfl) ?_) | refine wpList_store_row rfl 26 _ _ rfl g Z4b rfl rfl 26 Z4b HXR5.out (by kernel_rfl) rfl (ipE.one zeroIp) ?_)
        refine ret_two (g := g) rfl rfl (setRow_heap _ _ _ _ _ _ HXR5.out) Try.underlying26 rfl (by kernel_rfl) rfl ?_
        rw [HV.out]
        exact ⟨rfl, below_setRow HB5.out (by have := HG.out; omega) _⟩
      · have hb0 : ¬ (b : Int) < 0 := by omega
        have HV : Hid (findX K dst = (viaX dst q, 0)) := by
          show _ = _
          unfold findX
          rw [HTK.out, HBB.out]
        obtain ⟨ad, rfl, hKA⟩ := el_all roE HTW5.out (by omega) HQB.out
        have KV := Lib.hid (all_part (o := 5) hKA (roA_via q))
        have KZ : Hid (∀ w', Reg w5 w' → ∀ (j : Nat) v, Z4b[j]? = some v → w'.cell? ((⟨wr.heap.size, 0, none⟩ : Addr).add j) = some v) := fun w' hr j v hv => var_all HXN.out w' (reg_below hr) j v hv
        have heq := HEZ.out q
        have HSV : Hid ((ipA q.via).size = 4) := ipE.size _
        have HOV : Hid ((ipA q.via).all (·.oneCell') = true) := ipE.one _
        have HCV : Hid (q.via ≠ zeroIp → viaX dst q = q.via) := fun h => if_neg h
        have HCW : Hid (q.via = zeroIp → viaX dst q = dst) := fun h => if_pos h
        obtain ⟨CV, hCV⟩ : ∃ CV, ipA q.via = CV := ⟨_, rfl⟩
        have HCC := Lib.hid hCV
        rw [hCV] at KV heq HSV HOV
        clear hCV
        go_upto_region 8 with (go_in)
        change Code.wp _ _ _ _ (wr.alloc (.cells Z4b 26))
        rw [HW5.out]
        clear HW5
        by_cases hvz : q.via = zeroIp
        · rw [decide_eq_true hvz] at heq
          have HVV := Lib.hid (HCW.out hvz)
          clear hvz HCV HCW hKA
          go_upto_region 10 with (fail)
          refine wp_region_quiet_below (by kernel_rfl) (by kernel_rfl) ?_
          (first | go_big_quiet_step (fail) | quiet_step (fail))
          (first | go_big_quiet_step (fail) | quiet_step (fail))
          (first | go_big_quiet_step (fail) | quiet_step (fail))
          (first | go_big_quiet_step (fail) | quiet_step (fail))
          (refine wpQuiet_step (fun K hK => ?_); refine quiet_load_at (by kernel_rfl) 26 _ rfl ((ad.add (b * 9)).add 5) (by first | rfl | (simp [Act.eval, Addr.add_mid])) CV _ KV.out Try.underlying26 rfl (by rw [HSV.out]; kernel_rfl) ?_; refine hK _ ?_; clear hK K; go_frame)
          (refine wpQuiet_step (fun K hK => ?_); refine quiet_load_at (by kernel_rfl) 26 _ rfl (⟨wr.heap.size, 0, none⟩ : Addr) (by first | rfl | (simp [Act.eval, Addr.add_mid])) Z4b _ KZ.out Try.underlying26 rfl (by kernel_rfl) ?_; refine hK _ ?_; clear hK K; go_frame)
          (first | go_big_quiet_step (fail) | quiet_step (fail))
          refine wpQuiet_nil ?_
          intro w9 hw9
          obtain ⟨⟨dq, osq⟩, rfl⟩ := hw9
          have HB6 := Lib.hid ((HB5.out).trans ((below_regrown w5 dq osq).mono (HB5.out).size))
          have HXT6 := Lib.hid (old_below HXT5.out (below_regrown w5 dq osq) (row_lt HXT5.out))
          have HXR6 := Lib.hid (old_below HXR5.out (below_regrown w5 dq osq) (row_lt HXR5.out))
          have KV6 := Lib.hid (KV.out _ ⟨⟨dq, osq⟩, rfl⟩)
          generalize Sort.grow (redrawn w5 dq) osq = w6 at *
          clear HXT5 HXR5 KV KZ HXN HTW5 HB5
          go_wp2_with (first | (refine wpList_load_row rfl 26 _ rfl w.heap.size rfl 26 CT (0, 0) _ HXT6.out Try.underlying26 rfl (by rw [HST.out]; kernel_rfl) ?_) | refine wpList_store_row rfl 26 _ _ rfl g CT rfl rfl 26 Z4b HXR6.out (by rw [HST.out]; kernel_rfl) (by rw [HST.out]; rfl) HCT.out ?_)
          refine ret_two (g := g) rfl rfl (setRow_heap _ _ _ _ _ _ HXR6.out) Try.underlying26 rfl (by rw [HST.out]; kernel_rfl) rfl ?_
          rw [HV.out, HVV.out]
          exact ⟨by rw [HCE.out]; rfl, below_setRow HB6.out (by have := HG.out; omega) _⟩
        · rw [decide_eq_false hvz] at heq
          have HVV := Lib.hid (HCV.out hvz)
          clear hvz HCV HCW hKA
          go_upto_region 10 with (fail)
          refine wp_region_quiet_below (by kernel_rfl) (by kernel_rfl) ?_
          (first | go_big_quiet_step (fail) | quiet_step (fail))
          (first | go_big_quiet_step (fail) | quiet_step (fail))
          (first | go_big_quiet_step (fail) | quiet_step (fail))
          (first | go_big_quiet_step (fail) | quiet_step (fail))
          (refine wpQuiet_step (fun K hK => ?_); refine quiet_load_at (by kernel_rfl) 26 _ rfl ((ad.add (b * 9)).add 5) (by first | rfl | (simp [Act.eval, Addr.add_mid])) CV _ KV.out Try.underlying26 rfl (by rw [HSV.out]; kernel_rfl) ?_; refine hK _ ?_; clear hK K; go_frame)
          (refine wpQuiet_step (fun K hK => ?_); refine quiet_load_at (by kernel_rfl) 26 _ rfl (⟨wr.heap.size, 0, none⟩ : Addr) (by first | rfl | (simp [Act.eval, Addr.add_mid])) Z4b _ KZ.out Try.underlying26 rfl (by kernel_rfl) ?_; refine hK _ ?_; clear hK K; go_frame)
          (first | go_big_quiet_step (fail) | quiet_step (fail))
          refine wpQuiet_nil ?_
          intro w9 hw9
          obtain ⟨⟨dq, osq⟩, rfl⟩ := hw9
          have HB6 := Lib.hid ((HB5.out).trans ((below_regrown w5 dq osq).mono (HB5.out).size))
          have HXT6 := Lib.hid (old_below HXT5.out (below_regrown w5 dq osq) (row_lt HXT5.out))
          have HXR6 := Lib.hid (old_below HXR5.out (below_regrown w5 dq osq) (row_lt HXR5.out))
          have KV6 := Lib.hid (KV.out _ ⟨⟨dq, osq⟩, rfl⟩)
          generalize Sort.grow (redrawn w5 dq) osq = w6 at *
          clear HXT5 HXR5 KV KZ HXN HTW5 HB5
          go_wp2_with (first | (refine wpList_load_atA rfl 26 _ rfl ((ad.add (b * 9)).add 5) rfl CV _ KV6.out Try.underlying26 rfl (by rw [HSV.out]; kernel_rfl) ?_) | refine wpList_store_row rfl 26 _ _ rfl g CV rfl rfl 26 Z4b HXR6.out (by rw [HSV.out]; kernel_rfl) (by rw [HSV.out]; rfl) HOV.out ?_)
          refine ret_two (g := g) rfl rfl (setRow_heap _ _ _ _ _ _ HXR6.out) Try.underlying26 rfl (by rw [HSV.out]; kernel_rfl) rfl ?_
          rw [HV.out, HVV.out]
          exact ⟨by rw [HCC.out]; rfl, below_setRow HB6.out (by have := HG.out; omega) _⟩
end Go.Proofs.Ytfifigokglmjlaa
