/-
  The document's Del of routes. Every slice of at most 1000 routes.
-/
import Derived.Test.YtfifigokglmjlaaRff
namespace Go.Proofs.Ytfifigokglmjlaa
open Go.RowKit

def isR (net : Ip) (bits : Int) (r : Ro) : Bool := decide (r.net = net ∧ r.bits = bits)
/-- one less; the error -/
def delX (K : List Ro) (net : Ip) (bits : Int) : List Ro × Int := match K.findIdx? (isR net bits) with
  | none => (K, 2)
  | some i => (K.eraseIdx i, 0)
theorem info_ro9 : ∃ i0, Try.prog.info? 28 = some i0 ∧ i0.zero = some (.agg #[.int .u8 0, .int .u8 0, .int .u8 0, .int .u8 0, .int .i64 0, .int .u8 0, .int .u8 0, .int .u8 0, .int .u8 0]) ∧ i0.size = 9 ∧ i0.bytes = 24 := parts_of info_ro
set_option maxRecDepth 100000 in
set_option maxHeartbeats 8000000 in
theorem refdel_any (v : Value) (K : List Ro) (net : Ip) (bits : Int) (w : World) (hv : RoT w v K) (hl : K.length ≤ 1000) :
    Calls Try.prog 9 #[v, .agg (ipA net), .int .i64 bits] w fun e w' => ∃ v', e = .returned (.tuple #[v', .int .i64 (delX K net bits).2]) ∧ RoT w' v' (delX K net bits).1 ∧ Below w.heap.size w w' := by
  have HV0 := Lib.hid hv
  obtain ⟨A, c, rfl, htr, -, hnc, hcm⟩ := hv
  obtain ⟨n, hnn⟩ : ∃ n, K.length = n := ⟨_, rfl⟩
  rw [hnn] at hl hnc HV0 ⊢
  have hcm2 : c ≤ 9223372036854775807 := by unfold maxLen at hcm; omega
  obtain ⟨w1, hw1⟩ : ∃ w1, w.alloc (.cells (ipA net) 26) = w1 := ⟨_, rfl⟩
  have HB1 : Hid (Below w.heap.size w w1) := by rw [← hw1]; exact (Below.refl _ _).alloc (Nat.le_refl _) _
  have HX0 : Hid (w1.heap[w.heap.size]? = some (.cells (ipA net) 26 (0, 0))) := by rw [← hw1]; exact heap_alloc_new w _
  have HW := Lib.hid hw1
  have HTR := Lib.hid (htr.below HB1.out (Nat.le_refl _))
  have HN := Lib.hid hnn
  have HEQ : Hid (∀ (r : Ro) (w : World), (Op.equalIn 10000 26 (.agg (ipA r.net)) (.agg (ipA net))).run Try.prog w = .ok (decide (r.net = net)) w) := fun r w => eq_ip 9998 r.net net w
  have HST : Hid ((ipA net).size = 4) := ipE.size _
  obtain ⟨CT, hCT⟩ : ∃ CT, ipA net = CT := ⟨_, rfl⟩
  rw [hCT] at HX0 HW HST HEQ ⊢
  clear hnn htr hcm hw1 hCT
  go_enter Try.func9, Try.ntmps9
  go_upto_region 1 with (fail)
  change Code.wp _ _ _ _ (w.alloc (.cells CT 26))
  rw [HW.out]
  clear HW
  go_wp2
  go_loopw [8] (fun t8 wr => ∃ i : Nat, i ≤ n ∧ t8 = .int .i64 (i : Int) ∧ Hid (∀ j h, j < i → K[j]? = some h → isR net bits h = false) ∧ Hid (Below w1.heap.size w1 wr)) (fun t8 _ => n - (intOf t8).toNat)
  case atStart => exact ⟨0, Nat.zero_le _, rfl, Lib.hid (fun j h hj => by omega), Lib.hid (Below.refl _ _)⟩
  case round =>
    obtain ⟨i, hi, rfl, HNO, HBW⟩ := hrel
    have HXT := Lib.hid (old_below HX0.out HBW.out (row_lt HX0.out))
    have HTW := Lib.hid (HTR.out.below HBW.out (Nat.le_refl _))
    have HBV := Lib.hid (HB1.out.trans (HBW.out.mono HB1.out.size))
    by_cases hlt : i < n
    · obtain ⟨r, hr⟩ : ∃ r, K[i]? = some r := ⟨_, List.getElem?_eq_getElem (by rw [HN.out]; exact hlt)⟩
      have HR := Lib.hid hr
      obtain ⟨ad, rfl, hKA⟩ := el_all roE HTW.out (by omega) hr
      have KT : Hid (∀ w', Reg wr w' → ∀ (j : Nat) v, CT[j]? = some v → w'.cell? ((⟨w.heap.size, 0, none⟩ : Addr).add j) = some v) := fun w' hr j v hv => var_all HXT.out w' (reg_below hr) j v hv
      have K4 := Lib.hid (all_cell (o := 4) hKA (roA_bits r))
      have KN := Lib.hid (all_part0 hKA (roA_net r))
      have HSN : Hid ((ipA r.net).size = 4) := ipE.size _
      have heq := HEQ.out r
      obtain ⟨z, hz⟩ : ∃ z, r.bits = z := ⟨_, rfl⟩
      obtain ⟨CN, hCN⟩ : ∃ CN, ipA r.net = CN := ⟨_, rfl⟩
      have HZ := Lib.hid hz
      rw [hz] at K4
      rw [hCN] at KN heq HSN
      clear hKA hr hCN
      by_cases hnet : r.net = net
      · rw [decide_eq_true hnet] at heq
        by_cases hbz : z = bits
        · have HRES : Hid (delX K net bits = (K.eraseIdx i, 0)) := by
            show _ = _
            unfold delX
            rw [idx_some HR.out (decide_eq_true ⟨hnet, HZ.out.trans hbz⟩) HNO.out]
          subst hbz
          clear hnet hz
          go_upto_region 4 with (fail)
          refine wp_region_quiet_below (by kernel_rfl) (by kernel_rfl) ?_
          (first | go_big_quiet_step (fail) | quiet_step (fail))
          (first | go_big_quiet_step (fail) | quiet_step (fail))
          (first | go_big_quiet_step (fail) | quiet_step (fail))
          (first | go_big_quiet_step (fail) | quiet_step (fail))
          (refine wpQuiet_step (fun K hK => ?_); refine quiet_load_at (by kernel_rfl) 26 _ rfl (ad.add (i * 9)) (by first | rfl | (simp [Act.eval, Addr.add_mid])) CN _ KN.out Try.underlying26 rfl (by rw [HSN.out]; kernel_rfl) ?_; refine hK _ ?_; clear hK K; go_frame)
          (refine wpQuiet_step (fun K hK => ?_); refine quiet_load_at (by kernel_rfl) 26 _ rfl (⟨w.heap.size, 0, none⟩ : Addr) (by first | rfl | (simp [Act.eval, Addr.add_mid])) CT _ KT.out Try.underlying26 rfl (by rw [HST.out]; kernel_rfl) ?_; refine hK _ ?_; clear hK K; go_frame)
          (first | go_big_quiet_step (fail) | quiet_step (fail))
          (first | go_big_quiet_step (fail) | quiet_step (fail))
          (first | go_big_quiet_step (fail) | quiet_step (fail))
          (first | go_big_quiet_step (fail) | quiet_step (fail))
          (first | go_big_quiet_step (fail) | quiet_step (fail))
          (first | go_big_quiet_step (fail) | quiet_step (fail))
          (refine wpQuiet_step (fun K hK => ?_); refine quiet_load_cell (by kernel_rfl) 3 _ rfl ((ad.add (i * 9)).add 4) (by first | rfl | (simp [Act.eval, Addr.add_mid])) (.int .i64 z) _ K4.out Try.underlying3 rfl ?_; refine hK _ ?_; clear hK K; go_frame)
          (first | go_big_quiet_step (fail) | quiet_step (fail))
          (first | go_big_quiet_step (fail) | quiet_step (fail))
          (first | go_big_quiet_step (fail) | quiet_step (fail))
          refine wpQuiet_nil ?_
          intro w9 hw9
          obtain ⟨⟨dq, osq⟩, rfl⟩ := hw9
          have HB9 := Lib.hid ((HBW.out).trans ((below_regrown wr dq osq).mono (HBW.out).size))
          generalize Sort.grow (redrawn wr dq) osq = w9b at *
          generalize w9b = w2 at *
          have HEW := Lib.hid (own_empty w2 28 9)
          have HT2 := Lib.hid (HTR.out.below HB9.out (Nat.le_refl _))
          have hrd := ((HT2.out.alloc (.cells #[] 28)).rd).take (i * 9)
          rw [rows_take roE] at hrd
          have HRD := Lib.hid hrd
          obtain ⟨i0, q0, q1, q2, q3⟩ := info_ro9
          have HLT : Hid ((K.take i).length = i) := by show _ = _; rw [List.length_take, HN.out]; omega
          have HLD : Hid ((K.drop (i + 1)).length = n - (i + 1)) := by show _ = _; rw [List.length_drop, HN.out]
          have HDR : Hid (rowsOf roA (K.take i) ++ rowsOf roA (K.drop (i + 1)) = rowsOf roA (K.eraseIdx i)) := by show _ = _; rw [← rows_append, List.eraseIdx_eq_take_drop_succ]
          have HLE : Hid ((K.eraseIdx i).length = i + (n - (i + 1))) := by show _ = _; rw [List.length_eraseIdx, if_pos (by rw [HN.out]; exact hlt), HN.out]; omega
          have HBZ := Lib.hid (HB1.out.trans (HB9.out.mono HB1.out.size))
          clear hrd KT K4 KN heq
          by_cases hck : c = i + 1
          · obtain rfl : n = i + 1 := by omega
            have HNIL : Hid (rowsOf roA (K.drop (i + 1)) = []) := by
              show _ = _
              rw [List.drop_eq_nil_of_le (by rw [HN.out]; exact Nat.le_refl _)]
              rfl
            subst hck
            go_wp2_with (first | (at_builtin; refine wpList_append_rdk rfl _ _ 24 rfl w2.heap.size 28 i0 _ 9 24 Try.underlying24 q0 q1 q2 q3 rfl (by decide) (.slice (some ⟨w2.heap.size, 0, none⟩) 0 0) 0 [] rfl HEW.out (some ad) i (i + 1) (rowsOf roA (K.take i)) rfl (fun h => by cases h) (by rw [rows_length roE, HLT.out]) HRD.out (rows_ones roE _) (by unfold maxLen; omega) (by omega) (by simp) ?_; intro v5 w5 hown6 hgrow6 _; rw [List.nil_append, Nat.zero_add] at hown6; have HOW5 := Lib.hid hown6; have HB5 : Hid (Below w2.heap.size w2 w5) := ((Below.refl _ _).alloc (Nat.le_refl _) _).grown hgrow6 (by simp) fun g hg => (HEW.out.lt g hg).1; clear hown6 hgrow6; have HS5 := Lib.hid HB5.out.size; have HRD5 := Lib.hid (((HT2.out.below HB5.out (Nat.le_refl _)).rd).drop ((i + 1) * 9)); replace HRD5 := Lib.hid (show Rd w5 0 w5.heap.size _ _ from (rows_drop roE K (i + 1)) ▸ HRD5.out)) | (at_builtin; refine wpList_append_rdk rfl _ _ 24 rfl w2.heap.size 28 i0 _ 9 24 Try.underlying24 q0 q1 q2 q3 rfl (by decide) v5 i (rowsOf roA (K.take i)) rfl HOW5.out (some ad) 0 0 (rowsOf roA (K.drop (i + 1))) rfl (fun h => by cases h) (by rw [HNIL.out]; rfl) (show Rd w5 0 w5.heap.size _ _ by rw [HNIL.out]; exact Rd.nil) (rows_ones roE _) (by unfold maxLen; omega) (by omega) HS5.out ?_; intro v6 w6 hown6 hgrow6 _; have HOW6 := Lib.hid hown6; have HB6 : Hid (Below w2.heap.size w2 w6) := HB5.out.grown hgrow6 HS5.out fun g hg => (HOW5.out.lt g hg).1; clear hown6 hgrow6))
            refine ret_tmp2 rfl rfl ?_
            rw [HRES.out]
            have hfin := HOW6.out
            rw [HDR.out] at hfin
            exact ⟨_, rfl, SlT.own (by rw [HLE.out, Nat.sub_self]; exact hfin), HBZ.out.trans (HB6.out.mono HBZ.out.size)⟩
          · go_wp2_with (first | (at_builtin; refine wpList_append_rdk rfl _ _ 24 rfl w2.heap.size 28 i0 _ 9 24 Try.underlying24 q0 q1 q2 q3 rfl (by decide) (.slice (some ⟨w2.heap.size, 0, none⟩) 0 0) 0 [] rfl HEW.out (some ad) i c (rowsOf roA (K.take i)) rfl (fun h => by cases h) (by rw [rows_length roE, HLT.out]) HRD.out (rows_ones roE _) (by unfold maxLen; omega) (by omega) (by simp) ?_; intro v5 w5 hown6 hgrow6 _; rw [List.nil_append, Nat.zero_add] at hown6; have HOW5 := Lib.hid hown6; have HB5 : Hid (Below w2.heap.size w2 w5) := ((Below.refl _ _).alloc (Nat.le_refl _) _).grown hgrow6 (by simp) fun g hg => (HEW.out.lt g hg).1; clear hown6 hgrow6; have HS5 := Lib.hid HB5.out.size; have HRD5 := Lib.hid (((HT2.out.below HB5.out (Nat.le_refl _)).rd).drop ((i + 1) * 9)); replace HRD5 := Lib.hid (show Rd w5 0 w5.heap.size _ _ from (rows_drop roE K (i + 1)) ▸ HRD5.out)) | (at_builtin; refine wpList_append_rdk rfl _ _ 24 rfl w2.heap.size 28 i0 _ 9 24 Try.underlying24 q0 q1 q2 q3 rfl (by decide) v5 i (rowsOf roA (K.take i)) rfl HOW5.out (some (ad.add ((i + 1) * 9))) (n - (i + 1)) (c - (i + 1)) (rowsOf roA (K.drop (i + 1))) rfl (fun h => by cases h) (by rw [rows_length roE, HLD.out]) HRD5.out (rows_ones roE _) (by unfold maxLen; omega) (by omega) HS5.out ?_; intro v6 w6 hown6 hgrow6 _; have HOW6 := Lib.hid hown6; have HB6 : Hid (Below w2.heap.size w2 w6) := HB5.out.grown hgrow6 HS5.out fun g hg => (HOW5.out.lt g hg).1; clear hown6 hgrow6))
            refine ret_tmp2 rfl rfl ?_
            rw [HRES.out]
            have hfin := HOW6.out
            rw [HDR.out] at hfin
            exact ⟨_, rfl, SlT.own (by rw [HLE.out]; exact hfin), HBZ.out.trans (HB6.out.mono HBZ.out.size)⟩
        · have HNO2 := Lib.hid (no_next HNO.out HR.out (decide_eq_false fun h => hbz (HZ.out.symm.trans h.2)))
          clear hnet hz
          go_upto_region 4 with (fail)
          refine wp_region_quiet_below (by kernel_rfl) (by kernel_rfl) ?_
          (first | go_big_quiet_step (fail) | quiet_step (fail))
          (first | go_big_quiet_step (fail) | quiet_step (fail))
          (first | go_big_quiet_step (fail) | quiet_step (fail))
          (first | go_big_quiet_step (fail) | quiet_step (fail))
          (refine wpQuiet_step (fun K hK => ?_); refine quiet_load_at (by kernel_rfl) 26 _ rfl (ad.add (i * 9)) (by first | rfl | (simp [Act.eval, Addr.add_mid])) CN _ KN.out Try.underlying26 rfl (by rw [HSN.out]; kernel_rfl) ?_; refine hK _ ?_; clear hK K; go_frame)
          (refine wpQuiet_step (fun K hK => ?_); refine quiet_load_at (by kernel_rfl) 26 _ rfl (⟨w.heap.size, 0, none⟩ : Addr) (by first | rfl | (simp [Act.eval, Addr.add_mid])) CT _ KT.out Try.underlying26 rfl (by rw [HST.out]; kernel_rfl) ?_; refine hK _ ?_; clear hK K; go_frame)
          (first | go_big_quiet_step (fail) | quiet_step (fail))
          (first | go_big_quiet_step (fail) | quiet_step (fail))
          (first | go_big_quiet_step (fail) | quiet_step (fail))
          (first | go_big_quiet_step (fail) | quiet_step (fail))
          (first | go_big_quiet_step (fail) | quiet_step (fail))
          (first | go_big_quiet_step (fail) | quiet_step (fail))
          (refine wpQuiet_step (fun K hK => ?_); refine quiet_load_cell (by kernel_rfl) 3 _ rfl ((ad.add (i * 9)).add 4) (by first | rfl | (simp [Act.eval, Addr.add_mid])) (.int .i64 z) _ K4.out Try.underlying3 rfl ?_; refine hK _ ?_; clear hK K; go_frame)
          (first | go_big_quiet_step (fail) | quiet_step (fail))
          (first | go_big_quiet_step (fail) | quiet_step (fail))
          (first | go_big_quiet_step (fail) | quiet_step (fail))
          refine wpQuiet_nil ?_
          intro w9 hw9
          obtain ⟨⟨dq, osq⟩, rfl⟩ := hw9
          have HB9 := Lib.hid ((HBW.out).trans ((below_regrown wr dq osq).mono (HBW.out).size))
          generalize Sort.grow (redrawn wr dq) osq = w9b at *
          go_wp2
          go_roundw
          case rel => exact ⟨i + 1, by omega, by go_num, HNO2, HB9⟩
          case measure => simp [intOf]; omega
      · rw [decide_eq_false hnet] at heq
        have HNO2 := Lib.hid (no_next HNO.out HR.out (decide_eq_false fun h => hnet h.1))
        clear hnet hz
        go_upto_region 4 with (fail)
        refine wp_region_quiet_below (by kernel_rfl) (by kernel_rfl) ?_
        (first | go_big_quiet_step (fail) | quiet_step (fail))
        (first | go_big_quiet_step (fail) | quiet_step (fail))
        (first | go_big_quiet_step (fail) | quiet_step (fail))
        (first | go_big_quiet_step (fail) | quiet_step (fail))
        (refine wpQuiet_step (fun K hK => ?_); refine quiet_load_at (by kernel_rfl) 26 _ rfl (ad.add (i * 9)) (by first | rfl | (simp [Act.eval, Addr.add_mid])) CN _ KN.out Try.underlying26 rfl (by rw [HSN.out]; kernel_rfl) ?_; refine hK _ ?_; clear hK K; go_frame)
        (refine wpQuiet_step (fun K hK => ?_); refine quiet_load_at (by kernel_rfl) 26 _ rfl (⟨w.heap.size, 0, none⟩ : Addr) (by first | rfl | (simp [Act.eval, Addr.add_mid])) CT _ KT.out Try.underlying26 rfl (by rw [HST.out]; kernel_rfl) ?_; refine hK _ ?_; clear hK K; go_frame)
        (first | go_big_quiet_step (fail) | quiet_step (fail))
        (first | go_big_quiet_step (fail) | quiet_step (fail))
        (first | go_big_quiet_step (fail) | quiet_step (fail))
        (first | go_big_quiet_step (fail) | quiet_step (fail))
        (first | go_big_quiet_step (fail) | quiet_step (fail))
        (first | go_big_quiet_step (fail) | quiet_step (fail))
        (first | go_big_quiet_step (fail) | quiet_step (fail))
        (first | go_big_quiet_step (fail) | quiet_step (fail))
        (first | go_big_quiet_step (fail) | quiet_step (fail))
        (first | go_big_quiet_step (fail) | quiet_step (fail))
        refine wpQuiet_nil ?_
        intro w9 hw9
        obtain ⟨⟨dq, osq⟩, rfl⟩ := hw9
        have HB9 := Lib.hid ((HBW.out).trans ((below_regrown wr dq osq).mono (HBW.out).size))
        generalize Sort.grow (redrawn wr dq) osq = w9b at *
        go_wp2
        go_roundw
        case rel => exact ⟨i + 1, by omega, by go_num, HNO2, HB9⟩
        case measure => simp [intOf]; omega
    · obtain rfl : i = n := by omega
      have HRES : Hid (delX K net bits = (K, 2)) := by
        show _ = _
        unfold delX
        rw [idx_none (p := isR net bits) (l := K) (fun j h hj => HNO.out j h (by rw [HN.out] at hj; exact hj))]
      go_wp2
      refine ret_tmp2 rfl rfl ?_
      rw [HRES.out]
      exact ⟨_, rfl, HV0.out.below HBV.out, HBV.out⟩
end Go.Proofs.Ytfifigokglmjlaa
