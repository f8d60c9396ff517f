/-
  The law RouteFinds: every slice of routes, every address.
-/
import Derived.Test.YtfifigokglmjlaaLiR
namespace Go.Proofs.Ytfifigokglmjlaa
open Go.RowKit

theorem nine_cells {w : World} {b : Nat} {v0 v1 v2 v3 v4 v5 v6 v7 v8 : Value} {t : TypeId} {fr : Nat × Nat} (h : w.heap[b]? = some (.cells #[v0, v1, v2, v3, v4, v5, v6, v7, v8] t fr)) :
    w.cell? ⟨b, 0, none⟩ = some v0 ∧ w.cell? ⟨b, 1, none⟩ = some v1 ∧ w.cell? ⟨b, 2, none⟩ = some v2 ∧ w.cell? ⟨b, 3, none⟩ = some v3 ∧ w.cell? ⟨b, 4, none⟩ = some v4 ∧ w.cell? ⟨b, 5, none⟩ = some v5 ∧ w.cell? ⟨b, 6, none⟩ = some v6 ∧ w.cell? ⟨b, 7, none⟩ = some v7 ∧ w.cell? ⟨b, 8, none⟩ = some v8 := by
  refine ⟨?_, ?_, ?_, ?_, ?_, ?_, ?_, ?_, ?_⟩ <;> (rw [cell_of_row _ _ _ _ _ _ h]; rfl)
theorem ip_four (a : Ip) : ∃ v0 v1 v2 v3 : Value, ipA a = #[v0, v1, v2, v3] := ⟨_, _, _, _, rfl⟩
theorem ro_nine (r : Ro) : ∃ v0 v1 v2 v3 v5 v6 v7 v8 : Value, roA r = #[v0, v1, v2, v3, .int .i64 r.bits, v5, v6, v7, v8] ∧ ipA r.net = #[v0, v1, v2, v3] ∧ ipA r.via = #[v5, v6, v7, v8] := ⟨_, _, _, _, _, _, _, _, rfl, rfl, rfl⟩
set_option maxRecDepth 100000 in
set_option maxHeartbeats 16000000 in
theorem finds_any (v : Value) (K : List Ro) (dst : Ip) (w : World) (hv : RoT w v K) (hl : K.length ≤ 140737488351232) :
    Calls Try.prog 4 #[v, .agg (ipA dst)] w fun e w' => e = .returned (.bool true) ∧ Below w.heap.size w w' := by
  have HV := Lib.hid hv
  obtain ⟨A, c, rfl, htr, -, hnc, hcm⟩ := hv
  obtain ⟨n, hnn⟩ : ∃ n, K.length = n := ⟨_, rfl⟩
  rw [hnn] at hl hnc HV ⊢
  have HN := Lib.hid hnn
  have hcm2 : c ≤ 9223372036854775807 := by unfold maxLen at hcm; omega
  have HTR := Lib.hid htr
  obtain ⟨w1, hw1⟩ : ∃ w1, w.alloc (.cells (ipA dst) 26) = w1 := ⟨_, rfl⟩
  have HB1 : Hid (Below w.heap.size w w1) := by rw [← hw1]; exact (Below.refl _ _).alloc (Nat.le_refl _) _
  have HX1 : Hid (w1.heap[w.heap.size]? = some (.cells (ipA dst) 26 (0, 0))) := by rw [← hw1]; exact heap_alloc_new w _
  have HW := Lib.hid hw1
  obtain ⟨a, ha⟩ : ∃ a, (findX K dst).1 = a := ⟨_, rfl⟩
  obtain ⟨er, her⟩ : ∃ er, (findX K dst).2 = er := ⟨_, rfl⟩
  have HFC : Hid (rightX K = true → ∀ v w, RoT w v K → Calls Try.prog 15 #[v, .agg (ipA dst)] w fun e w' => e = .returned (.tuple #[.agg (ipA a), .int .i64 er]) ∧ Below w.heap.size w w') := fun hr v w hv => by
    have := find_any v K dst w hv hr
    rw [ha, her] at this
    exact this
  have HFR : Hid (∀ v w, RoT w v K → Calls Try.prog 16 #[v, .agg (ipA dst)] w fun e w' => e = .returned (.tuple #[.agg (ipA a), .int .i64 er]) ∧ Below w.heap.size w w') := fun v w hv => by
    have := reffind_any v K dst w hv (by rw [hnn]; exact hl)
    rw [ha, her] at this
    exact this
  have HLAW : Hid (rightX K = true → (∀ r ∈ K, inX dst r = true → r.bits ≤ bitsX dst a K) ∧ (er = 0 ↔ 0 ≤ bitsX dst a K)) := fun hr => by
    have := find_law (dst := dst) hr
    rw [ha, her] at this
    exact this
  have HWI : Hid (∀ (r : Ro) (w : World), Calls Try.prog 17 #[.agg (ipA dst), .agg (ipA r.net), .int .i64 r.bits] w fun e w' => e = .returned (.bool (inX dst r)) ∧ Below w.heap.size w w') := fun r w => refwithin_any dst r.net r.bits w
  have HQA : Hid (∀ w, (Op.equalIn 10000 26 (.agg (ipA a)) (.agg (ipA a))).run Try.prog w = .ok true w) := fun w => by rw [eq_ip 9998 a a w, decide_eq_true rfl]
  have HQ1 : Hid (∀ (r : Ro) (w : World), (Op.equalIn 10000 26 (.agg (ipA r.via)) (.agg (ipA a))).run Try.prog w = .ok (decide (r.via = a)) w) := fun r w => eq_ip 9998 r.via a w
  have HQ2 : Hid (∀ (r : Ro) (w : World), (Op.equalIn 10000 26 (.agg (ipA r.via)) (.agg #[.int .u8 0, .int .u8 0, .int .u8 0, .int .u8 0])).run Try.prog w = .ok (decide (r.via = zeroIp)) w) := fun r w => eq_ip 9998 r.via zeroIp w
  have HQ3 : Hid (∀ (w : World), (Op.equalIn 10000 26 (.agg (ipA a)) (.agg (ipA dst))).run Try.prog w = .ok (decide (a = dst)) w) := fun w => eq_ip 9998 a dst w
  have HOA : Hid ((ipA a).all (·.oneCell') = true) := ipE.one a
  obtain ⟨d0, d1, d2, d3, hD⟩ := ip_four dst
  obtain ⟨e0, e1, e2, e3, hE⟩ := ip_four a
  rw [hD] at HX1 HW HFC HFR HWI HQ3 ⊢
  rw [hE] at HFC HFR HQA HQ1 HQ3 HOA
  clear hnn hw1 ha her hcm hD hE htr
  go_enter Try.func4, Try.ntmps4
  go_upto_region 1 with (fail)
  change Code.wp _ _ _ _ (w.alloc (.cells #[d0, d1, d2, d3] 26))
  rw [HW.out]
  clear HW
  go_wp2_with fail
  refine (lives_any _).mono ?_
  rintro e w2 ⟨rfl, hb2⟩
  have HX2 := Lib.hid (old_below HX1.out hb2 (row_lt HX1.out))
  have HB2 := Lib.hid (HB1.out.trans (hb2.mono HB1.out.size))
  clear hb2 HX1 HB1
  go_wp2_with fail
  refine (refright_any _ K _ (HV.out.below HB2.out (Nat.le_refl _)) (by rw [HN.out]; exact hl)).mono ?_
  rintro e w3 ⟨rfl, hb3⟩
  have HX3 := Lib.hid (old_below HX2.out hb3 (row_lt HX2.out))
  have HB3 := Lib.hid (HB2.out.trans (hb3.mono HB2.out.size))
  clear hb3 HX2 HB2
  cases hright : rightX K
  · go_wp2_with fail
    refine (lives_any _).mono ?_
    rintro e w4 ⟨rfl, hb4⟩
    have HB4 := Lib.hid (HB3.out.trans (hb4.mono HB3.out.size))
    clear hb4
    go_wp2
    go_ret
    exact ⟨rfl, HB4.out⟩
  · have HLW := Lib.hid (HLAW.out hright).1
    have HLE := (HLAW.out hright).2
    have HLE2 := Lib.hid HLE
    have hn8 : n ≤ 8 := by
      have := right_len hright
      rw [HN.out] at this
      exact this
    have HFCC := Lib.hid (HFC.out hright)
    clear hright HLAW HFC HLE
    go_wp2_with (refine wpList_load_row rfl 26 _ rfl w.heap.size rfl 26 #[d0, d1, d2, d3] (0, 0) _ HX3.out Try.underlying26 rfl (by kernel_rfl) ?_)
    refine (HFCC.out _ _ (HV.out.below HB3.out (Nat.le_refl _))).mono ?_
    rintro e w4 ⟨rfl, hb4⟩
    have HX4 := Lib.hid (old_below HX3.out hb4 (row_lt HX3.out))
    have HB4 := Lib.hid (HB3.out.trans (hb4.mono HB3.out.size))
    clear hb4 HX3 HB3 HFCC
    go_upto_region 4 with (first | (refine wpList_store_new rfl 26 _ _ rfl w4 #[.int .u8 0, .int .u8 0, .int .u8 0, .int .u8 0] #[e0, e1, e2, e3] rfl rfl (by kernel_rfl) rfl HOA.out ?_) | go_in)
    have HY5 : Hid ((w4.alloc (.cells #[e0, e1, e2, e3] 26)).heap[w4.heap.size]? = some (.cells #[e0, e1, e2, e3] 26 (0, 0))) := heap_alloc_new w4 _
    have HX5 := Lib.hid (old_alloc HX4.out (.cells #[e0, e1, e2, e3] 26))
    have HB5 := Lib.hid (HB4.out.alloc HB4.out.size (.cells #[e0, e1, e2, e3] 26))
    generalize w4.alloc (.cells #[e0, e1, e2, e3] 26) = w5 at HX5 HY5 HB5 ⊢
    generalize w4.heap.size = NA at HY5 ⊢
    clear HX4 HB4
    go_wp2_with (refine wpList_load_row rfl 26 _ rfl w.heap.size rfl 26 #[d0, d1, d2, d3] (0, 0) _ HX5.out Try.underlying26 rfl (by kernel_rfl) ?_)
    refine (HFR.out _ _ (HV.out.below HB5.out (Nat.le_refl _))).mono ?_
    rintro e w6 ⟨rfl, hb6⟩
    have HX6 := Lib.hid (old_below HX5.out hb6 (row_lt HX5.out))
    have HY6 := Lib.hid (old_below HY5.out hb6 (row_lt HY5.out))
    have HB6 := Lib.hid (HB5.out.trans (hb6.mono HB5.out.size))
    clear hb6 HX5 HB5 HY5 HFR
    go_upto_region 5 with (first | (refine wpList_store_new rfl 26 _ _ rfl w6 #[.int .u8 0, .int .u8 0, .int .u8 0, .int .u8 0] #[e0, e1, e2, e3] rfl rfl (by kernel_rfl) rfl HOA.out ?_) | go_in)
    have HZ7 : Hid ((w6.alloc (.cells #[e0, e1, e2, e3] 26)).heap[w6.heap.size]? = some (.cells #[e0, e1, e2, e3] 26 (0, 0))) := heap_alloc_new w6 _
    have HX7 := Lib.hid (old_alloc HX6.out (.cells #[e0, e1, e2, e3] 26))
    have HY7 := Lib.hid (old_alloc HY6.out (.cells #[e0, e1, e2, e3] 26))
    have HB7 := Lib.hid (HB6.out.alloc HB6.out.size (.cells #[e0, e1, e2, e3] 26))
    generalize w6.alloc (.cells #[e0, e1, e2, e3] 26) = w7 at HX7 HY7 HZ7 HB7 ⊢
    generalize w6.heap.size = NB at HZ7 ⊢
    clear HX6 HB6 HY6
    obtain ⟨a0, a1, a2, a3⟩ := four_cells HY7.out
    obtain ⟨b0, b1, b2, b3⟩ := four_cells HZ7.out
    have heq := HQA.out
    go_upto_region 7 with (fail)
    clear a0 a1 a2 a3 b0 b1 b2 b3 heq HQA HZ7
    have HT7 := Lib.hid (HTR.out.below HB7.out (Nat.le_refl _))
    go_wp2
    go_loopw [9, 44] (fun t9 t44 wr => ∃ i : Nat, i ≤ n ∧ t44 = .int .i64 (i : Int) ∧ t9 = .int .i64 (bitsX dst a (K.take i)) ∧ Hid (Below w7.heap.size w7 wr)) (fun _ t44 _ => n - (intOf t44).toNat)
    case atStart => exact ⟨0, Nat.zero_le _, rfl, rfl, Lib.hid (Below.refl _ _)⟩
    case round =>
      obtain ⟨i, hi, rfl, rfl, HBW⟩ := hrel
      by_cases hlt : i < n
      · obtain ⟨r, hr⟩ : ∃ r, K[i]? = some r := ⟨_, List.getElem?_eq_getElem (by rw [HN.out]; exact hlt)⟩
        obtain ⟨ad, rfl, hKA⟩ := el_all roE (HT7.out.below HBW.out (Nat.le_refl _)) (by omega) hr
        have HKC := Lib.hid (hKA wr (Below.refl _ _))
        have HXW := Lib.hid (old_below HX7.out HBW.out (row_lt HX7.out))
        have HYW := Lib.hid (old_below HY7.out HBW.out (row_lt HY7.out))
        have HSN := Lib.hid (bits_snoc (dst := dst) (a := a) hr)
        have HWR := Lib.hid (HWI.out r)
        have HOR : Hid ((roA r).all (·.oneCell') = true) := roE.one r
        have HQV := Lib.hid (HQ1.out r)
        have HQZ := Lib.hid (HQ2.out r)
        have HBY : Hid (byX dst a r = (inX dst r && (decide (r.via = a) || (decide (r.via = zeroIp) && decide (a = dst))))) := rfl
        generalize bitsX dst a (K.take i) = B at HSN ⊢
        obtain ⟨n0, n1, n2, n3, v0, v1, v2, v3, hR, hNet, hVia⟩ := ro_nine r
        rw [hNet] at HWR
        rw [hVia] at HQV HQZ
        rw [hR] at HKC HOR
        generalize r.bits = z at HSN HWR HKC HOR ⊢
        clear hr hKA hR hNet hVia
        obtain ⟨w8, hw8⟩ : ∃ w8, wr.alloc (.cells #[n0, n1, n2, n3, .int .i64 z, v0, v1, v2, v3] 28) = w8 := ⟨_, rfl⟩
        have HR8 : Hid (w8.heap[wr.heap.size]? = some (.cells #[n0, n1, n2, n3, .int .i64 z, v0, v1, v2, v3] 28 (0, 0))) := by rw [← hw8]; exact heap_alloc_new wr _
        have HX8 : Hid (w8.heap[w.heap.size]? = some (.cells #[d0, d1, d2, d3] 26 (0, 0))) := by rw [← hw8]; exact old_alloc HXW.out _
        have HY8 : Hid (w8.heap[NA]? = some (.cells #[e0, e1, e2, e3] 26 (0, 0))) := by rw [← hw8]; exact old_alloc HYW.out _
        have HB8 : Hid (Below w7.heap.size w7 w8) := by rw [← hw8]; exact HBW.out.alloc HBW.out.size _
        have HW8 := Lib.hid hw8
        clear hw8 HXW HYW
        go_upto_region 11 with (first | (refine wpList_load_atA rfl 28 _ rfl (ad.add (i * 9)) rfl #[n0, n1, n2, n3, .int .i64 z, v0, v1, v2, v3] _ HKC.out Try.underlying28 rfl (by kernel_rfl) ?_) | (refine wpList_store_new rfl 28 _ _ rfl wr #[.int .u8 0, .int .u8 0, .int .u8 0, .int .u8 0, .int .i64 0, .int .u8 0, .int .u8 0, .int .u8 0, .int .u8 0] #[n0, n1, n2, n3, .int .i64 z, v0, v1, v2, v3] rfl rfl (by kernel_rfl) rfl HOR.out ?_) | go_in)
        rw [HW8.out]
        clear HW8 HKC
        generalize wr.heap.size = NR at HR8 ⊢
        obtain ⟨a0, a1, a2, a3, a4, a5, a6, a7, a8⟩ := nine_cells HR8.out
        obtain ⟨b0, b1, b2, b3⟩ := four_cells HX8.out
        go_wp2_with fail
        refine (HWR.out _).mono ?_
        rintro e w9 ⟨rfl, hb9⟩
        have HR9 := Lib.hid (old_below HR8.out hb9 (row_lt HR8.out))
        have HX9 := Lib.hid (old_below HX8.out hb9 (row_lt HX8.out))
        have HY9 := Lib.hid (old_below HY8.out hb9 (row_lt HY8.out))
        have HB9 := Lib.hid (HB8.out.trans (hb9.mono HB8.out.size))
        clear a0 a1 a2 a3 a4 a5 a6 a7 a8 b0 b1 b2 b3 hb9 HR8 HX8 HY8 HB8
        cases hin : inX dst r
        · rw [hin] at HBY
          have HS2 : Hid (bitsX dst a (K.take (i + 1)) = B) := by
            show _ = _
            rw [HSN.out, HBY.out]
            rfl
          clear hin HSN HBY
          obtain ⟨a0, a1, a2, a3, a4, a5, a6, a7, a8⟩ := nine_cells HR9.out
          obtain ⟨b0, b1, b2, b3⟩ := four_cells HX9.out
          obtain ⟨c0, c1, c2, c3⟩ := four_cells HY9.out
          go_wp2
          go_roundw
          case rel => exact ⟨i + 1, by omega, by go_num, by rw [HS2.out], HB9⟩
          case measure => simp [intOf]; omega
        · rw [hin] at HBY
          clear hin
          have heq1 := HQV.out
          cases hd1 : decide (r.via = a)
          · rw [hd1] at heq1 HBY
            clear hd1
            have heq2 := HQZ.out
            cases hd2 : decide (r.via = zeroIp)
            · rw [hd2] at heq2 HBY
              clear hd2
              have HS2 : Hid (bitsX dst a (K.take (i + 1)) = B) := by
                show _ = _
                rw [HSN.out, HBY.out]
                rfl
              clear HSN HBY
              obtain ⟨a0, a1, a2, a3, a4, a5, a6, a7, a8⟩ := nine_cells HR9.out
              obtain ⟨b0, b1, b2, b3⟩ := four_cells HX9.out
              obtain ⟨c0, c1, c2, c3⟩ := four_cells HY9.out
              go_wp2
              go_roundw
              case rel => exact ⟨i + 1, by omega, by go_num, by rw [HS2.out], HB9⟩
              case measure => simp [intOf]; omega
            · rw [hd2] at heq2 HBY
              clear hd2
              have heq3 := HQ3.out
              cases hd3 : decide (a = dst)
              · rw [hd3] at heq3 HBY
                clear hd3
                have HS2 : Hid (bitsX dst a (K.take (i + 1)) = B) := by
                  show _ = _
                  rw [HSN.out, HBY.out]
                  rfl
                clear HSN HBY
                obtain ⟨a0, a1, a2, a3, a4, a5, a6, a7, a8⟩ := nine_cells HR9.out
                obtain ⟨b0, b1, b2, b3⟩ := four_cells HX9.out
                obtain ⟨c0, c1, c2, c3⟩ := four_cells HY9.out
                go_wp2
                go_roundw
                case rel => exact ⟨i + 1, by omega, by go_num, by rw [HS2.out], HB9⟩
                case measure => simp [intOf]; omega
              · rw [hd3] at heq3 HBY
                clear hd3
                obtain ⟨a0, a1, a2, a3, a4, a5, a6, a7, a8⟩ := nine_cells HR9.out
                obtain ⟨b0, b1, b2, b3⟩ := four_cells HX9.out
                obtain ⟨c0, c1, c2, c3⟩ := four_cells HY9.out
                have HS2 : Hid (bitsX dst a (K.take (i + 1)) = max B z) := by
                  show _ = _
                  rw [HSN.out, HBY.out]
                  rfl
                clear HSN HBY
                rcases Int.lt_trichotomy B z with hm | hm | hm
                · have HMX : Hid (max B z = z) := Int.max_eq_right (Int.le_of_lt hm)
                  rw [HMX.out] at HS2
                  go_wp2
                  go_roundw
                  case rel => exact ⟨i + 1, by omega, by go_num, by rw [HS2.out], HB9⟩
                  case measure => simp [intOf]; omega
                · subst hm
                  have HMX : Hid (max B B = B) := Int.max_self B
                  rw [HMX.out] at HS2
                  go_wp2
                  go_roundw
                  case rel => exact ⟨i + 1, by omega, by go_num, by rw [HS2.out], HB9⟩
                  case measure => simp [intOf]; omega
                · have HMX : Hid (max B z = B) := Int.max_eq_left (Int.le_of_lt hm)
                  rw [HMX.out] at HS2
                  go_wp2
                  go_roundw
                  case rel => exact ⟨i + 1, by omega, by go_num, by rw [HS2.out], HB9⟩
                  case measure => simp [intOf]; omega
          · rw [hd1] at heq1 HBY
            clear hd1
            rw [Bool.true_or] at HBY
            obtain ⟨a0, a1, a2, a3, a4, a5, a6, a7, a8⟩ := nine_cells HR9.out
            obtain ⟨b0, b1, b2, b3⟩ := four_cells HX9.out
            obtain ⟨c0, c1, c2, c3⟩ := four_cells HY9.out
            have HS2 : Hid (bitsX dst a (K.take (i + 1)) = max B z) := by
              show _ = _
              rw [HSN.out, HBY.out]
              rfl
            clear HSN HBY
            rcases Int.lt_trichotomy B z with hm | hm | hm
            · have HMX : Hid (max B z = z) := Int.max_eq_right (Int.le_of_lt hm)
              rw [HMX.out] at HS2
              go_wp2
              go_roundw
              case rel => exact ⟨i + 1, by omega, by go_num, by rw [HS2.out], HB9⟩
              case measure => simp [intOf]; omega
            · subst hm
              have HMX : Hid (max B B = B) := Int.max_self B
              rw [HMX.out] at HS2
              go_wp2
              go_roundw
              case rel => exact ⟨i + 1, by omega, by go_num, by rw [HS2.out], HB9⟩
              case measure => simp [intOf]; omega
            · have HMX : Hid (max B z = B) := Int.max_eq_left (Int.le_of_lt hm)
              rw [HMX.out] at HS2
              go_wp2
              go_roundw
              case rel => exact ⟨i + 1, by omega, by go_num, by rw [HS2.out], HB9⟩
              case measure => simp [intOf]; omega
      · obtain rfl : i = n := by omega
        have HTK : Hid (K.take i = K) := List.take_of_length_le (Nat.le_of_eq HN.out)
        rw [HTK.out]
        generalize bitsX dst a K = B at HLW HLE2 ⊢
        rename World => wo
        go_wp2
        go_loopw [78] (fun t78 wr => ∃ j : Nat, j ≤ i ∧ t78 = .int .i64 (j : Int) ∧ Hid (Below w7.heap.size w7 wr)) (fun t78 _ => i - (intOf t78).toNat)
        case atStart => exact ⟨0, Nat.zero_le _, rfl, HBW⟩
        case round =>
          obtain ⟨j, hj, rfl, HBI⟩ := hrel
          by_cases hlt : j < i
          · obtain ⟨r, hr⟩ : ∃ r, K[j]? = some r := ⟨_, List.getElem?_eq_getElem (by rw [HN.out]; exact hlt)⟩
            obtain ⟨ad, rfl, hKA⟩ := el_all roE (HT7.out.below HBI.out (Nat.le_refl _)) (by omega) hr
            have HKC := Lib.hid (hKA wr (Below.refl _ _))
            have HXW := Lib.hid (old_below HX7.out HBI.out (row_lt HX7.out))
            have HWR := Lib.hid (HWI.out r)
            have HOR : Hid ((roA r).all (·.oneCell') = true) := roE.one r
            have HLR := Lib.hid (HLW.out r (List.mem_of_getElem? hr))
            obtain ⟨n0, n1, n2, n3, v0, v1, v2, v3, hR, hNet, hVia⟩ := ro_nine r
            rw [hNet] at HWR
            rw [hR] at HKC HOR
            generalize r.bits = z at HLR HWR HKC HOR ⊢
            clear hr hKA hR hNet hVia
            obtain ⟨w8, hw8⟩ : ∃ w8, wr.alloc (.cells #[n0, n1, n2, n3, .int .i64 z, v0, v1, v2, v3] 28) = w8 := ⟨_, rfl⟩
            have HR8 : Hid (w8.heap[wr.heap.size]? = some (.cells #[n0, n1, n2, n3, .int .i64 z, v0, v1, v2, v3] 28 (0, 0))) := by rw [← hw8]; exact heap_alloc_new wr _
            have HX8 : Hid (w8.heap[w.heap.size]? = some (.cells #[d0, d1, d2, d3] 26 (0, 0))) := by rw [← hw8]; exact old_alloc HXW.out _
            have HB8 : Hid (Below w7.heap.size w7 w8) := by rw [← hw8]; exact HBI.out.alloc HBI.out.size _
            have HW8 := Lib.hid hw8
            clear hw8 HXW
            go_upto_region 17 with (first | (refine wpList_load_atA rfl 28 _ rfl (ad.add (j * 9)) rfl #[n0, n1, n2, n3, .int .i64 z, v0, v1, v2, v3] _ HKC.out Try.underlying28 rfl (by kernel_rfl) ?_) | (refine wpList_store_new rfl 28 _ _ rfl wr #[.int .u8 0, .int .u8 0, .int .u8 0, .int .u8 0, .int .i64 0, .int .u8 0, .int .u8 0, .int .u8 0, .int .u8 0] #[n0, n1, n2, n3, .int .i64 z, v0, v1, v2, v3] rfl rfl (by kernel_rfl) rfl HOR.out ?_) | go_in)
            rw [HW8.out]
            clear HW8 HKC
            generalize wr.heap.size = NR at HR8 ⊢
            obtain ⟨a0, a1, a2, a3, a4, a5, a6, a7, a8⟩ := nine_cells HR8.out
            obtain ⟨b0, b1, b2, b3⟩ := four_cells HX8.out
            go_wp2_with fail
            refine (HWR.out _).mono ?_
            rintro e w9 ⟨rfl, hb9⟩
            have HR9 := Lib.hid (old_below HR8.out hb9 (row_lt HR8.out))
            have HB9 := Lib.hid (HB8.out.trans (hb9.mono HB8.out.size))
            clear a0 a1 a2 a3 a4 a5 a6 a7 a8 b0 b1 b2 b3 hb9 HR8 HX8 HB8
            obtain ⟨a0, a1, a2, a3, a4, a5, a6, a7, a8⟩ := nine_cells HR9.out
            cases hin : inX dst r
            · clear hin
              go_wp2
              go_roundw
              case rel => exact ⟨j + 1, by omega, by go_num, HB9⟩
              case measure => simp [intOf]; omega
            · have hz : ¬ B < z := by
                have := HLR.out hin
                omega
              clear hin
              go_wp2
              go_roundw
              case rel => exact ⟨j + 1, by omega, by go_num, HB9⟩
              case measure => simp [intOf]; omega
          · obtain rfl : j = i := by omega
            have HBF := Lib.hid (HB7.out.trans (HBI.out.mono HB7.out.size))
            by_cases he : er = 0
            · have hB := HLE2.out.1 he
              subst he
              go_wp2
              go_ret
              exact ⟨rfl, HBF.out⟩
            · have hB : ¬ 0 ≤ B := fun h => he (HLE2.out.2 h)
              have hex : (er == 0) = false := beq_eq_false_iff_ne.2 he
              go_wp2
              go_ret
              exact ⟨rfl, HBF.out⟩
end Go.Proofs.Ytfifigokglmjlaa
