/-
  The law WheelMoved: from another time on all is the same, but the times: every time, every slice of ops.
-/
import Derived.Test.YtljochpomgjjeaaMvm
import Derived.Test.YtljochpomgjjeaaOpW
namespace Go.Proofs.Ytljochpomgjjeaa
open Go.RowKit

set_option maxRecDepth 100000 in
set_option maxHeartbeats 40000000 in
theorem moved_any (n : Nat) (v : Value) (l : List Op16) (w : World) (hv : SlT opA w v l) (hO : ∀ o ∈ l, okO o) (hl : l.length ≤ 140737488351232) (hn : n < 18446744073709551616) :
    Calls Try.prog 6 #[.int .u64 (n : Int), v] w fun e w' => e = .returned (.bool true) ∧ Below w.heap.size w w' := by
  obtain ⟨A, c, rfl, htr, -, hnc, hcm⟩ := hv
  obtain ⟨m, hm⟩ : ∃ m, l.length = m := ⟨_, rfl⟩
  have HM := Lib.hid hm
  rw [hm] at hnc hl ⊢
  have hcm2 : c ≤ 9223372036854775807 := by unfold maxLen at hcm; omega
  have HTR := Lib.hid htr
  have HOK := Lib.hid hO
  obtain ⟨d, hd⟩ : ∃ d, n % 1152921504606846976 = d := ⟨_, rfl⟩
  have hr1 : (n : Int).tmod 1152921504606846976 = (d : Int) := by rw [Int.tmod_eq_emod_of_nonneg (by omega)]; omega
  have hr2 : (n : Int) % 1152921504606846976 = (d : Int) := by omega
  have hd60 : d < 1152921504606846976 := by omega
  clear hm htr hcm hO hd
  go_enter Try.func6, Try.ntmps6
  go_wp2_with fail
  refine (lives_any _).mono ?_
  rintro e w1 ⟨rfl, hb1⟩
  have HB1 := Lib.hid hb1
  clear hb1
  by_cases h200 : 200 < m
  · have h200b : (200 : Int) < (m : Int) := by omega
    go_wp2_with fail
    refine (lives_any _).mono ?_
    rintro e w2 ⟨rfl, hb2⟩
    have HB2 := Lib.hid (HB1.out.trans (hb2.mono HB1.out.size))
    clear hb2
    go_wp2
    go_ret
    exact ⟨rfl, HB2.out⟩
  have h200b : ¬ (200 : Int) < (m : Int) := by omega
  have HP1 : Hid (((w1.alloc (.cells #[.int .u64 0, .slice none 0 0] 27)).alloc (.cells #[.int .u64 0, .slice none 0 0] 27)).heap[w1.heap.size]? = some (.cells #[.int .u64 0, .slice none 0 0] 27 (0, 0))) := old_alloc (heap_alloc_new w1 _) _
  have HP2 : Hid ((((w1.alloc (.cells #[.int .u64 0, .slice none 0 0] 27)).alloc (.cells #[.int .u64 0, .slice none 0 0] 27)).setRow w1.heap.size #[.int .u64 0, .slice none 0 0]).heap[w1.heap.size + 1]? = some (.cells #[.int .u64 0, .slice none 0 0] 27 (0, 0))) := (setRow_other _ _ _ _ (by omega)).trans (new_at1 w1 _ _)
  go_upto_region 5 with (first | (refine wpList_store_row rfl 27 _ _ rfl (w1.heap.size + 1) #[.int .u64 (d : Int), .slice none 0 0] rfl rfl 27 #[.int .u64 0, .slice none 0 0] HP2.out (by kernel_rfl) rfl (wh_one rfl) ?_) | (refine wpList_store_row rfl 27 _ _ rfl w1.heap.size #[.int .u64 0, .slice none 0 0] rfl rfl 27 #[.int .u64 0, .slice none 0 0] HP1.out (by kernel_rfl) rfl (wh_one rfl) ?_) | go_in)
  have HV1 : Hid (((((w1.alloc (.cells #[.int .u64 0, .slice none 0 0] 27)).alloc (.cells #[.int .u64 0, .slice none 0 0] 27)).setRow w1.heap.size #[.int .u64 0, .slice none 0 0]).setRow (w1.heap.size + 1) #[.int .u64 (d : Int), .slice none 0 0]).heap[w1.heap.size]? = some (.cells #[.int .u64 0, .slice none 0 0] 27 (0, 0))) := (setRow_other _ _ _ _ (by omega)).trans (setRow_heap _ _ _ _ _ _ HP1.out)
  have HV2 : Hid (((((w1.alloc (.cells #[.int .u64 0, .slice none 0 0] 27)).alloc (.cells #[.int .u64 0, .slice none 0 0] 27)).setRow w1.heap.size #[.int .u64 0, .slice none 0 0]).setRow (w1.heap.size + 1) #[.int .u64 (d : Int), .slice none 0 0]).heap[w1.heap.size + 1]? = some (.cells #[.int .u64 (d : Int), .slice none 0 0] 27 (0, 0))) := setRow_heap _ _ _ _ _ _ HP2.out
  have HB3 : Hid (Below w.heap.size w ((((w1.alloc (.cells #[.int .u64 0, .slice none 0 0] 27)).alloc (.cells #[.int .u64 0, .slice none 0 0] 27)).setRow w1.heap.size #[.int .u64 0, .slice none 0 0]).setRow (w1.heap.size + 1) #[.int .u64 (d : Int), .slice none 0 0])) := below_setRow (below_setRow ((HB1.out.alloc HB1.out.size _).alloc (by have := HB1.out.size; simp; omega) _) HB1.out.size _) (by have := HB1.out.size; omega) _
  generalize ((((w1.alloc (.cells #[.int .u64 0, .slice none 0 0] 27)).alloc (.cells #[.int .u64 0, .slice none 0 0] 27)).setRow w1.heap.size #[.int .u64 0, .slice none 0 0]).setRow (w1.heap.size + 1) #[.int .u64 (d : Int), .slice none 0 0]) = w3 at HV1 HV2 HB3 ⊢
  have hge1 := HB1.out.size
  obtain ⟨g1, hg1⟩ : ∃ g1, w1.heap.size = g1 := ⟨_, rfl⟩
  rw [hg1] at HV1 HV2 hge1 ⊢
  obtain ⟨g2, hg2⟩ : ∃ g2, g1 + 1 = g2 := ⟨_, rfl⟩
  rw [hg2] at HV2 ⊢
  have NE_x1_x2 : Hid (g1 ≠ g2) := by show _ ≠ _; omega
  have NE_x2_x1 : Hid (g2 ≠ g1) := by show _ ≠ _; omega
  have HGE : Hid (∀ k, k = g1 ∨ k = g2 → w.heap.size ≤ k) := fun k hk => by rcases hk with rfl | rfl <;> omega
  clear hg1 hg2 HP1 HP2 HB1 hge1 hr1 hr2
  go_wp2
  go_loopw [40] (fun t40 wr => ∃ (i kn nd : Nat) (T : List Tm) (s1 s2 : Value), i ≤ m ∧ t40 = .int .i64 (i : Int) ∧ kn ≤ i ∧ nd = kn + d ∧ Hid (wr.heap[g1]? = some (.cells #[.int .u64 (kn : Int), s1] 27 (0, 0))) ∧ Hid (wr.heap[g2]? = some (.cells #[.int .u64 (nd : Int), s2] 27 (0, 0))) ∧ Hid (TsT wr s1 T) ∧ Hid (TsT wr s2 (shT d T)) ∧ Hid (rightW kn T = true) ∧ Hid (lowT kn T) ∧ Hid (Below w.heap.size w wr)) (fun t40 _ => m - (intOf t40).toNat)
  case atStart => exact ⟨0, 0, d, [], .slice none 0 0, .slice none 0 0, Nat.zero_le _, rfl, Nat.le_refl _, by omega, HV1, HV2, Lib.hid TlT.nil, Lib.hid TlT.nil, Lib.hid (right_new 0 (by omega)), Lib.hid (fun t ht => by cases ht), HB3⟩
  case round =>
    clear HV1 HV2 HB3
    obtain ⟨i, kn, nd, T, s1, s2, hi, rfl, hkn, hnd, Kx1, Kx2, Ts1, Ts2, HR, HLO, BW⟩ := hrel
    by_cases hlt : i < m
    · obtain ⟨o, ho⟩ : ∃ o, l[i]? = some o := ⟨_, List.getElem?_eq_getElem (by rw [HM.out]; exact hlt)⟩
      obtain ⟨ad, rfl, hKA⟩ := el_all opE (HTR.out.below BW.out (Nat.le_refl _)) (by omega) ho
      have HKC : Hid (∀ (j : Nat) v, (#[.int .i64 o.kind, .int .i64 o.id, .int .u64 (o.after : Int)] : Array Value)[j]? = some v → wr.cell? ((ad.add (i * 3)).add j) = some v) := hKA wr (Below.refl _ _)
      obtain ⟨hok1, hok2, hok3⟩ := HOK.out o (List.mem_of_getElem? ho)
      have HID := Lib.hid hok2
      have haf := hok3
      have hk62 : kn < 4611686018427387904 := by omega
      have hnd62 : nd < 4611686018427387904 := by omega
      have HO1 := Lib.hid Ts1.out.one
      have HO2 := Lib.hid Ts2.out.one
      have HRD : Hid (rightW nd (shT d T) = true) := by
        show _ = _
        rw [hnd]
        exact sh_right HR.out (by omega)
      have HOA : Hid (okT T) := low_ok HLO.out (by omega)
      have HOB : Hid (okT (shT d T)) := low_sh HLO.out (by omega)
      have HND := Lib.hid hnd
      clear hnd
      obtain ⟨kd, hkd⟩ : ∃ kd, o.kind = kd := ⟨_, rfl⟩
      obtain ⟨id, hid⟩ : ∃ id, o.id = id := ⟨_, rfl⟩
      obtain ⟨af, haf2⟩ : ∃ af, o.after = af := ⟨_, rfl⟩
      rw [hkd, hid, haf2] at HKC
      rw [hid] at HID
      rw [haf2] at haf
      clear ho hKA hok1 hok2 hok3 hkd hid haf2
      go_upto_region 8 with (first | (refine wpList_load_atA rfl 31 _ rfl (ad.add (i * 3)) rfl #[.int .i64 kd, .int .i64 id, .int .u64 (af : Int)] _ HKC.out Try.underlying31 rfl (by kernel_rfl) ?_) | (refine wpList_store_new rfl 31 _ _ rfl wr #[.int .i64 0, .int .i64 0, .int .u64 0] #[.int .i64 kd, .int .i64 id, .int .u64 (af : Int)] rfl rfl (by kernel_rfl) rfl (by simp [Value.oneCell']) ?_) | go_in)
      clear HKC
      have NE_x1_o : Hid (g1 ≠ wr.heap.size) := by have := row_lt Kx1.out; show _ ≠ _; omega
      have NE_x2_o : Hid (g2 ≠ wr.heap.size) := by have := row_lt Kx2.out; show _ ≠ _; omega
      have GE_o := Lib.hid BW.out.size
      have Ko_1 : Hid ((wr.alloc (.cells #[.int .i64 kd, .int .i64 id, .int .u64 (af : Int)] 31)).heap[wr.heap.size]? = some (.cells #[.int .i64 kd, .int .i64 id, .int .u64 (af : Int)] 31 (0, 0))) := heap_alloc_new wr _
      have Kx1_2 : Hid ((wr.alloc (.cells #[.int .i64 kd, .int .i64 id, .int .u64 (af : Int)] 31)).heap[g1]? = some (.cells #[.int .u64 (kn : Int), s1] 27 (0, 0))) := old_alloc Kx1.out _
      have Kx2_3 : Hid ((wr.alloc (.cells #[.int .i64 kd, .int .i64 id, .int .u64 (af : Int)] 31)).heap[g2]? = some (.cells #[.int .u64 (nd : Int), s2] 27 (0, 0))) := old_alloc Kx2.out _
      have Ts1_4 : Hid (TsT (wr.alloc (.cells #[.int .i64 kd, .int .i64 id, .int .u64 (af : Int)] 31)) s1 T) := Ts1.out.alloc _
      have Ts2_5 : Hid (TsT (wr.alloc (.cells #[.int .i64 kd, .int .i64 id, .int .u64 (af : Int)] 31)) s2 (shT d T)) := Ts2.out.alloc _
      have B_6 := Lib.hid (BW.out.alloc BW.out.size (.cells #[.int .i64 kd, .int .i64 id, .int .u64 (af : Int)] 31))
      generalize (wr.alloc (.cells #[.int .i64 kd, .int .i64 id, .int .u64 (af : Int)] 31)) = w5 at Ko_1 Kx1_2 Kx2_3 Ts1_4 Ts2_5 B_6 ⊢
      generalize wr.heap.size = go at Ko_1 NE_x1_o NE_x2_o GE_o ⊢
      clear Kx1 Kx2 Ts1 Ts2 BW
      obtain ⟨q, hq, hq5⟩ := u64_rem kd 5 (by decide) (by decide)
      change (IntKind.u64.wrap kd).tmod 5 = (q : Int) at hq
      have hq0 : q = 0 ∨ q = 1 ∨ q = 2 ∨ q = 3 ∨ q = 4 := by omega
      rcases hq0 with rfl | rfl | rfl | rfl | rfl
      · as_aux_lemma =>
          obtain ⟨co0, co1, co2⟩ := three_cells Ko_1.out
          go_upto_region 22 with (fail)
          clear co0 co1 co2
          obtain ⟨⟨T1, z1⟩, hres⟩ : ∃ p, setC kn T id af = p := ⟨_, rfl⟩
          have hres2 : setC nd (shT d T) id af = (shT d T1, z1) := by rw [HND.out, sh_set, hres]
          have HRN : Hid (rightW kn T1 = true) := by
            have := right_set (id := id) (after := af) HR.out
            rw [hres] at this
            exact this
          have HLN : Hid (lowT kn T1) := by
            have := low_set (after := af) HLO.out HID.out
            rw [hres] at this
            exact this
          have HCA : Hid (∀ w v, WhT w v kn T → Calls Try.prog 9 #[v, .int .i64 id, .int .u64 (af : Int)] w fun e w' => ∃ v', e = .returned (.tuple #[v', .int .i64 z1]) ∧ WhT w' v' kn T1 ∧ Below w.heap.size w w') := fun w v hv => by
            have := set_any v kn T id af w hv.whs HR.out HOA.out HID.out haf
            rw [hres] at this
            exact this
          have HCB : Hid (∀ w v, WhT w v nd (shT d T) → Calls Try.prog 9 #[v, .int .i64 id, .int .u64 (af : Int)] w fun e w' => ∃ v', e = .returned (.tuple #[v', .int .i64 z1]) ∧ WhT w' v' nd (shT d T1) ∧ Below w.heap.size w w') := fun w v hv => by
            have := set_any v nd (shT d T) id af w hv.whs HRD.out HOB.out HID.out haf
            rw [hres2] at this
            exact this
          clear hres hres2
          obtain ⟨co0, co1, co2⟩ := three_cells Ko_1.out
          go_wp2_with (refine wpList_load_row rfl 27 _ rfl g1 rfl 27 #[.int .u64 (kn : Int), s1] (0, 0) _ Kx1_2.out Try.underlying27 rfl (by kernel_rfl) ?_)
          refine (HCA.out _ _ ⟨_, rfl, Ts1_4.out⟩).mono ?_
          rintro e wc0 ⟨vc0, rfl, hv, hb⟩
          obtain ⟨tc0, rfl, ho, ht⟩ := hv.form
          have HOC0 := Lib.hid ho
          have TC0 := Lib.hid ht
          clear co0 co1 co2
          have Kx1_7 := Lib.hid (old_below Kx1_2.out hb (row_lt Kx1_2.out))
          have Kx2_8 := Lib.hid (old_below Kx2_3.out hb (row_lt Kx2_3.out))
          have Ko_9 := Lib.hid (old_below Ko_1.out hb (row_lt Ko_1.out))
          have Ts1_10 := Lib.hid (Ts1_4.out.below hb)
          have Ts2_11 := Lib.hid (Ts2_5.out.below hb)
          have B_12 := Lib.hid (B_6.out.trans ((hb).mono B_6.out.size))
          clear Kx1_2 Kx2_3 Ko_1 Ts1_4 Ts2_5 B_6
          clear hv ho ht hb
          go_upto_region 23 with (first | (refine wpList_store_new rfl 27 _ _ rfl wc0 #[.int .u64 0, .slice none 0 0] #[.int .u64 (kn : Int), tc0] rfl rfl (by kernel_rfl) rfl (wh_one HOC0.out) ?_) | go_in)
          have NE_x1_n1 : Hid (g1 ≠ wc0.heap.size) := by have := row_lt Kx1_7.out; show _ ≠ _; omega
          have NE_x2_n1 : Hid (g2 ≠ wc0.heap.size) := by have := row_lt Kx2_8.out; show _ ≠ _; omega
          have NE_o_n1 : Hid (go ≠ wc0.heap.size) := by have := row_lt Ko_9.out; show _ ≠ _; omega
          have GE_n1 := Lib.hid B_12.out.size
          have Kn1_13 : Hid ((wc0.alloc (.cells #[.int .u64 (kn : Int), tc0] 27)).heap[wc0.heap.size]? = some (.cells #[.int .u64 (kn : Int), tc0] 27 (0, 0))) := heap_alloc_new wc0 _
          have Kx1_14 : Hid ((wc0.alloc (.cells #[.int .u64 (kn : Int), tc0] 27)).heap[g1]? = some (.cells #[.int .u64 (kn : Int), s1] 27 (0, 0))) := old_alloc Kx1_7.out _
          have Kx2_15 : Hid ((wc0.alloc (.cells #[.int .u64 (kn : Int), tc0] 27)).heap[g2]? = some (.cells #[.int .u64 (nd : Int), s2] 27 (0, 0))) := old_alloc Kx2_8.out _
          have Ko_16 : Hid ((wc0.alloc (.cells #[.int .u64 (kn : Int), tc0] 27)).heap[go]? = some (.cells #[.int .i64 kd, .int .i64 id, .int .u64 (af : Int)] 31 (0, 0))) := old_alloc Ko_9.out _
          have Ts1_17 : Hid (TsT (wc0.alloc (.cells #[.int .u64 (kn : Int), tc0] 27)) s1 T) := Ts1_10.out.alloc _
          have Ts2_18 : Hid (TsT (wc0.alloc (.cells #[.int .u64 (kn : Int), tc0] 27)) s2 (shT d T)) := Ts2_11.out.alloc _
          have Tt1_19 : Hid (TsT (wc0.alloc (.cells #[.int .u64 (kn : Int), tc0] 27)) tc0 T1) := TC0.out.alloc _
          have B_20 := Lib.hid (B_12.out.alloc B_12.out.size (.cells #[.int .u64 (kn : Int), tc0] 27))
          generalize (wc0.alloc (.cells #[.int .u64 (kn : Int), tc0] 27)) = wd0 at Kn1_13 Kx1_14 Kx2_15 Ko_16 Ts1_17 Ts2_18 Tt1_19 B_20 ⊢
          generalize wc0.heap.size = gn0 at Kn1_13 NE_x1_n1 NE_x2_n1 NE_o_n1 GE_n1 ⊢
          clear Kx1_7 Kx2_8 Ko_9 Ts1_10 Ts2_11 TC0 B_12
          obtain ⟨co0, co1, co2⟩ := three_cells Ko_16.out
          go_wp2_with (refine wpList_load_row rfl 27 _ rfl g2 rfl 27 #[.int .u64 (nd : Int), s2] (0, 0) _ Kx2_15.out Try.underlying27 rfl (by kernel_rfl) ?_)
          refine (HCB.out _ _ ⟨_, rfl, Ts2_18.out⟩).mono ?_
          rintro e wc1 ⟨vc1, rfl, hv, hb⟩
          obtain ⟨tc1, rfl, ho, ht⟩ := hv.form
          have HOC1 := Lib.hid ho
          have TC1 := Lib.hid ht
          clear co0 co1 co2
          have Kx1_21 := Lib.hid (old_below Kx1_14.out hb (row_lt Kx1_14.out))
          have Kx2_22 := Lib.hid (old_below Kx2_15.out hb (row_lt Kx2_15.out))
          have Ko_23 := Lib.hid (old_below Ko_16.out hb (row_lt Ko_16.out))
          have Kn1_24 := Lib.hid (old_below Kn1_13.out hb (row_lt Kn1_13.out))
          have Ts1_25 := Lib.hid (Ts1_17.out.below hb)
          have Ts2_26 := Lib.hid (Ts2_18.out.below hb)
          have Tt1_27 := Lib.hid (Tt1_19.out.below hb)
          have B_28 := Lib.hid (B_20.out.trans ((hb).mono B_20.out.size))
          clear Kx1_14 Kx2_15 Ko_16 Kn1_13 Ts1_17 Ts2_18 Tt1_19 B_20
          clear hv ho ht hb
          go_upto_region 24 with (first | (refine wpList_store_new rfl 27 _ _ rfl wc1 #[.int .u64 0, .slice none 0 0] #[.int .u64 (nd : Int), tc1] rfl rfl (by kernel_rfl) rfl (wh_one HOC1.out) ?_) | go_in)
          have NE_x1_n2 : Hid (g1 ≠ wc1.heap.size) := by have := row_lt Kx1_21.out; show _ ≠ _; omega
          have NE_x2_n2 : Hid (g2 ≠ wc1.heap.size) := by have := row_lt Kx2_22.out; show _ ≠ _; omega
          have NE_o_n2 : Hid (go ≠ wc1.heap.size) := by have := row_lt Ko_23.out; show _ ≠ _; omega
          have NE_n1_n2 : Hid (gn0 ≠ wc1.heap.size) := by have := row_lt Kn1_24.out; show _ ≠ _; omega
          have GE_n2 := Lib.hid B_28.out.size
          have Kn2_29 : Hid ((wc1.alloc (.cells #[.int .u64 (nd : Int), tc1] 27)).heap[wc1.heap.size]? = some (.cells #[.int .u64 (nd : Int), tc1] 27 (0, 0))) := heap_alloc_new wc1 _
          have Kx1_30 : Hid ((wc1.alloc (.cells #[.int .u64 (nd : Int), tc1] 27)).heap[g1]? = some (.cells #[.int .u64 (kn : Int), s1] 27 (0, 0))) := old_alloc Kx1_21.out _
          have Kx2_31 : Hid ((wc1.alloc (.cells #[.int .u64 (nd : Int), tc1] 27)).heap[g2]? = some (.cells #[.int .u64 (nd : Int), s2] 27 (0, 0))) := old_alloc Kx2_22.out _
          have Ko_32 : Hid ((wc1.alloc (.cells #[.int .u64 (nd : Int), tc1] 27)).heap[go]? = some (.cells #[.int .i64 kd, .int .i64 id, .int .u64 (af : Int)] 31 (0, 0))) := old_alloc Ko_23.out _
          have Kn1_33 : Hid ((wc1.alloc (.cells #[.int .u64 (nd : Int), tc1] 27)).heap[gn0]? = some (.cells #[.int .u64 (kn : Int), tc0] 27 (0, 0))) := old_alloc Kn1_24.out _
          have Ts1_34 : Hid (TsT (wc1.alloc (.cells #[.int .u64 (nd : Int), tc1] 27)) s1 T) := Ts1_25.out.alloc _
          have Ts2_35 : Hid (TsT (wc1.alloc (.cells #[.int .u64 (nd : Int), tc1] 27)) s2 (shT d T)) := Ts2_26.out.alloc _
          have Tt1_36 : Hid (TsT (wc1.alloc (.cells #[.int .u64 (nd : Int), tc1] 27)) tc0 T1) := Tt1_27.out.alloc _
          have Tt2_37 : Hid (TsT (wc1.alloc (.cells #[.int .u64 (nd : Int), tc1] 27)) tc1 (shT d T1)) := TC1.out.alloc _
          have B_38 := Lib.hid (B_28.out.alloc B_28.out.size (.cells #[.int .u64 (nd : Int), tc1] 27))
          generalize (wc1.alloc (.cells #[.int .u64 (nd : Int), tc1] 27)) = wd1 at Kn2_29 Kx1_30 Kx2_31 Ko_32 Kn1_33 Ts1_34 Ts2_35 Tt1_36 Tt2_37 B_38 ⊢
          generalize wc1.heap.size = gn1 at Kn2_29 NE_x1_n2 NE_x2_n2 NE_o_n2 NE_n1_n2 GE_n2 ⊢
          clear Kx1_21 Kx2_22 Ko_23 Kn1_24 Ts1_25 Ts2_26 Tt1_27 TC1 B_28
          apply wp_region_relyG [2, 3] (OldT wd1 2 g1 27 #[.int .u64 (kn : Int), s1] #[.int .u64 (kn : Int), tc0] 3 g2 27 #[.int .u64 (nd : Int), s2] #[.int .u64 (nd : Int), tc1]) (RL [Is (.agg #[.int .u64 (kn : Int), tc0]), Is (.agg #[.int .u64 (nd : Int), tc1]), Any, Any]) [false, false, false, false, false, false, false, false, false, false, false, false, false, false, false, false, false, false, false, false, false, false, false, false, false, false, false, false, false, false, false, false, false, false, false, false, false, false, false, false, false, false, false, false, false, false, false, false, false, false, false, false, false, false, false, false, false, false, false, false, false, false, false, false, false, false, false, false, false, false, false, false, false, false, false, false, false, false, false, false, false, false, false, false, false, false, false, false, false, false, false, false, false, false, false, false, false, false, false, false, false, true, true, false, false, false, false, false, false, false, false, false, false, false, false, false, false, false, false, false, false, false, false, false, false, false, false, false, false, false, false, false, false, false, false, false, false, false, false, false, false, false, false, false, false, false, false, false, false, false, false, false, false, false, false, false, false, false, false, false, false, false, false, false, false, false, false, false, false, false, false, false, false, false, false]
          · kernel_rfl
          · kernel_rfl
          · kernel_rfl
          · refine ⟨?_, ?_, ?_, ?_, trivial⟩
            · intro L ev w' hC hL hx K hK
              have e10 : ev (.tmp 10) = _ := hx.base 10 (by kernel_rfl)
              have HK := Lib.hid hK
              have HC := Lib.hid hC
              have HL := Lib.hid hL
              have HX := Lib.hid hx
              have hc := hx.cst
              skip
              clear hx hK hC hL
              have q1 : ev (.tmp 10) = .pointer (some ⟨gn0, 0, none⟩) := e10
              have hld := run_loadVar_row (P := Try.prog) w' gn0 27 27 #[.int .u64 (kn : Int), tc0] (0, 0) _ (HC.out.keep Kn1_33.out (Ne.symm NE_x1_n1.out) (Ne.symm NE_x2_n1.out)) Try.underlying27 rfl (by kernel_rfl)
              unfold Run
              rw [rely_load 27 _ rfl q1 hld]
              exact HK.out _ _ (.inl ⟨Below.refl _ _, by decide⟩) rfl
            · intro L ev w' hC hL hx K hK
              have e12 : ev (.tmp 12) = _ := hx.base 12 (by kernel_rfl)
              have HK := Lib.hid hK
              have HC := Lib.hid hC
              have HL := Lib.hid hL
              have HX := Lib.hid hx
              have hc := hx.cst
              skip
              clear hx hK hC hL
              have q1 : ev (.tmp 12) = .pointer (some ⟨gn1, 0, none⟩) := e12
              have hld := run_loadVar_row (P := Try.prog) w' gn1 27 27 #[.int .u64 (nd : Int), tc1] (0, 0) _ (HC.out.keep Kn2_29.out (Ne.symm NE_x1_n2.out) (Ne.symm NE_x2_n2.out)) Try.underlying27 rfl (by kernel_rfl)
              unfold Run
              rw [rely_load 27 _ rfl q1 hld]
              exact HK.out _ _ (.inl ⟨Below.refl _ _, by decide⟩) rfl
            · intro L ev w' hC hL hx K hK
              have e6 : ev (.tmp 6) = _ := hx.base 6 (by kernel_rfl)
              have e101 := hx.held 0 _ rfl (by kernel_rfl)
              change ev (.tmp 101) = _ at e101
              have HK := Lib.hid hK
              have HC := Lib.hid hC
              have HL := Lib.hid hL
              have HX := Lib.hid hx
              have hc := hx.cst
              skip
              clear hx hK hC hL
              have qv : ev (.tmp 101) = .agg #[.int .u64 (kn : Int), tc0] := e101
              have nst : L 2 = false := HL.out
              have qp : ev (.tmp 6) = .pointer (some ⟨g1, 0, none⟩) := e6
              have hgh := HC.out.old1 nst
              have hnv := HC.out.store1 nst rfl NE_x1_x2.out (by decide)
              have hst := run_storeVar_row (P := Try.prog) w' g1 27 27 #[.int .u64 (kn : Int), s1] #[.int .u64 (kn : Int), tc0] hgh (by kernel_rfl) rfl (wh_one HOC0.out)
              unfold Run
              rw [rely_store 27 _ _ rfl qp qv hst]
              refine HK.out _ _ (.inr ⟨hnv, fun j hj hlj u hr => ?_⟩) trivial
              rcases j with _ | _ | _ | _ | j
              · exact hr
              · exact hr
              · exact absurd rfl hj
              · exact trivial
              · exact trivial
            · intro L ev w' hC hL hx K hK
              have e7 : ev (.tmp 7) = _ := hx.base 7 (by kernel_rfl)
              have e102 := hx.held 1 _ rfl (by kernel_rfl)
              change ev (.tmp 102) = _ at e102
              have HK := Lib.hid hK
              have HC := Lib.hid hC
              have HL := Lib.hid hL
              have HX := Lib.hid hx
              have hc := hx.cst
              skip
              clear hx hK hC hL
              have qv : ev (.tmp 102) = .agg #[.int .u64 (nd : Int), tc1] := e102
              have nst : L 3 = false := HL.out
              have qp : ev (.tmp 7) = .pointer (some ⟨g2, 0, none⟩) := e7
              have hgh := HC.out.old2 nst
              have hnv := HC.out.store2 nst rfl NE_x1_x2.out (by decide)
              have hst := run_storeVar_row (P := Try.prog) w' g2 27 27 #[.int .u64 (nd : Int), s2] #[.int .u64 (nd : Int), tc1] hgh (by kernel_rfl) rfl (wh_one HOC1.out)
              unfold Run
              rw [rely_store 27 _ _ rfl qp qv hst]
              refine HK.out _ _ (.inr ⟨hnv, fun j hj hlj u hr => ?_⟩) trivial
              rcases j with _ | _ | _ | _ | j
              · exact hr
              · exact hr
              · exact trivial
              · exact absurd rfl hj
              · exact trivial
          · exact rl_mono ⟨is_mono _, is_mono _, any_mono, any_mono, trivial⟩
          · exact fun L L' w' h1 hg => hg.agree (h1 2 (by simp)) (h1 3 (by simp))
          · exact fun L w' w'' hb hg => hg.below hb
          · exact OldT.start Kx1_30.out Kx2_31.out
          · simp
          intro us wr hG hH
          obtain ⟨-, -, -, -, -⟩ := hH
          simp only [fillM]
          obtain ⟨hG9, hvn1, hvn2⟩ := hG
          have HVN1 : Hid (wr.heap[g1]? = some (.cells #[.int .u64 (kn : Int), tc0] 27 (0, 0))) := hvn1
          have HVN2 : Hid (wr.heap[g2]? = some (.cells #[.int .u64 (nd : Int), tc1] 27 (0, 0))) := hvn2
          have HG9 := Lib.hid hG9
          clear hG9 hvn1 hvn2
          generalize us 101 = v101
          generalize us 102 = v102
          have HT1 := Lib.hid (tl_gro2 Tt1_36.out HG9.out Kx1_30.out Kx2_31.out (by decide) (by decide))
          have HT2 := Lib.hid (tl_gro2 Tt2_37.out HG9.out Kx1_30.out Kx2_31.out (by decide) (by decide))
          have HBF := Lib.hid (B_38.out.trans (HG9.out.below HGE.out B_38.out.size))
          clear Kx1_30 Kx2_31 Ko_32 Kn1_33 Kn2_29 Ts1_34 Ts2_35 Tt1_36 Tt2_37 B_38
          rename World => wf
          obtain ⟨p, hp⟩ : ∃ p, T1.length = p := ⟨_, rfl⟩
          have HPL := Lib.hid hp
          obtain ⟨A1, c1, ht1, hr1, -, hl1, hc1⟩ := HT1.out
          obtain ⟨A2, c2, ht2, hr2, -, hl2, hc2⟩ := HT2.out
          rw [sh_len] at ht2 hl2
          rw [hp] at ht1 hl1 ht2 hl2
          subst ht1 ht2
          have HR1 := Lib.hid hr1.rd
          have HR2 := Lib.hid hr2.rd
          have hc1b : c1 ≤ 9223372036854775807 := by unfold maxLen at hc1; omega
          have hc2b : c2 ≤ 9223372036854775807 := by unfold maxLen at hc2; omega
          clear hp hr1 hr2 hc1 hc2
          obtain ⟨cx10, cx11⟩ := two_cells HVN1.out
          obtain ⟨cx20, cx21⟩ := two_cells HVN2.out
          have hsum : (kn : Int) + (d : Int) = (nd : Int) := by have := HND.out; omega
          go_wp2
          clear cx10 cx11 cx20 cx21
          go_loopw [146] (fun t146 wr => ∃ j : Nat, j ≤ p ∧ t146 = .int .i64 (j : Int) ∧ Hid (Below wf.heap.size wf wr)) (fun t146 _ => p - (intOf t146).toNat)
          case atStart => exact ⟨0, Nat.zero_le _, rfl, Lib.hid (Below.refl _ _)⟩
          case round =>
            obtain ⟨j, hj, rfl, HBI⟩ := hrel
            by_cases hlt2 : j < p
            · obtain ⟨y, hy⟩ : ∃ y, T1[j]? = some y := ⟨_, List.getElem?_eq_getElem (by rw [HPL.out]; exact hlt2)⟩
              have hye := (low_sh HLN.out (n := kn) (d := d) (by omega)) _ (List.mem_of_getElem? (sh_at (d := d) hy))
              obtain ⟨yd, rfl, hKY⟩ := el_all tmE (Rs.below HR1.out HBI.out (Nat.le_refl _)) (by omega) hy
              have HKY : Hid (∀ (q : Nat) v, (#[.int .i64 y.id, .int .u64 (y.due : Int)] : Array Value)[q]? = some v → wr.cell? ((yd.add (j * 2)).add q) = some v) := hKY wr (Below.refl _ _)
              obtain ⟨zd, rfl, hKZ⟩ := el_all tmE (Rs.below HR2.out HBI.out (Nat.le_refl _)) (by omega) (sh_at (d := d) hy)
              obtain ⟨ye, hye2⟩ : ∃ ye, y.due + d = ye := ⟨_, rfl⟩
              have HKZ : Hid (∀ w', Below wr.heap.size wr w' → ∀ (q : Nat) v, (#[.int .i64 y.id, .int .u64 (ye : Int)] : Array Value)[q]? = some v → w'.cell? ((zd.add (j * 2)).add q) = some v) := by rw [← hye2]; exact hKZ
              have hyb : ye < 18446744073709551616 := by have := hye.2; simp only at this; omega
              have hysum : (y.due : Int) + (d : Int) = (ye : Int) := by omega
              clear hy hKY hKZ hye
              obtain ⟨wy, hwy⟩ : ∃ wy, wr.alloc (.cells #[.int .i64 y.id, .int .u64 (y.due : Int)] 53) = wy := ⟨_, rfl⟩
              have HY5 : Hid (wy.heap[wr.heap.size]? = some (.cells #[.int .i64 y.id, .int .u64 (y.due : Int)] 53 (0, 0))) := by rw [← hwy]; exact heap_alloc_new wr _
              have HX5 : Hid (wy.heap[g2]? = some (.cells #[.int .u64 (nd : Int), .slice (some zd) p c2] 27 (0, 0))) := by rw [← hwy]; exact old_alloc (old_below HVN2.out HBI.out (row_lt HVN2.out)) _
              have HBY : Hid (Below wr.heap.size wr wy) := by rw [← hwy]; exact (Below.refl _ _).alloc (Nat.le_refl _) _
              have HB5 : Hid (Below wf.heap.size wf wy) := by rw [← hwy]; exact HBI.out.alloc HBI.out.size _
              have HWY := Lib.hid hwy
              clear hwy
              go_upto_region 38 with (first | (refine wpList_load_atA rfl 53 _ rfl (yd.add (j * 2)) rfl #[.int .i64 y.id, .int .u64 (y.due : Int)] _ HKY.out Try.underlying53 rfl (by kernel_rfl) ?_) | (refine wpList_store_new rfl 53 _ _ rfl wr #[.int .i64 0, .int .u64 0] #[.int .i64 y.id, .int .u64 (y.due : Int)] rfl rfl (by kernel_rfl) rfl (by simp [Value.oneCell']) ?_) | go_in)
              rw [HWY.out]
              clear HWY HKY
              generalize wr.heap.size = gy at HY5 ⊢
              have KZ0 : Hid (∀ w', Reg wy w' → w'.cell? ((zd.add (j * 2)).add 0) = some (.int .i64 y.id)) := fun w' hr => HKZ.out w' (HBY.out.trans ((reg_below hr).mono HBY.out.size)) 0 _ rfl
              have KZ1 : Hid (∀ w', Reg wy w' → w'.cell? ((zd.add (j * 2)).add 1) = some (.int .u64 (ye : Int))) := fun w' hr => HKZ.out w' (HBY.out.trans ((reg_below hr).mono HBY.out.size)) 1 _ rfl
              have KY0 : Hid (∀ w', Reg wy w' → w'.cell? ⟨gy, 0, none⟩ = some (.int .i64 y.id)) := fun w' hr => (two_cells (old_below HY5.out (reg_below hr) (row_lt HY5.out))).1
              have KY1 : Hid (∀ w', Reg wy w' → w'.cell? ⟨gy, 1, none⟩ = some (.int .u64 (y.due : Int))) := fun w' hr => (two_cells (old_below HY5.out (reg_below hr) (row_lt HY5.out))).2
              have KX1 : Hid (∀ w', Reg wy w' → w'.cell? ⟨g2, 1, none⟩ = some (.slice (some zd) p c2)) := fun w' hr => (two_cells (old_below HX5.out (reg_below hr) (row_lt HX5.out))).2
              refine wp_region_quiet_below (by kernel_rfl) (by kernel_rfl) ?_
              (first | go_big_quiet_step (fail) | quiet_step (fail))
              (refine wpQuiet_step (fun K hK => ?_); refine quiet_load_cell (by kernel_rfl) 25 _ rfl ⟨g2, 1, none⟩ (by first | rfl | (simp [Act.eval, Addr.add_mid])) (.slice (some zd) p c2) _ KX1.out Try.underlying25 rfl ?_; refine hK _ ?_; clear hK K; go_frame)
              (first | go_big_quiet_step (fail) | quiet_step (fail))
              (first | go_big_quiet_step (fail) | quiet_step (fail))
              (first | go_big_quiet_step (fail) | quiet_step (fail))
              (refine wpQuiet_step (fun K hK => ?_); refine quiet_load_cell (by kernel_rfl) 3 _ rfl ((zd.add (j * 2)).add 0) (by first | rfl | (simp [Act.eval, Addr.add_mid])) (.int .i64 y.id) _ KZ0.out Try.underlying3 rfl ?_; refine hK _ ?_; clear hK K; go_frame)
              (first | go_big_quiet_step (fail) | quiet_step (fail))
              (refine wpQuiet_step (fun K hK => ?_); refine quiet_load_cell (by kernel_rfl) 3 _ rfl ⟨gy, 0, none⟩ (by first | rfl | (simp [Act.eval, Addr.add_mid])) (.int .i64 y.id) _ KY0.out Try.underlying3 rfl ?_; refine hK _ ?_; clear hK K; go_frame)
              (first | go_big_quiet_step (fail) | quiet_step (fail))
              (first | go_big_quiet_step (fail) | quiet_step (fail))
              (first | go_big_quiet_step (fail) | quiet_step (fail))
              (refine wpQuiet_step (fun K hK => ?_); refine quiet_load_cell (by kernel_rfl) 25 _ rfl ⟨g2, 1, none⟩ (by first | rfl | (simp [Act.eval, Addr.add_mid])) (.slice (some zd) p c2) _ KX1.out Try.underlying25 rfl ?_; refine hK _ ?_; clear hK K; go_frame)
              (first | go_big_quiet_step (fail) | quiet_step (fail))
              (first | go_big_quiet_step (fail) | quiet_step (fail))
              (first | go_big_quiet_step (fail) | quiet_step (fail))
              (refine wpQuiet_step (fun K hK => ?_); refine quiet_load_cell (by kernel_rfl) 22 _ rfl ((zd.add (j * 2)).add 1) (by first | rfl | (simp [Act.eval, Addr.add_mid])) (.int .u64 (ye : Int)) _ KZ1.out Try.underlying22 rfl ?_; refine hK _ ?_; clear hK K; go_frame)
              (first | go_big_quiet_step (fail) | quiet_step (fail))
              (refine wpQuiet_step (fun K hK => ?_); refine quiet_load_cell (by kernel_rfl) 22 _ rfl ⟨gy, 1, none⟩ (by first | rfl | (simp [Act.eval, Addr.add_mid])) (.int .u64 (y.due : Int)) _ KY1.out Try.underlying22 rfl ?_; refine hK _ ?_; clear hK K; go_frame)
              (first | go_big_quiet_step (fail) | quiet_step (fail))
              (first | go_big_quiet_step (fail) | quiet_step (fail))
              (first | go_big_quiet_step (fail) | quiet_step (fail))
              (first | go_big_quiet_step (fail) | quiet_step (fail))
              refine wpQuiet_nil ?_
              intro w9 hw9
              obtain ⟨⟨dq, osq⟩, rfl⟩ := hw9
              have HB9 := Lib.hid ((HB5.out).trans ((below_regrown wy dq osq).mono (HB5.out).size))
              generalize Sort.grow (redrawn wy dq) osq = w9b at *
              go_wp2
              go_roundw
              case rel => exact ⟨j + 1, by omega, by go_num, HB9⟩
              case measure => simp [intOf]; omega
            · obtain rfl : j = p := by omega
              have Kx1_1 := Lib.hid (old_below HVN1.out HBI.out (row_lt HVN1.out))
              have Kx2_2 := Lib.hid (old_below HVN2.out HBI.out (row_lt HVN2.out))
              have Tt1_3 := Lib.hid (HT1.out.below HBI.out)
              have Tt2_4 := Lib.hid (HT2.out.below HBI.out)
              have B_5 := Lib.hid (HBF.out.trans ((HBI.out).mono HBF.out.size))
              clear HVN1 HVN2 HT1 HT2 HBF
              go_wp2
              go_roundw
              case rel => exact ⟨i + 1, kn, nd, T1, _, _, by omega, by go_num, by omega, by have := HND.out; omega, Kx1_1, Kx2_2, Tt1_3, Tt2_4, HRN, HLN, B_5⟩
              case measure => simp [intOf]; omega
      · as_aux_lemma =>
          obtain ⟨co0, co1, co2⟩ := three_cells Ko_1.out
          go_upto_region 22 with (fail)
          clear co0 co1 co2
          obtain ⟨⟨T1, z1⟩, hres⟩ : ∃ p, setC kn T id af = p := ⟨_, rfl⟩
          have hres2 : setC nd (shT d T) id af = (shT d T1, z1) := by rw [HND.out, sh_set, hres]
          have HRN : Hid (rightW kn T1 = true) := by
            have := right_set (id := id) (after := af) HR.out
            rw [hres] at this
            exact this
          have HLN : Hid (lowT kn T1) := by
            have := low_set (after := af) HLO.out HID.out
            rw [hres] at this
            exact this
          have HCA : Hid (∀ w v, WhT w v kn T → Calls Try.prog 9 #[v, .int .i64 id, .int .u64 (af : Int)] w fun e w' => ∃ v', e = .returned (.tuple #[v', .int .i64 z1]) ∧ WhT w' v' kn T1 ∧ Below w.heap.size w w') := fun w v hv => by
            have := set_any v kn T id af w hv.whs HR.out HOA.out HID.out haf
            rw [hres] at this
            exact this
          have HCB : Hid (∀ w v, WhT w v nd (shT d T) → Calls Try.prog 9 #[v, .int .i64 id, .int .u64 (af : Int)] w fun e w' => ∃ v', e = .returned (.tuple #[v', .int .i64 z1]) ∧ WhT w' v' nd (shT d T1) ∧ Below w.heap.size w w') := fun w v hv => by
            have := set_any v nd (shT d T) id af w hv.whs HRD.out HOB.out HID.out haf
            rw [hres2] at this
            exact this
          clear hres hres2
          obtain ⟨co0, co1, co2⟩ := three_cells Ko_1.out
          go_wp2_with (refine wpList_load_row rfl 27 _ rfl g1 rfl 27 #[.int .u64 (kn : Int), s1] (0, 0) _ Kx1_2.out Try.underlying27 rfl (by kernel_rfl) ?_)
          refine (HCA.out _ _ ⟨_, rfl, Ts1_4.out⟩).mono ?_
          rintro e wc0 ⟨vc0, rfl, hv, hb⟩
          obtain ⟨tc0, rfl, ho, ht⟩ := hv.form
          have HOC0 := Lib.hid ho
          have TC0 := Lib.hid ht
          clear co0 co1 co2
          have Kx1_7 := Lib.hid (old_below Kx1_2.out hb (row_lt Kx1_2.out))
          have Kx2_8 := Lib.hid (old_below Kx2_3.out hb (row_lt Kx2_3.out))
          have Ko_9 := Lib.hid (old_below Ko_1.out hb (row_lt Ko_1.out))
          have Ts1_10 := Lib.hid (Ts1_4.out.below hb)
          have Ts2_11 := Lib.hid (Ts2_5.out.below hb)
          have B_12 := Lib.hid (B_6.out.trans ((hb).mono B_6.out.size))
          clear Kx1_2 Kx2_3 Ko_1 Ts1_4 Ts2_5 B_6
          clear hv ho ht hb
          go_upto_region 23 with (first | (refine wpList_store_new rfl 27 _ _ rfl wc0 #[.int .u64 0, .slice none 0 0] #[.int .u64 (kn : Int), tc0] rfl rfl (by kernel_rfl) rfl (wh_one HOC0.out) ?_) | go_in)
          have NE_x1_n1 : Hid (g1 ≠ wc0.heap.size) := by have := row_lt Kx1_7.out; show _ ≠ _; omega
          have NE_x2_n1 : Hid (g2 ≠ wc0.heap.size) := by have := row_lt Kx2_8.out; show _ ≠ _; omega
          have NE_o_n1 : Hid (go ≠ wc0.heap.size) := by have := row_lt Ko_9.out; show _ ≠ _; omega
          have GE_n1 := Lib.hid B_12.out.size
          have Kn1_13 : Hid ((wc0.alloc (.cells #[.int .u64 (kn : Int), tc0] 27)).heap[wc0.heap.size]? = some (.cells #[.int .u64 (kn : Int), tc0] 27 (0, 0))) := heap_alloc_new wc0 _
          have Kx1_14 : Hid ((wc0.alloc (.cells #[.int .u64 (kn : Int), tc0] 27)).heap[g1]? = some (.cells #[.int .u64 (kn : Int), s1] 27 (0, 0))) := old_alloc Kx1_7.out _
          have Kx2_15 : Hid ((wc0.alloc (.cells #[.int .u64 (kn : Int), tc0] 27)).heap[g2]? = some (.cells #[.int .u64 (nd : Int), s2] 27 (0, 0))) := old_alloc Kx2_8.out _
          have Ko_16 : Hid ((wc0.alloc (.cells #[.int .u64 (kn : Int), tc0] 27)).heap[go]? = some (.cells #[.int .i64 kd, .int .i64 id, .int .u64 (af : Int)] 31 (0, 0))) := old_alloc Ko_9.out _
          have Ts1_17 : Hid (TsT (wc0.alloc (.cells #[.int .u64 (kn : Int), tc0] 27)) s1 T) := Ts1_10.out.alloc _
          have Ts2_18 : Hid (TsT (wc0.alloc (.cells #[.int .u64 (kn : Int), tc0] 27)) s2 (shT d T)) := Ts2_11.out.alloc _
          have Tt1_19 : Hid (TsT (wc0.alloc (.cells #[.int .u64 (kn : Int), tc0] 27)) tc0 T1) := TC0.out.alloc _
          have B_20 := Lib.hid (B_12.out.alloc B_12.out.size (.cells #[.int .u64 (kn : Int), tc0] 27))
          generalize (wc0.alloc (.cells #[.int .u64 (kn : Int), tc0] 27)) = wd0 at Kn1_13 Kx1_14 Kx2_15 Ko_16 Ts1_17 Ts2_18 Tt1_19 B_20 ⊢
          generalize wc0.heap.size = gn0 at Kn1_13 NE_x1_n1 NE_x2_n1 NE_o_n1 GE_n1 ⊢
          clear Kx1_7 Kx2_8 Ko_9 Ts1_10 Ts2_11 TC0 B_12
          obtain ⟨co0, co1, co2⟩ := three_cells Ko_16.out
          go_wp2_with (refine wpList_load_row rfl 27 _ rfl g2 rfl 27 #[.int .u64 (nd : Int), s2] (0, 0) _ Kx2_15.out Try.underlying27 rfl (by kernel_rfl) ?_)
          refine (HCB.out _ _ ⟨_, rfl, Ts2_18.out⟩).mono ?_
          rintro e wc1 ⟨vc1, rfl, hv, hb⟩
          obtain ⟨tc1, rfl, ho, ht⟩ := hv.form
          have HOC1 := Lib.hid ho
          have TC1 := Lib.hid ht
          clear co0 co1 co2
          have Kx1_21 := Lib.hid (old_below Kx1_14.out hb (row_lt Kx1_14.out))
          have Kx2_22 := Lib.hid (old_below Kx2_15.out hb (row_lt Kx2_15.out))
          have Ko_23 := Lib.hid (old_below Ko_16.out hb (row_lt Ko_16.out))
          have Kn1_24 := Lib.hid (old_below Kn1_13.out hb (row_lt Kn1_13.out))
          have Ts1_25 := Lib.hid (Ts1_17.out.below hb)
          have Ts2_26 := Lib.hid (Ts2_18.out.below hb)
          have Tt1_27 := Lib.hid (Tt1_19.out.below hb)
          have B_28 := Lib.hid (B_20.out.trans ((hb).mono B_20.out.size))
          clear Kx1_14 Kx2_15 Ko_16 Kn1_13 Ts1_17 Ts2_18 Tt1_19 B_20
          clear hv ho ht hb
          go_upto_region 24 with (first | (refine wpList_store_new rfl 27 _ _ rfl wc1 #[.int .u64 0, .slice none 0 0] #[.int .u64 (nd : Int), tc1] rfl rfl (by kernel_rfl) rfl (wh_one HOC1.out) ?_) | go_in)
          have NE_x1_n2 : Hid (g1 ≠ wc1.heap.size) := by have := row_lt Kx1_21.out; show _ ≠ _; omega
          have NE_x2_n2 : Hid (g2 ≠ wc1.heap.size) := by have := row_lt Kx2_22.out; show _ ≠ _; omega
          have NE_o_n2 : Hid (go ≠ wc1.heap.size) := by have := row_lt Ko_23.out; show _ ≠ _; omega
          have NE_n1_n2 : Hid (gn0 ≠ wc1.heap.size) := by have := row_lt Kn1_24.out; show _ ≠ _; omega
          have GE_n2 := Lib.hid B_28.out.size
          have Kn2_29 : Hid ((wc1.alloc (.cells #[.int .u64 (nd : Int), tc1] 27)).heap[wc1.heap.size]? = some (.cells #[.int .u64 (nd : Int), tc1] 27 (0, 0))) := heap_alloc_new wc1 _
          have Kx1_30 : Hid ((wc1.alloc (.cells #[.int .u64 (nd : Int), tc1] 27)).heap[g1]? = some (.cells #[.int .u64 (kn : Int), s1] 27 (0, 0))) := old_alloc Kx1_21.out _
          have Kx2_31 : Hid ((wc1.alloc (.cells #[.int .u64 (nd : Int), tc1] 27)).heap[g2]? = some (.cells #[.int .u64 (nd : Int), s2] 27 (0, 0))) := old_alloc Kx2_22.out _
          have Ko_32 : Hid ((wc1.alloc (.cells #[.int .u64 (nd : Int), tc1] 27)).heap[go]? = some (.cells #[.int .i64 kd, .int .i64 id, .int .u64 (af : Int)] 31 (0, 0))) := old_alloc Ko_23.out _
          have Kn1_33 : Hid ((wc1.alloc (.cells #[.int .u64 (nd : Int), tc1] 27)).heap[gn0]? = some (.cells #[.int .u64 (kn : Int), tc0] 27 (0, 0))) := old_alloc Kn1_24.out _
          have Ts1_34 : Hid (TsT (wc1.alloc (.cells #[.int .u64 (nd : Int), tc1] 27)) s1 T) := Ts1_25.out.alloc _
          have Ts2_35 : Hid (TsT (wc1.alloc (.cells #[.int .u64 (nd : Int), tc1] 27)) s2 (shT d T)) := Ts2_26.out.alloc _
          have Tt1_36 : Hid (TsT (wc1.alloc (.cells #[.int .u64 (nd : Int), tc1] 27)) tc0 T1) := Tt1_27.out.alloc _
          have Tt2_37 : Hid (TsT (wc1.alloc (.cells #[.int .u64 (nd : Int), tc1] 27)) tc1 (shT d T1)) := TC1.out.alloc _
          have B_38 := Lib.hid (B_28.out.alloc B_28.out.size (.cells #[.int .u64 (nd : Int), tc1] 27))
          generalize (wc1.alloc (.cells #[.int .u64 (nd : Int), tc1] 27)) = wd1 at Kn2_29 Kx1_30 Kx2_31 Ko_32 Kn1_33 Ts1_34 Ts2_35 Tt1_36 Tt2_37 B_38 ⊢
          generalize wc1.heap.size = gn1 at Kn2_29 NE_x1_n2 NE_x2_n2 NE_o_n2 NE_n1_n2 GE_n2 ⊢
          clear Kx1_21 Kx2_22 Ko_23 Kn1_24 Ts1_25 Ts2_26 Tt1_27 TC1 B_28
          apply wp_region_relyG [2, 3] (OldT wd1 2 g1 27 #[.int .u64 (kn : Int), s1] #[.int .u64 (kn : Int), tc0] 3 g2 27 #[.int .u64 (nd : Int), s2] #[.int .u64 (nd : Int), tc1]) (RL [Is (.agg #[.int .u64 (kn : Int), tc0]), Is (.agg #[.int .u64 (nd : Int), tc1]), Any, Any]) [false, false, false, false, false, false, false, false, false, false, false, false, false, false, false, false, false, false, false, false, false, false, false, false, false, false, false, false, false, false, false, false, false, false, false, false, false, false, false, false, false, false, false, false, false, false, false, false, false, false, false, false, false, false, false, false, false, false, false, false, false, false, false, false, false, false, false, false, false, false, false, false, false, false, false, false, false, false, false, false, false, false, false, false, false, false, false, false, false, false, false, false, false, false, false, false, false, false, false, false, false, true, true, false, false, false, false, false, false, false, false, false, false, false, false, false, false, false, false, false, false, false, false, false, false, false, false, false, false, false, false, false, false, false, false, false, false, false, false, false, false, false, false, false, false, false, false, false, false, false, false, false, false, false, false, false, false, false, false, false, false, false, false, false, false, false, false, false, false, false, false, false, false, false, false]
          · kernel_rfl
          · kernel_rfl
          · kernel_rfl
          · refine ⟨?_, ?_, ?_, ?_, trivial⟩
            · intro L ev w' hC hL hx K hK
              have e10 : ev (.tmp 10) = _ := hx.base 10 (by kernel_rfl)
              have HK := Lib.hid hK
              have HC := Lib.hid hC
              have HL := Lib.hid hL
              have HX := Lib.hid hx
              have hc := hx.cst
              skip
              clear hx hK hC hL
              have q1 : ev (.tmp 10) = .pointer (some ⟨gn0, 0, none⟩) := e10
              have hld := run_loadVar_row (P := Try.prog) w' gn0 27 27 #[.int .u64 (kn : Int), tc0] (0, 0) _ (HC.out.keep Kn1_33.out (Ne.symm NE_x1_n1.out) (Ne.symm NE_x2_n1.out)) Try.underlying27 rfl (by kernel_rfl)
              unfold Run
              rw [rely_load 27 _ rfl q1 hld]
              exact HK.out _ _ (.inl ⟨Below.refl _ _, by decide⟩) rfl
            · intro L ev w' hC hL hx K hK
              have e12 : ev (.tmp 12) = _ := hx.base 12 (by kernel_rfl)
              have HK := Lib.hid hK
              have HC := Lib.hid hC
              have HL := Lib.hid hL
              have HX := Lib.hid hx
              have hc := hx.cst
              skip
              clear hx hK hC hL
              have q1 : ev (.tmp 12) = .pointer (some ⟨gn1, 0, none⟩) := e12
              have hld := run_loadVar_row (P := Try.prog) w' gn1 27 27 #[.int .u64 (nd : Int), tc1] (0, 0) _ (HC.out.keep Kn2_29.out (Ne.symm NE_x1_n2.out) (Ne.symm NE_x2_n2.out)) Try.underlying27 rfl (by kernel_rfl)
              unfold Run
              rw [rely_load 27 _ rfl q1 hld]
              exact HK.out _ _ (.inl ⟨Below.refl _ _, by decide⟩) rfl
            · intro L ev w' hC hL hx K hK
              have e6 : ev (.tmp 6) = _ := hx.base 6 (by kernel_rfl)
              have e101 := hx.held 0 _ rfl (by kernel_rfl)
              change ev (.tmp 101) = _ at e101
              have HK := Lib.hid hK
              have HC := Lib.hid hC
              have HL := Lib.hid hL
              have HX := Lib.hid hx
              have hc := hx.cst
              skip
              clear hx hK hC hL
              have qv : ev (.tmp 101) = .agg #[.int .u64 (kn : Int), tc0] := e101
              have nst : L 2 = false := HL.out
              have qp : ev (.tmp 6) = .pointer (some ⟨g1, 0, none⟩) := e6
              have hgh := HC.out.old1 nst
              have hnv := HC.out.store1 nst rfl NE_x1_x2.out (by decide)
              have hst := run_storeVar_row (P := Try.prog) w' g1 27 27 #[.int .u64 (kn : Int), s1] #[.int .u64 (kn : Int), tc0] hgh (by kernel_rfl) rfl (wh_one HOC0.out)
              unfold Run
              rw [rely_store 27 _ _ rfl qp qv hst]
              refine HK.out _ _ (.inr ⟨hnv, fun j hj hlj u hr => ?_⟩) trivial
              rcases j with _ | _ | _ | _ | j
              · exact hr
              · exact hr
              · exact absurd rfl hj
              · exact trivial
              · exact trivial
            · intro L ev w' hC hL hx K hK
              have e7 : ev (.tmp 7) = _ := hx.base 7 (by kernel_rfl)
              have e102 := hx.held 1 _ rfl (by kernel_rfl)
              change ev (.tmp 102) = _ at e102
              have HK := Lib.hid hK
              have HC := Lib.hid hC
              have HL := Lib.hid hL
              have HX := Lib.hid hx
              have hc := hx.cst
              skip
              clear hx hK hC hL
              have qv : ev (.tmp 102) = .agg #[.int .u64 (nd : Int), tc1] := e102
              have nst : L 3 = false := HL.out
              have qp : ev (.tmp 7) = .pointer (some ⟨g2, 0, none⟩) := e7
              have hgh := HC.out.old2 nst
              have hnv := HC.out.store2 nst rfl NE_x1_x2.out (by decide)
              have hst := run_storeVar_row (P := Try.prog) w' g2 27 27 #[.int .u64 (nd : Int), s2] #[.int .u64 (nd : Int), tc1] hgh (by kernel_rfl) rfl (wh_one HOC1.out)
              unfold Run
              rw [rely_store 27 _ _ rfl qp qv hst]
              refine HK.out _ _ (.inr ⟨hnv, fun j hj hlj u hr => ?_⟩) trivial
              rcases j with _ | _ | _ | _ | j
              · exact hr
              · exact hr
              · exact trivial
              · exact absurd rfl hj
              · exact trivial
          · exact rl_mono ⟨is_mono _, is_mono _, any_mono, any_mono, trivial⟩
          · exact fun L L' w' h1 hg => hg.agree (h1 2 (by simp)) (h1 3 (by simp))
          · exact fun L w' w'' hb hg => hg.below hb
          · exact OldT.start Kx1_30.out Kx2_31.out
          · simp
          intro us wr hG hH
          obtain ⟨-, -, -, -, -⟩ := hH
          simp only [fillM]
          obtain ⟨hG9, hvn1, hvn2⟩ := hG
          have HVN1 : Hid (wr.heap[g1]? = some (.cells #[.int .u64 (kn : Int), tc0] 27 (0, 0))) := hvn1
          have HVN2 : Hid (wr.heap[g2]? = some (.cells #[.int .u64 (nd : Int), tc1] 27 (0, 0))) := hvn2
          have HG9 := Lib.hid hG9
          clear hG9 hvn1 hvn2
          generalize us 101 = v101
          generalize us 102 = v102
          have HT1 := Lib.hid (tl_gro2 Tt1_36.out HG9.out Kx1_30.out Kx2_31.out (by decide) (by decide))
          have HT2 := Lib.hid (tl_gro2 Tt2_37.out HG9.out Kx1_30.out Kx2_31.out (by decide) (by decide))
          have HBF := Lib.hid (B_38.out.trans (HG9.out.below HGE.out B_38.out.size))
          clear Kx1_30 Kx2_31 Ko_32 Kn1_33 Kn2_29 Ts1_34 Ts2_35 Tt1_36 Tt2_37 B_38
          rename World => wf
          obtain ⟨p, hp⟩ : ∃ p, T1.length = p := ⟨_, rfl⟩
          have HPL := Lib.hid hp
          obtain ⟨A1, c1, ht1, hr1, -, hl1, hc1⟩ := HT1.out
          obtain ⟨A2, c2, ht2, hr2, -, hl2, hc2⟩ := HT2.out
          rw [sh_len] at ht2 hl2
          rw [hp] at ht1 hl1 ht2 hl2
          subst ht1 ht2
          have HR1 := Lib.hid hr1.rd
          have HR2 := Lib.hid hr2.rd
          have hc1b : c1 ≤ 9223372036854775807 := by unfold maxLen at hc1; omega
          have hc2b : c2 ≤ 9223372036854775807 := by unfold maxLen at hc2; omega
          clear hp hr1 hr2 hc1 hc2
          obtain ⟨cx10, cx11⟩ := two_cells HVN1.out
          obtain ⟨cx20, cx21⟩ := two_cells HVN2.out
          have hsum : (kn : Int) + (d : Int) = (nd : Int) := by have := HND.out; omega
          go_wp2
          clear cx10 cx11 cx20 cx21
          go_loopw [146] (fun t146 wr => ∃ j : Nat, j ≤ p ∧ t146 = .int .i64 (j : Int) ∧ Hid (Below wf.heap.size wf wr)) (fun t146 _ => p - (intOf t146).toNat)
          case atStart => exact ⟨0, Nat.zero_le _, rfl, Lib.hid (Below.refl _ _)⟩
          case round =>
            obtain ⟨j, hj, rfl, HBI⟩ := hrel
            by_cases hlt2 : j < p
            · obtain ⟨y, hy⟩ : ∃ y, T1[j]? = some y := ⟨_, List.getElem?_eq_getElem (by rw [HPL.out]; exact hlt2)⟩
              have hye := (low_sh HLN.out (n := kn) (d := d) (by omega)) _ (List.mem_of_getElem? (sh_at (d := d) hy))
              obtain ⟨yd, rfl, hKY⟩ := el_all tmE (Rs.below HR1.out HBI.out (Nat.le_refl _)) (by omega) hy
              have HKY : Hid (∀ (q : Nat) v, (#[.int .i64 y.id, .int .u64 (y.due : Int)] : Array Value)[q]? = some v → wr.cell? ((yd.add (j * 2)).add q) = some v) := hKY wr (Below.refl _ _)
              obtain ⟨zd, rfl, hKZ⟩ := el_all tmE (Rs.below HR2.out HBI.out (Nat.le_refl _)) (by omega) (sh_at (d := d) hy)
              obtain ⟨ye, hye2⟩ : ∃ ye, y.due + d = ye := ⟨_, rfl⟩
              have HKZ : Hid (∀ w', Below wr.heap.size wr w' → ∀ (q : Nat) v, (#[.int .i64 y.id, .int .u64 (ye : Int)] : Array Value)[q]? = some v → w'.cell? ((zd.add (j * 2)).add q) = some v) := by rw [← hye2]; exact hKZ
              have hyb : ye < 18446744073709551616 := by have := hye.2; simp only at this; omega
              have hysum : (y.due : Int) + (d : Int) = (ye : Int) := by omega
              clear hy hKY hKZ hye
              obtain ⟨wy, hwy⟩ : ∃ wy, wr.alloc (.cells #[.int .i64 y.id, .int .u64 (y.due : Int)] 53) = wy := ⟨_, rfl⟩
              have HY5 : Hid (wy.heap[wr.heap.size]? = some (.cells #[.int .i64 y.id, .int .u64 (y.due : Int)] 53 (0, 0))) := by rw [← hwy]; exact heap_alloc_new wr _
              have HX5 : Hid (wy.heap[g2]? = some (.cells #[.int .u64 (nd : Int), .slice (some zd) p c2] 27 (0, 0))) := by rw [← hwy]; exact old_alloc (old_below HVN2.out HBI.out (row_lt HVN2.out)) _
              have HBY : Hid (Below wr.heap.size wr wy) := by rw [← hwy]; exact (Below.refl _ _).alloc (Nat.le_refl _) _
              have HB5 : Hid (Below wf.heap.size wf wy) := by rw [← hwy]; exact HBI.out.alloc HBI.out.size _
              have HWY := Lib.hid hwy
              clear hwy
              go_upto_region 38 with (first | (refine wpList_load_atA rfl 53 _ rfl (yd.add (j * 2)) rfl #[.int .i64 y.id, .int .u64 (y.due : Int)] _ HKY.out Try.underlying53 rfl (by kernel_rfl) ?_) | (refine wpList_store_new rfl 53 _ _ rfl wr #[.int .i64 0, .int .u64 0] #[.int .i64 y.id, .int .u64 (y.due : Int)] rfl rfl (by kernel_rfl) rfl (by simp [Value.oneCell']) ?_) | go_in)
              rw [HWY.out]
              clear HWY HKY
              generalize wr.heap.size = gy at HY5 ⊢
              have KZ0 : Hid (∀ w', Reg wy w' → w'.cell? ((zd.add (j * 2)).add 0) = some (.int .i64 y.id)) := fun w' hr => HKZ.out w' (HBY.out.trans ((reg_below hr).mono HBY.out.size)) 0 _ rfl
              have KZ1 : Hid (∀ w', Reg wy w' → w'.cell? ((zd.add (j * 2)).add 1) = some (.int .u64 (ye : Int))) := fun w' hr => HKZ.out w' (HBY.out.trans ((reg_below hr).mono HBY.out.size)) 1 _ rfl
              have KY0 : Hid (∀ w', Reg wy w' → w'.cell? ⟨gy, 0, none⟩ = some (.int .i64 y.id)) := fun w' hr => (two_cells (old_below HY5.out (reg_below hr) (row_lt HY5.out))).1
              have KY1 : Hid (∀ w', Reg wy w' → w'.cell? ⟨gy, 1, none⟩ = some (.int .u64 (y.due : Int))) := fun w' hr => (two_cells (old_below HY5.out (reg_below hr) (row_lt HY5.out))).2
              have KX1 : Hid (∀ w', Reg wy w' → w'.cell? ⟨g2, 1, none⟩ = some (.slice (some zd) p c2)) := fun w' hr => (two_cells (old_below HX5.out (reg_below hr) (row_lt HX5.out))).2
              refine wp_region_quiet_below (by kernel_rfl) (by kernel_rfl) ?_
              (first | go_big_quiet_step (fail) | quiet_step (fail))
              (refine wpQuiet_step (fun K hK => ?_); refine quiet_load_cell (by kernel_rfl) 25 _ rfl ⟨g2, 1, none⟩ (by first | rfl | (simp [Act.eval, Addr.add_mid])) (.slice (some zd) p c2) _ KX1.out Try.underlying25 rfl ?_; refine hK _ ?_; clear hK K; go_frame)
              (first | go_big_quiet_step (fail) | quiet_step (fail))
              (first | go_big_quiet_step (fail) | quiet_step (fail))
              (first | go_big_quiet_step (fail) | quiet_step (fail))
              (refine wpQuiet_step (fun K hK => ?_); refine quiet_load_cell (by kernel_rfl) 3 _ rfl ((zd.add (j * 2)).add 0) (by first | rfl | (simp [Act.eval, Addr.add_mid])) (.int .i64 y.id) _ KZ0.out Try.underlying3 rfl ?_; refine hK _ ?_; clear hK K; go_frame)
              (first | go_big_quiet_step (fail) | quiet_step (fail))
              (refine wpQuiet_step (fun K hK => ?_); refine quiet_load_cell (by kernel_rfl) 3 _ rfl ⟨gy, 0, none⟩ (by first | rfl | (simp [Act.eval, Addr.add_mid])) (.int .i64 y.id) _ KY0.out Try.underlying3 rfl ?_; refine hK _ ?_; clear hK K; go_frame)
              (first | go_big_quiet_step (fail) | quiet_step (fail))
              (first | go_big_quiet_step (fail) | quiet_step (fail))
              (first | go_big_quiet_step (fail) | quiet_step (fail))
              (refine wpQuiet_step (fun K hK => ?_); refine quiet_load_cell (by kernel_rfl) 25 _ rfl ⟨g2, 1, none⟩ (by first | rfl | (simp [Act.eval, Addr.add_mid])) (.slice (some zd) p c2) _ KX1.out Try.underlying25 rfl ?_; refine hK _ ?_; clear hK K; go_frame)
              (first | go_big_quiet_step (fail) | quiet_step (fail))
              (first | go_big_quiet_step (fail) | quiet_step (fail))
              (first | go_big_quiet_step (fail) | quiet_step (fail))
              (refine wpQuiet_step (fun K hK => ?_); refine quiet_load_cell (by kernel_rfl) 22 _ rfl ((zd.add (j * 2)).add 1) (by first | rfl | (simp [Act.eval, Addr.add_mid])) (.int .u64 (ye : Int)) _ KZ1.out Try.underlying22 rfl ?_; refine hK _ ?_; clear hK K; go_frame)
              (first | go_big_quiet_step (fail) | quiet_step (fail))
              (refine wpQuiet_step (fun K hK => ?_); refine quiet_load_cell (by kernel_rfl) 22 _ rfl ⟨gy, 1, none⟩ (by first | rfl | (simp [Act.eval, Addr.add_mid])) (.int .u64 (y.due : Int)) _ KY1.out Try.underlying22 rfl ?_; refine hK _ ?_; clear hK K; go_frame)
              (first | go_big_quiet_step (fail) | quiet_step (fail))
              (first | go_big_quiet_step (fail) | quiet_step (fail))
              (first | go_big_quiet_step (fail) | quiet_step (fail))
              (first | go_big_quiet_step (fail) | quiet_step (fail))
              refine wpQuiet_nil ?_
              intro w9 hw9
              obtain ⟨⟨dq, osq⟩, rfl⟩ := hw9
              have HB9 := Lib.hid ((HB5.out).trans ((below_regrown wy dq osq).mono (HB5.out).size))
              generalize Sort.grow (redrawn wy dq) osq = w9b at *
              go_wp2
              go_roundw
              case rel => exact ⟨j + 1, by omega, by go_num, HB9⟩
              case measure => simp [intOf]; omega
            · obtain rfl : j = p := by omega
              have Kx1_1 := Lib.hid (old_below HVN1.out HBI.out (row_lt HVN1.out))
              have Kx2_2 := Lib.hid (old_below HVN2.out HBI.out (row_lt HVN2.out))
              have Tt1_3 := Lib.hid (HT1.out.below HBI.out)
              have Tt2_4 := Lib.hid (HT2.out.below HBI.out)
              have B_5 := Lib.hid (HBF.out.trans ((HBI.out).mono HBF.out.size))
              clear HVN1 HVN2 HT1 HT2 HBF
              go_wp2
              go_roundw
              case rel => exact ⟨i + 1, kn, nd, T1, _, _, by omega, by go_num, by omega, by have := HND.out; omega, Kx1_1, Kx2_2, Tt1_3, Tt2_4, HRN, HLN, B_5⟩
              case measure => simp [intOf]; omega
      · as_aux_lemma =>
          obtain ⟨co0, co1, co2⟩ := three_cells Ko_1.out
          go_upto_region 28 with (fail)
          clear co0 co1 co2
          have HRN : Hid (rightW kn (T.filter (notI id)) = true) := right_stop HR.out
          have HLN : Hid (lowT kn (T.filter (notI id))) := low_filter HLO.out
          have HCA : Hid (∀ w v, WhT w v kn T → Calls Try.prog 11 #[v, .int .i64 id] w fun e w' => ∃ v', e = .returned (.tuple #[v', .bool (someD T id)]) ∧ WhT w' v' kn (T.filter (notI id)) ∧ Below w.heap.size w w') := fun w v hv => stop_any v kn T id w hv.whs HR.out HOA.out HID.out
          have HCB : Hid (∀ w v, WhT w v nd (shT d T) → Calls Try.prog 11 #[v, .int .i64 id] w fun e w' => ∃ v', e = .returned (.tuple #[v', .bool (someD T id)]) ∧ WhT w' v' nd (shT d (T.filter (notI id))) ∧ Below w.heap.size w w') := fun w v hv => by
            have := stop_any v nd (shT d T) id w hv.whs HRD.out HOB.out HID.out
            rw [sh_notI, sh_some] at this
            exact this
          obtain ⟨T1, hT1⟩ : ∃ T1, T.filter (notI id) = T1 := ⟨_, rfl⟩
          obtain ⟨z1, hz1⟩ : ∃ z1, someD T id = z1 := ⟨_, rfl⟩
          rw [hT1] at HRN HLN HCA HCB
          rw [hz1] at HCA HCB
          clear hT1 hz1
          obtain ⟨co0, co1, co2⟩ := three_cells Ko_1.out
          go_wp2_with (refine wpList_load_row rfl 27 _ rfl g1 rfl 27 #[.int .u64 (kn : Int), s1] (0, 0) _ Kx1_2.out Try.underlying27 rfl (by kernel_rfl) ?_)
          refine (HCA.out _ _ ⟨_, rfl, Ts1_4.out⟩).mono ?_
          rintro e wc0 ⟨vc0, rfl, hv, hb⟩
          obtain ⟨tc0, rfl, ho, ht⟩ := hv.form
          have HOC0 := Lib.hid ho
          have TC0 := Lib.hid ht
          clear co0 co1 co2
          have Kx1_7 := Lib.hid (old_below Kx1_2.out hb (row_lt Kx1_2.out))
          have Kx2_8 := Lib.hid (old_below Kx2_3.out hb (row_lt Kx2_3.out))
          have Ko_9 := Lib.hid (old_below Ko_1.out hb (row_lt Ko_1.out))
          have Ts1_10 := Lib.hid (Ts1_4.out.below hb)
          have Ts2_11 := Lib.hid (Ts2_5.out.below hb)
          have B_12 := Lib.hid (B_6.out.trans ((hb).mono B_6.out.size))
          clear Kx1_2 Kx2_3 Ko_1 Ts1_4 Ts2_5 B_6
          clear hv ho ht hb
          go_upto_region 29 with (first | (refine wpList_store_new rfl 27 _ _ rfl wc0 #[.int .u64 0, .slice none 0 0] #[.int .u64 (kn : Int), tc0] rfl rfl (by kernel_rfl) rfl (wh_one HOC0.out) ?_) | go_in)
          have NE_x1_n1 : Hid (g1 ≠ wc0.heap.size) := by have := row_lt Kx1_7.out; show _ ≠ _; omega
          have NE_x2_n1 : Hid (g2 ≠ wc0.heap.size) := by have := row_lt Kx2_8.out; show _ ≠ _; omega
          have NE_o_n1 : Hid (go ≠ wc0.heap.size) := by have := row_lt Ko_9.out; show _ ≠ _; omega
          have GE_n1 := Lib.hid B_12.out.size
          have Kn1_13 : Hid ((wc0.alloc (.cells #[.int .u64 (kn : Int), tc0] 27)).heap[wc0.heap.size]? = some (.cells #[.int .u64 (kn : Int), tc0] 27 (0, 0))) := heap_alloc_new wc0 _
          have Kx1_14 : Hid ((wc0.alloc (.cells #[.int .u64 (kn : Int), tc0] 27)).heap[g1]? = some (.cells #[.int .u64 (kn : Int), s1] 27 (0, 0))) := old_alloc Kx1_7.out _
          have Kx2_15 : Hid ((wc0.alloc (.cells #[.int .u64 (kn : Int), tc0] 27)).heap[g2]? = some (.cells #[.int .u64 (nd : Int), s2] 27 (0, 0))) := old_alloc Kx2_8.out _
          have Ko_16 : Hid ((wc0.alloc (.cells #[.int .u64 (kn : Int), tc0] 27)).heap[go]? = some (.cells #[.int .i64 kd, .int .i64 id, .int .u64 (af : Int)] 31 (0, 0))) := old_alloc Ko_9.out _
          have Ts1_17 : Hid (TsT (wc0.alloc (.cells #[.int .u64 (kn : Int), tc0] 27)) s1 T) := Ts1_10.out.alloc _
          have Ts2_18 : Hid (TsT (wc0.alloc (.cells #[.int .u64 (kn : Int), tc0] 27)) s2 (shT d T)) := Ts2_11.out.alloc _
          have Tt1_19 : Hid (TsT (wc0.alloc (.cells #[.int .u64 (kn : Int), tc0] 27)) tc0 T1) := TC0.out.alloc _
          have B_20 := Lib.hid (B_12.out.alloc B_12.out.size (.cells #[.int .u64 (kn : Int), tc0] 27))
          generalize (wc0.alloc (.cells #[.int .u64 (kn : Int), tc0] 27)) = wd0 at Kn1_13 Kx1_14 Kx2_15 Ko_16 Ts1_17 Ts2_18 Tt1_19 B_20 ⊢
          generalize wc0.heap.size = gn0 at Kn1_13 NE_x1_n1 NE_x2_n1 NE_o_n1 GE_n1 ⊢
          clear Kx1_7 Kx2_8 Ko_9 Ts1_10 Ts2_11 TC0 B_12
          obtain ⟨co0, co1, co2⟩ := three_cells Ko_16.out
          go_wp2_with (refine wpList_load_row rfl 27 _ rfl g2 rfl 27 #[.int .u64 (nd : Int), s2] (0, 0) _ Kx2_15.out Try.underlying27 rfl (by kernel_rfl) ?_)
          refine (HCB.out _ _ ⟨_, rfl, Ts2_18.out⟩).mono ?_
          rintro e wc1 ⟨vc1, rfl, hv, hb⟩
          obtain ⟨tc1, rfl, ho, ht⟩ := hv.form
          have HOC1 := Lib.hid ho
          have TC1 := Lib.hid ht
          clear co0 co1 co2
          have Kx1_21 := Lib.hid (old_below Kx1_14.out hb (row_lt Kx1_14.out))
          have Kx2_22 := Lib.hid (old_below Kx2_15.out hb (row_lt Kx2_15.out))
          have Ko_23 := Lib.hid (old_below Ko_16.out hb (row_lt Ko_16.out))
          have Kn1_24 := Lib.hid (old_below Kn1_13.out hb (row_lt Kn1_13.out))
          have Ts1_25 := Lib.hid (Ts1_17.out.below hb)
          have Ts2_26 := Lib.hid (Ts2_18.out.below hb)
          have Tt1_27 := Lib.hid (Tt1_19.out.below hb)
          have B_28 := Lib.hid (B_20.out.trans ((hb).mono B_20.out.size))
          clear Kx1_14 Kx2_15 Ko_16 Kn1_13 Ts1_17 Ts2_18 Tt1_19 B_20
          clear hv ho ht hb
          go_upto_region 30 with (first | (refine wpList_store_new rfl 27 _ _ rfl wc1 #[.int .u64 0, .slice none 0 0] #[.int .u64 (nd : Int), tc1] rfl rfl (by kernel_rfl) rfl (wh_one HOC1.out) ?_) | go_in)
          have NE_x1_n2 : Hid (g1 ≠ wc1.heap.size) := by have := row_lt Kx1_21.out; show _ ≠ _; omega
          have NE_x2_n2 : Hid (g2 ≠ wc1.heap.size) := by have := row_lt Kx2_22.out; show _ ≠ _; omega
          have NE_o_n2 : Hid (go ≠ wc1.heap.size) := by have := row_lt Ko_23.out; show _ ≠ _; omega
          have NE_n1_n2 : Hid (gn0 ≠ wc1.heap.size) := by have := row_lt Kn1_24.out; show _ ≠ _; omega
          have GE_n2 := Lib.hid B_28.out.size
          have Kn2_29 : Hid ((wc1.alloc (.cells #[.int .u64 (nd : Int), tc1] 27)).heap[wc1.heap.size]? = some (.cells #[.int .u64 (nd : Int), tc1] 27 (0, 0))) := heap_alloc_new wc1 _
          have Kx1_30 : Hid ((wc1.alloc (.cells #[.int .u64 (nd : Int), tc1] 27)).heap[g1]? = some (.cells #[.int .u64 (kn : Int), s1] 27 (0, 0))) := old_alloc Kx1_21.out _
          have Kx2_31 : Hid ((wc1.alloc (.cells #[.int .u64 (nd : Int), tc1] 27)).heap[g2]? = some (.cells #[.int .u64 (nd : Int), s2] 27 (0, 0))) := old_alloc Kx2_22.out _
          have Ko_32 : Hid ((wc1.alloc (.cells #[.int .u64 (nd : Int), tc1] 27)).heap[go]? = some (.cells #[.int .i64 kd, .int .i64 id, .int .u64 (af : Int)] 31 (0, 0))) := old_alloc Ko_23.out _
          have Kn1_33 : Hid ((wc1.alloc (.cells #[.int .u64 (nd : Int), tc1] 27)).heap[gn0]? = some (.cells #[.int .u64 (kn : Int), tc0] 27 (0, 0))) := old_alloc Kn1_24.out _
          have Ts1_34 : Hid (TsT (wc1.alloc (.cells #[.int .u64 (nd : Int), tc1] 27)) s1 T) := Ts1_25.out.alloc _
          have Ts2_35 : Hid (TsT (wc1.alloc (.cells #[.int .u64 (nd : Int), tc1] 27)) s2 (shT d T)) := Ts2_26.out.alloc _
          have Tt1_36 : Hid (TsT (wc1.alloc (.cells #[.int .u64 (nd : Int), tc1] 27)) tc0 T1) := Tt1_27.out.alloc _
          have Tt2_37 : Hid (TsT (wc1.alloc (.cells #[.int .u64 (nd : Int), tc1] 27)) tc1 (shT d T1)) := TC1.out.alloc _
          have B_38 := Lib.hid (B_28.out.alloc B_28.out.size (.cells #[.int .u64 (nd : Int), tc1] 27))
          generalize (wc1.alloc (.cells #[.int .u64 (nd : Int), tc1] 27)) = wd1 at Kn2_29 Kx1_30 Kx2_31 Ko_32 Kn1_33 Ts1_34 Ts2_35 Tt1_36 Tt2_37 B_38 ⊢
          generalize wc1.heap.size = gn1 at Kn2_29 NE_x1_n2 NE_x2_n2 NE_o_n2 NE_n1_n2 GE_n2 ⊢
          clear Kx1_21 Kx2_22 Ko_23 Kn1_24 Ts1_25 Ts2_26 Tt1_27 TC1 B_28
          apply wp_region_relyG [2, 3] (OldT wd1 2 g1 27 #[.int .u64 (kn : Int), s1] #[.int .u64 (kn : Int), tc0] 3 g2 27 #[.int .u64 (nd : Int), s2] #[.int .u64 (nd : Int), tc1]) (RL [Is (.agg #[.int .u64 (kn : Int), tc0]), Is (.agg #[.int .u64 (nd : Int), tc1]), Any, Any]) [false, false, false, false, false, false, false, false, false, false, false, false, false, false, false, false, false, false, false, false, false, false, false, false, false, false, false, false, false, false, false, false, false, false, false, false, false, false, false, false, false, false, false, false, false, false, false, false, false, false, false, false, false, false, false, false, false, false, false, false, false, false, false, false, false, false, false, false, false, false, false, false, false, false, false, false, false, false, false, false, false, false, false, false, false, false, false, false, false, false, false, false, false, false, false, false, false, false, false, false, false, false, false, false, false, false, false, false, false, false, false, false, false, false, false, false, false, false, false, false, false, false, true, true, false, false, false, false, false, false, false, false, false, false, false, false, false, false, false, false, false, false, false, false, false, false, false, false, false, false, false, false, false, false, false, false, false, false, false, false, false, false, false, false, false, false, false, false, false, false, false, false, false, false, false]
          · kernel_rfl
          · kernel_rfl
          · kernel_rfl
          · refine ⟨?_, ?_, ?_, ?_, trivial⟩
            · intro L ev w' hC hL hx K hK
              have e14 : ev (.tmp 14) = _ := hx.base 14 (by kernel_rfl)
              have HK := Lib.hid hK
              have HC := Lib.hid hC
              have HL := Lib.hid hL
              have HX := Lib.hid hx
              have hc := hx.cst
              skip
              clear hx hK hC hL
              have q1 : ev (.tmp 14) = .pointer (some ⟨gn0, 0, none⟩) := e14
              have hld := run_loadVar_row (P := Try.prog) w' gn0 27 27 #[.int .u64 (kn : Int), tc0] (0, 0) _ (HC.out.keep Kn1_33.out (Ne.symm NE_x1_n1.out) (Ne.symm NE_x2_n1.out)) Try.underlying27 rfl (by kernel_rfl)
              unfold Run
              rw [rely_load 27 _ rfl q1 hld]
              exact HK.out _ _ (.inl ⟨Below.refl _ _, by decide⟩) rfl
            · intro L ev w' hC hL hx K hK
              have e16 : ev (.tmp 16) = _ := hx.base 16 (by kernel_rfl)
              have HK := Lib.hid hK
              have HC := Lib.hid hC
              have HL := Lib.hid hL
              have HX := Lib.hid hx
              have hc := hx.cst
              skip
              clear hx hK hC hL
              have q1 : ev (.tmp 16) = .pointer (some ⟨gn1, 0, none⟩) := e16
              have hld := run_loadVar_row (P := Try.prog) w' gn1 27 27 #[.int .u64 (nd : Int), tc1] (0, 0) _ (HC.out.keep Kn2_29.out (Ne.symm NE_x1_n2.out) (Ne.symm NE_x2_n2.out)) Try.underlying27 rfl (by kernel_rfl)
              unfold Run
              rw [rely_load 27 _ rfl q1 hld]
              exact HK.out _ _ (.inl ⟨Below.refl _ _, by decide⟩) rfl
            · intro L ev w' hC hL hx K hK
              have e6 : ev (.tmp 6) = _ := hx.base 6 (by kernel_rfl)
              have e122 := hx.held 0 _ rfl (by kernel_rfl)
              change ev (.tmp 122) = _ at e122
              have HK := Lib.hid hK
              have HC := Lib.hid hC
              have HL := Lib.hid hL
              have HX := Lib.hid hx
              have hc := hx.cst
              skip
              clear hx hK hC hL
              have qv : ev (.tmp 122) = .agg #[.int .u64 (kn : Int), tc0] := e122
              have nst : L 2 = false := HL.out
              have qp : ev (.tmp 6) = .pointer (some ⟨g1, 0, none⟩) := e6
              have hgh := HC.out.old1 nst
              have hnv := HC.out.store1 nst rfl NE_x1_x2.out (by decide)
              have hst := run_storeVar_row (P := Try.prog) w' g1 27 27 #[.int .u64 (kn : Int), s1] #[.int .u64 (kn : Int), tc0] hgh (by kernel_rfl) rfl (wh_one HOC0.out)
              unfold Run
              rw [rely_store 27 _ _ rfl qp qv hst]
              refine HK.out _ _ (.inr ⟨hnv, fun j hj hlj u hr => ?_⟩) trivial
              rcases j with _ | _ | _ | _ | j
              · exact hr
              · exact hr
              · exact absurd rfl hj
              · exact trivial
              · exact trivial
            · intro L ev w' hC hL hx K hK
              have e7 : ev (.tmp 7) = _ := hx.base 7 (by kernel_rfl)
              have e123 := hx.held 1 _ rfl (by kernel_rfl)
              change ev (.tmp 123) = _ at e123
              have HK := Lib.hid hK
              have HC := Lib.hid hC
              have HL := Lib.hid hL
              have HX := Lib.hid hx
              have hc := hx.cst
              skip
              clear hx hK hC hL
              have qv : ev (.tmp 123) = .agg #[.int .u64 (nd : Int), tc1] := e123
              have nst : L 3 = false := HL.out
              have qp : ev (.tmp 7) = .pointer (some ⟨g2, 0, none⟩) := e7
              have hgh := HC.out.old2 nst
              have hnv := HC.out.store2 nst rfl NE_x1_x2.out (by decide)
              have hst := run_storeVar_row (P := Try.prog) w' g2 27 27 #[.int .u64 (nd : Int), s2] #[.int .u64 (nd : Int), tc1] hgh (by kernel_rfl) rfl (wh_one HOC1.out)
              unfold Run
              rw [rely_store 27 _ _ rfl qp qv hst]
              refine HK.out _ _ (.inr ⟨hnv, fun j hj hlj u hr => ?_⟩) trivial
              rcases j with _ | _ | _ | _ | j
              · exact hr
              · exact hr
              · exact trivial
              · exact absurd rfl hj
              · exact trivial
          · exact rl_mono ⟨is_mono _, is_mono _, any_mono, any_mono, trivial⟩
          · exact fun L L' w' h1 hg => hg.agree (h1 2 (by simp)) (h1 3 (by simp))
          · exact fun L w' w'' hb hg => hg.below hb
          · exact OldT.start Kx1_30.out Kx2_31.out
          · simp
          intro us wr hG hH
          obtain ⟨-, -, -, -, -⟩ := hH
          simp only [fillM]
          obtain ⟨hG9, hvn1, hvn2⟩ := hG
          have HVN1 : Hid (wr.heap[g1]? = some (.cells #[.int .u64 (kn : Int), tc0] 27 (0, 0))) := hvn1
          have HVN2 : Hid (wr.heap[g2]? = some (.cells #[.int .u64 (nd : Int), tc1] 27 (0, 0))) := hvn2
          have HG9 := Lib.hid hG9
          clear hG9 hvn1 hvn2
          generalize us 122 = v122
          generalize us 123 = v123
          have HT1 := Lib.hid (tl_gro2 Tt1_36.out HG9.out Kx1_30.out Kx2_31.out (by decide) (by decide))
          have HT2 := Lib.hid (tl_gro2 Tt2_37.out HG9.out Kx1_30.out Kx2_31.out (by decide) (by decide))
          have HBF := Lib.hid (B_38.out.trans (HG9.out.below HGE.out B_38.out.size))
          clear Kx1_30 Kx2_31 Ko_32 Kn1_33 Kn2_29 Ts1_34 Ts2_35 Tt1_36 Tt2_37 B_38
          rename World => wf
          obtain ⟨p, hp⟩ : ∃ p, T1.length = p := ⟨_, rfl⟩
          have HPL := Lib.hid hp
          obtain ⟨A1, c1, ht1, hr1, -, hl1, hc1⟩ := HT1.out
          obtain ⟨A2, c2, ht2, hr2, -, hl2, hc2⟩ := HT2.out
          rw [sh_len] at ht2 hl2
          rw [hp] at ht1 hl1 ht2 hl2
          subst ht1 ht2
          have HR1 := Lib.hid hr1.rd
          have HR2 := Lib.hid hr2.rd
          have hc1b : c1 ≤ 9223372036854775807 := by unfold maxLen at hc1; omega
          have hc2b : c2 ≤ 9223372036854775807 := by unfold maxLen at hc2; omega
          clear hp hr1 hr2 hc1 hc2
          obtain ⟨cx10, cx11⟩ := two_cells HVN1.out
          obtain ⟨cx20, cx21⟩ := two_cells HVN2.out
          have hsum : (kn : Int) + (d : Int) = (nd : Int) := by have := HND.out; omega
          go_wp2
          clear cx10 cx11 cx20 cx21
          go_loopw [146] (fun t146 wr => ∃ j : Nat, j ≤ p ∧ t146 = .int .i64 (j : Int) ∧ Hid (Below wf.heap.size wf wr)) (fun t146 _ => p - (intOf t146).toNat)
          case atStart => exact ⟨0, Nat.zero_le _, rfl, Lib.hid (Below.refl _ _)⟩
          case round =>
            obtain ⟨j, hj, rfl, HBI⟩ := hrel
            by_cases hlt2 : j < p
            · obtain ⟨y, hy⟩ : ∃ y, T1[j]? = some y := ⟨_, List.getElem?_eq_getElem (by rw [HPL.out]; exact hlt2)⟩
              have hye := (low_sh HLN.out (n := kn) (d := d) (by omega)) _ (List.mem_of_getElem? (sh_at (d := d) hy))
              obtain ⟨yd, rfl, hKY⟩ := el_all tmE (Rs.below HR1.out HBI.out (Nat.le_refl _)) (by omega) hy
              have HKY : Hid (∀ (q : Nat) v, (#[.int .i64 y.id, .int .u64 (y.due : Int)] : Array Value)[q]? = some v → wr.cell? ((yd.add (j * 2)).add q) = some v) := hKY wr (Below.refl _ _)
              obtain ⟨zd, rfl, hKZ⟩ := el_all tmE (Rs.below HR2.out HBI.out (Nat.le_refl _)) (by omega) (sh_at (d := d) hy)
              obtain ⟨ye, hye2⟩ : ∃ ye, y.due + d = ye := ⟨_, rfl⟩
              have HKZ : Hid (∀ w', Below wr.heap.size wr w' → ∀ (q : Nat) v, (#[.int .i64 y.id, .int .u64 (ye : Int)] : Array Value)[q]? = some v → w'.cell? ((zd.add (j * 2)).add q) = some v) := by rw [← hye2]; exact hKZ
              have hyb : ye < 18446744073709551616 := by have := hye.2; simp only at this; omega
              have hysum : (y.due : Int) + (d : Int) = (ye : Int) := by omega
              clear hy hKY hKZ hye
              obtain ⟨wy, hwy⟩ : ∃ wy, wr.alloc (.cells #[.int .i64 y.id, .int .u64 (y.due : Int)] 53) = wy := ⟨_, rfl⟩
              have HY5 : Hid (wy.heap[wr.heap.size]? = some (.cells #[.int .i64 y.id, .int .u64 (y.due : Int)] 53 (0, 0))) := by rw [← hwy]; exact heap_alloc_new wr _
              have HX5 : Hid (wy.heap[g2]? = some (.cells #[.int .u64 (nd : Int), .slice (some zd) p c2] 27 (0, 0))) := by rw [← hwy]; exact old_alloc (old_below HVN2.out HBI.out (row_lt HVN2.out)) _
              have HBY : Hid (Below wr.heap.size wr wy) := by rw [← hwy]; exact (Below.refl _ _).alloc (Nat.le_refl _) _
              have HB5 : Hid (Below wf.heap.size wf wy) := by rw [← hwy]; exact HBI.out.alloc HBI.out.size _
              have HWY := Lib.hid hwy
              clear hwy
              go_upto_region 38 with (first | (refine wpList_load_atA rfl 53 _ rfl (yd.add (j * 2)) rfl #[.int .i64 y.id, .int .u64 (y.due : Int)] _ HKY.out Try.underlying53 rfl (by kernel_rfl) ?_) | (refine wpList_store_new rfl 53 _ _ rfl wr #[.int .i64 0, .int .u64 0] #[.int .i64 y.id, .int .u64 (y.due : Int)] rfl rfl (by kernel_rfl) rfl (by simp [Value.oneCell']) ?_) | go_in)
              rw [HWY.out]
              clear HWY HKY
              generalize wr.heap.size = gy at HY5 ⊢
              have KZ0 : Hid (∀ w', Reg wy w' → w'.cell? ((zd.add (j * 2)).add 0) = some (.int .i64 y.id)) := fun w' hr => HKZ.out w' (HBY.out.trans ((reg_below hr).mono HBY.out.size)) 0 _ rfl
              have KZ1 : Hid (∀ w', Reg wy w' → w'.cell? ((zd.add (j * 2)).add 1) = some (.int .u64 (ye : Int))) := fun w' hr => HKZ.out w' (HBY.out.trans ((reg_below hr).mono HBY.out.size)) 1 _ rfl
              have KY0 : Hid (∀ w', Reg wy w' → w'.cell? ⟨gy, 0, none⟩ = some (.int .i64 y.id)) := fun w' hr => (two_cells (old_below HY5.out (reg_below hr) (row_lt HY5.out))).1
              have KY1 : Hid (∀ w', Reg wy w' → w'.cell? ⟨gy, 1, none⟩ = some (.int .u64 (y.due : Int))) := fun w' hr => (two_cells (old_below HY5.out (reg_below hr) (row_lt HY5.out))).2
              have KX1 : Hid (∀ w', Reg wy w' → w'.cell? ⟨g2, 1, none⟩ = some (.slice (some zd) p c2)) := fun w' hr => (two_cells (old_below HX5.out (reg_below hr) (row_lt HX5.out))).2
              refine wp_region_quiet_below (by kernel_rfl) (by kernel_rfl) ?_
              (first | go_big_quiet_step (fail) | quiet_step (fail))
              (refine wpQuiet_step (fun K hK => ?_); refine quiet_load_cell (by kernel_rfl) 25 _ rfl ⟨g2, 1, none⟩ (by first | rfl | (simp [Act.eval, Addr.add_mid])) (.slice (some zd) p c2) _ KX1.out Try.underlying25 rfl ?_; refine hK _ ?_; clear hK K; go_frame)
              (first | go_big_quiet_step (fail) | quiet_step (fail))
              (first | go_big_quiet_step (fail) | quiet_step (fail))
              (first | go_big_quiet_step (fail) | quiet_step (fail))
              (refine wpQuiet_step (fun K hK => ?_); refine quiet_load_cell (by kernel_rfl) 3 _ rfl ((zd.add (j * 2)).add 0) (by first | rfl | (simp [Act.eval, Addr.add_mid])) (.int .i64 y.id) _ KZ0.out Try.underlying3 rfl ?_; refine hK _ ?_; clear hK K; go_frame)
              (first | go_big_quiet_step (fail) | quiet_step (fail))
              (refine wpQuiet_step (fun K hK => ?_); refine quiet_load_cell (by kernel_rfl) 3 _ rfl ⟨gy, 0, none⟩ (by first | rfl | (simp [Act.eval, Addr.add_mid])) (.int .i64 y.id) _ KY0.out Try.underlying3 rfl ?_; refine hK _ ?_; clear hK K; go_frame)
              (first | go_big_quiet_step (fail) | quiet_step (fail))
              (first | go_big_quiet_step (fail) | quiet_step (fail))
              (first | go_big_quiet_step (fail) | quiet_step (fail))
              (refine wpQuiet_step (fun K hK => ?_); refine quiet_load_cell (by kernel_rfl) 25 _ rfl ⟨g2, 1, none⟩ (by first | rfl | (simp [Act.eval, Addr.add_mid])) (.slice (some zd) p c2) _ KX1.out Try.underlying25 rfl ?_; refine hK _ ?_; clear hK K; go_frame)
              (first | go_big_quiet_step (fail) | quiet_step (fail))
              (first | go_big_quiet_step (fail) | quiet_step (fail))
              (first | go_big_quiet_step (fail) | quiet_step (fail))
              (refine wpQuiet_step (fun K hK => ?_); refine quiet_load_cell (by kernel_rfl) 22 _ rfl ((zd.add (j * 2)).add 1) (by first | rfl | (simp [Act.eval, Addr.add_mid])) (.int .u64 (ye : Int)) _ KZ1.out Try.underlying22 rfl ?_; refine hK _ ?_; clear hK K; go_frame)
              (first | go_big_quiet_step (fail) | quiet_step (fail))
              (refine wpQuiet_step (fun K hK => ?_); refine quiet_load_cell (by kernel_rfl) 22 _ rfl ⟨gy, 1, none⟩ (by first | rfl | (simp [Act.eval, Addr.add_mid])) (.int .u64 (y.due : Int)) _ KY1.out Try.underlying22 rfl ?_; refine hK _ ?_; clear hK K; go_frame)
              (first | go_big_quiet_step (fail) | quiet_step (fail))
              (first | go_big_quiet_step (fail) | quiet_step (fail))
              (first | go_big_quiet_step (fail) | quiet_step (fail))
              (first | go_big_quiet_step (fail) | quiet_step (fail))
              refine wpQuiet_nil ?_
              intro w9 hw9
              obtain ⟨⟨dq, osq⟩, rfl⟩ := hw9
              have HB9 := Lib.hid ((HB5.out).trans ((below_regrown wy dq osq).mono (HB5.out).size))
              generalize Sort.grow (redrawn wy dq) osq = w9b at *
              go_wp2
              go_roundw
              case rel => exact ⟨j + 1, by omega, by go_num, HB9⟩
              case measure => simp [intOf]; omega
            · obtain rfl : j = p := by omega
              have Kx1_1 := Lib.hid (old_below HVN1.out HBI.out (row_lt HVN1.out))
              have Kx2_2 := Lib.hid (old_below HVN2.out HBI.out (row_lt HVN2.out))
              have Tt1_3 := Lib.hid (HT1.out.below HBI.out)
              have Tt2_4 := Lib.hid (HT2.out.below HBI.out)
              have B_5 := Lib.hid (HBF.out.trans ((HBI.out).mono HBF.out.size))
              clear HVN1 HVN2 HT1 HT2 HBF
              go_wp2
              go_roundw
              case rel => exact ⟨i + 1, kn, nd, T1, _, _, by omega, by go_num, by omega, by have := HND.out; omega, Kx1_1, Kx2_2, Tt1_3, Tt2_4, HRN, HLN, B_5⟩
              case measure => simp [intOf]; omega
      · as_aux_lemma =>
          obtain ⟨co0, co1, co2⟩ := three_cells Ko_1.out
          go_upto_region 9 with (fail)
          clear co0 co1 co2
          have HND1 : Hid (nd + 1 = kn + 1 + d) := by have := HND.out; show _ = _; omega
          have HRN : Hid (rightW (kn + 1) (T.filter (notDue (kn + 1))) = true) := right_tick HR.out hk62
          have HLN : Hid (lowT (kn + 1) (T.filter (notDue (kn + 1)))) := low_next (low_filter HLO.out)
          have HCA : Hid (∀ w v, WhT w v kn T → Calls Try.prog 13 #[v] w fun e w' => ∃ v' u', e = .returned (.tuple #[v', u']) ∧ WhT w' v' (kn + 1) (T.filter (notDue (kn + 1))) ∧ InT w' u' (dueX (kn + 1) T) ∧ Below w.heap.size w w') := fun w v hv => tick_any v kn T w hv.whs HR.out HOA.out hk62
          have HCB : Hid (∀ w v, WhT w v nd (shT d T) → Calls Try.prog 13 #[v] w fun e w' => ∃ v' u', e = .returned (.tuple #[v', u']) ∧ WhT w' v' (nd + 1) (shT d (T.filter (notDue (kn + 1)))) ∧ InT w' u' (dueX (kn + 1) T) ∧ Below w.heap.size w w') := fun w v hv => by
            have e1 : (shT d T).filter (notDue (nd + 1)) = shT d (T.filter (notDue (kn + 1))) := by rw [HND1.out, sh_notDue]
            have e2 : dueX (nd + 1) (shT d T) = dueX (kn + 1) T := by rw [HND1.out, sh_due]
            have := tick_any v nd (shT d T) w hv.whs HRD.out HOB.out hnd62
            rw [e1, e2] at this
            exact this
          obtain ⟨T1, hT1⟩ : ∃ T1, T.filter (notDue (kn + 1)) = T1 := ⟨_, rfl⟩
          obtain ⟨D, hD⟩ : ∃ D, dueX (kn + 1) T = D := ⟨_, rfl⟩
          rw [hT1] at HRN HLN HCA HCB
          rw [hD] at HCA HCB
          clear hT1 hD
          go_wp2_with (refine wpList_load_row rfl 27 _ rfl g1 rfl 27 #[.int .u64 (kn : Int), s1] (0, 0) _ Kx1_2.out Try.underlying27 rfl (by kernel_rfl) ?_)
          refine (HCA.out _ _ ⟨_, rfl, Ts1_4.out⟩).mono ?_
          rintro e wc0 ⟨vc0, u0, rfl, hv, hu, hb⟩
          obtain ⟨tc0, rfl, ho, ht⟩ := hv.form
          have HOC0 := Lib.hid ho
          have TC0 := Lib.hid ht
          have U0 := Lib.hid hu
          have Kx1_7 := Lib.hid (old_below Kx1_2.out hb (row_lt Kx1_2.out))
          have Kx2_8 := Lib.hid (old_below Kx2_3.out hb (row_lt Kx2_3.out))
          have Ko_9 := Lib.hid (old_below Ko_1.out hb (row_lt Ko_1.out))
          have Ts1_10 := Lib.hid (Ts1_4.out.below hb)
          have Ts2_11 := Lib.hid (Ts2_5.out.below hb)
          have B_12 := Lib.hid (B_6.out.trans ((hb).mono B_6.out.size))
          clear Kx1_2 Kx2_3 Ko_1 Ts1_4 Ts2_5 B_6
          clear hv ho ht hb hu
          go_upto_region 10 with (first | (refine wpList_store_new rfl 27 _ _ rfl wc0 #[.int .u64 0, .slice none 0 0] #[.int .u64 ((kn : Int) + 1), tc0] rfl rfl (by kernel_rfl) rfl (wh_one HOC0.out) ?_) | go_in)
          have NE_x1_n1 : Hid (g1 ≠ wc0.heap.size) := by have := row_lt Kx1_7.out; show _ ≠ _; omega
          have NE_x2_n1 : Hid (g2 ≠ wc0.heap.size) := by have := row_lt Kx2_8.out; show _ ≠ _; omega
          have NE_o_n1 : Hid (go ≠ wc0.heap.size) := by have := row_lt Ko_9.out; show _ ≠ _; omega
          have GE_n1 := Lib.hid B_12.out.size
          have Kn1_13 : Hid ((wc0.alloc (.cells #[.int .u64 ((kn : Int) + 1), tc0] 27)).heap[wc0.heap.size]? = some (.cells #[.int .u64 ((kn : Int) + 1), tc0] 27 (0, 0))) := heap_alloc_new wc0 _
          have Kx1_14 : Hid ((wc0.alloc (.cells #[.int .u64 ((kn : Int) + 1), tc0] 27)).heap[g1]? = some (.cells #[.int .u64 (kn : Int), s1] 27 (0, 0))) := old_alloc Kx1_7.out _
          have Kx2_15 : Hid ((wc0.alloc (.cells #[.int .u64 ((kn : Int) + 1), tc0] 27)).heap[g2]? = some (.cells #[.int .u64 (nd : Int), s2] 27 (0, 0))) := old_alloc Kx2_8.out _
          have Ko_16 : Hid ((wc0.alloc (.cells #[.int .u64 ((kn : Int) + 1), tc0] 27)).heap[go]? = some (.cells #[.int .i64 kd, .int .i64 id, .int .u64 (af : Int)] 31 (0, 0))) := old_alloc Ko_9.out _
          have Ts1_17 : Hid (TsT (wc0.alloc (.cells #[.int .u64 ((kn : Int) + 1), tc0] 27)) s1 T) := Ts1_10.out.alloc _
          have Ts2_18 : Hid (TsT (wc0.alloc (.cells #[.int .u64 ((kn : Int) + 1), tc0] 27)) s2 (shT d T)) := Ts2_11.out.alloc _
          have Tt1_19 : Hid (TsT (wc0.alloc (.cells #[.int .u64 ((kn : Int) + 1), tc0] 27)) tc0 T1) := TC0.out.alloc _
          have Tu0_20 : Hid (InT (wc0.alloc (.cells #[.int .u64 ((kn : Int) + 1), tc0] 27)) u0 D) := U0.out.alloc _
          have B_21 := Lib.hid (B_12.out.alloc B_12.out.size (.cells #[.int .u64 ((kn : Int) + 1), tc0] 27))
          generalize (wc0.alloc (.cells #[.int .u64 ((kn : Int) + 1), tc0] 27)) = wd0 at Kn1_13 Kx1_14 Kx2_15 Ko_16 Ts1_17 Ts2_18 Tt1_19 Tu0_20 B_21 ⊢
          generalize wc0.heap.size = gn0 at Kn1_13 NE_x1_n1 NE_x2_n1 NE_o_n1 GE_n1 ⊢
          clear Kx1_7 Kx2_8 Ko_9 Ts1_10 Ts2_11 TC0 U0 B_12
          go_wp2_with (refine wpList_load_row rfl 27 _ rfl g2 rfl 27 #[.int .u64 (nd : Int), s2] (0, 0) _ Kx2_15.out Try.underlying27 rfl (by kernel_rfl) ?_)
          refine (HCB.out _ _ ⟨_, rfl, Ts2_18.out⟩).mono ?_
          rintro e wc1 ⟨vc1, u1, rfl, hv, hu, hb⟩
          obtain ⟨tc1, rfl, ho, ht⟩ := hv.form
          have HOC1 := Lib.hid ho
          have TC1 := Lib.hid ht
          have U1 := Lib.hid hu
          have Kx1_22 := Lib.hid (old_below Kx1_14.out hb (row_lt Kx1_14.out))
          have Kx2_23 := Lib.hid (old_below Kx2_15.out hb (row_lt Kx2_15.out))
          have Ko_24 := Lib.hid (old_below Ko_16.out hb (row_lt Ko_16.out))
          have Kn1_25 := Lib.hid (old_below Kn1_13.out hb (row_lt Kn1_13.out))
          have Ts1_26 := Lib.hid (Ts1_17.out.below hb)
          have Ts2_27 := Lib.hid (Ts2_18.out.below hb)
          have Tt1_28 := Lib.hid (Tt1_19.out.below hb)
          have Tu0_29 := Lib.hid (Tu0_20.out.below hb)
          have B_30 := Lib.hid (B_21.out.trans ((hb).mono B_21.out.size))
          clear Kx1_14 Kx2_15 Ko_16 Kn1_13 Ts1_17 Ts2_18 Tt1_19 Tu0_20 B_21
          clear hv ho ht hb hu
          go_upto_region 11 with (first | (refine wpList_store_new rfl 27 _ _ rfl wc1 #[.int .u64 0, .slice none 0 0] #[.int .u64 ((nd : Int) + 1), tc1] rfl rfl (by kernel_rfl) rfl (wh_one HOC1.out) ?_) | go_in)
          have NE_x1_n2 : Hid (g1 ≠ wc1.heap.size) := by have := row_lt Kx1_22.out; show _ ≠ _; omega
          have NE_x2_n2 : Hid (g2 ≠ wc1.heap.size) := by have := row_lt Kx2_23.out; show _ ≠ _; omega
          have NE_o_n2 : Hid (go ≠ wc1.heap.size) := by have := row_lt Ko_24.out; show _ ≠ _; omega
          have NE_n1_n2 : Hid (gn0 ≠ wc1.heap.size) := by have := row_lt Kn1_25.out; show _ ≠ _; omega
          have GE_n2 := Lib.hid B_30.out.size
          have Kn2_31 : Hid ((wc1.alloc (.cells #[.int .u64 ((nd : Int) + 1), tc1] 27)).heap[wc1.heap.size]? = some (.cells #[.int .u64 ((nd : Int) + 1), tc1] 27 (0, 0))) := heap_alloc_new wc1 _
          have Kx1_32 : Hid ((wc1.alloc (.cells #[.int .u64 ((nd : Int) + 1), tc1] 27)).heap[g1]? = some (.cells #[.int .u64 (kn : Int), s1] 27 (0, 0))) := old_alloc Kx1_22.out _
          have Kx2_33 : Hid ((wc1.alloc (.cells #[.int .u64 ((nd : Int) + 1), tc1] 27)).heap[g2]? = some (.cells #[.int .u64 (nd : Int), s2] 27 (0, 0))) := old_alloc Kx2_23.out _
          have Ko_34 : Hid ((wc1.alloc (.cells #[.int .u64 ((nd : Int) + 1), tc1] 27)).heap[go]? = some (.cells #[.int .i64 kd, .int .i64 id, .int .u64 (af : Int)] 31 (0, 0))) := old_alloc Ko_24.out _
          have Kn1_35 : Hid ((wc1.alloc (.cells #[.int .u64 ((nd : Int) + 1), tc1] 27)).heap[gn0]? = some (.cells #[.int .u64 ((kn : Int) + 1), tc0] 27 (0, 0))) := old_alloc Kn1_25.out _
          have Ts1_36 : Hid (TsT (wc1.alloc (.cells #[.int .u64 ((nd : Int) + 1), tc1] 27)) s1 T) := Ts1_26.out.alloc _
          have Ts2_37 : Hid (TsT (wc1.alloc (.cells #[.int .u64 ((nd : Int) + 1), tc1] 27)) s2 (shT d T)) := Ts2_27.out.alloc _
          have Tt1_38 : Hid (TsT (wc1.alloc (.cells #[.int .u64 ((nd : Int) + 1), tc1] 27)) tc0 T1) := Tt1_28.out.alloc _
          have Tu0_39 : Hid (InT (wc1.alloc (.cells #[.int .u64 ((nd : Int) + 1), tc1] 27)) u0 D) := Tu0_29.out.alloc _
          have Tt2_40 : Hid (TsT (wc1.alloc (.cells #[.int .u64 ((nd : Int) + 1), tc1] 27)) tc1 (shT d T1)) := TC1.out.alloc _
          have Tu1_41 : Hid (InT (wc1.alloc (.cells #[.int .u64 ((nd : Int) + 1), tc1] 27)) u1 D) := U1.out.alloc _
          have B_42 := Lib.hid (B_30.out.alloc B_30.out.size (.cells #[.int .u64 ((nd : Int) + 1), tc1] 27))
          generalize (wc1.alloc (.cells #[.int .u64 ((nd : Int) + 1), tc1] 27)) = wd1 at Kn2_31 Kx1_32 Kx2_33 Ko_34 Kn1_35 Ts1_36 Ts2_37 Tt1_38 Tu0_39 Tt2_40 Tu1_41 B_42 ⊢
          generalize wc1.heap.size = gn1 at Kn2_31 NE_x1_n2 NE_x2_n2 NE_o_n2 NE_n1_n2 GE_n2 ⊢
          clear Kx1_22 Kx2_23 Ko_24 Kn1_25 Ts1_26 Ts2_27 Tt1_28 Tu0_29 TC1 U1 B_30
          apply wp_region_relyG [2, 3] (OldT wd1 2 g1 27 #[.int .u64 (kn : Int), s1] #[.int .u64 ((kn : Int) + 1), tc0] 3 g2 27 #[.int .u64 (nd : Int), s2] #[.int .u64 ((nd : Int) + 1), tc1]) (RL [Is (.agg #[.int .u64 ((kn : Int) + 1), tc0]), Is (.agg #[.int .u64 ((nd : Int) + 1), tc1]), Any, Any]) [false, false, false, false, false, false, false, false, false, false, false, false, false, false, false, false, false, false, false, false, false, false, false, false, false, false, false, false, false, false, false, false, false, false, false, false, false, false, false, false, false, false, false, false, false, false, false, false, false, false, false, false, false, false, false, false, false, false, true, true, false, false, false, false, false, false, false, false, false, false, false, false, false, false, false, false, false, false, false, false, false, false, false, false, false, false, false, false, false, false, false, false, false, false, false, false, false, false, false, false, false, false, false, false, false, false, false, false, false, false, false, false, false, false, false, false, false, false, false, false, false, false, false, false, false, false, false, false, false, false, false, false, false, false, false, false, false, false, false, false, false, false, false, false, false, false, false, false, false, false, false, false, false, false, false, false, false, false, false, false, false, false, false, false, false, false, false, false, false, false, false, false, false, false, false]
          · kernel_rfl
          · kernel_rfl
          · kernel_rfl
          · refine ⟨?_, ?_, ?_, ?_, trivial⟩
            · intro L ev w' hC hL hx K hK
              have e18 : ev (.tmp 18) = _ := hx.base 18 (by kernel_rfl)
              have HK := Lib.hid hK
              have HC := Lib.hid hC
              have HL := Lib.hid hL
              have HX := Lib.hid hx
              have hc := hx.cst
              skip
              clear hx hK hC hL
              have q1 : ev (.tmp 18) = .pointer (some ⟨gn0, 0, none⟩) := e18
              have hld := run_loadVar_row (P := Try.prog) w' gn0 27 27 #[.int .u64 ((kn : Int) + 1), tc0] (0, 0) _ (HC.out.keep Kn1_35.out (Ne.symm NE_x1_n1.out) (Ne.symm NE_x2_n1.out)) Try.underlying27 rfl (by kernel_rfl)
              unfold Run
              rw [rely_load 27 _ rfl q1 hld]
              exact HK.out _ _ (.inl ⟨Below.refl _ _, by decide⟩) rfl
            · intro L ev w' hC hL hx K hK
              have e20 : ev (.tmp 20) = _ := hx.base 20 (by kernel_rfl)
              have HK := Lib.hid hK
              have HC := Lib.hid hC
              have HL := Lib.hid hL
              have HX := Lib.hid hx
              have hc := hx.cst
              skip
              clear hx hK hC hL
              have q1 : ev (.tmp 20) = .pointer (some ⟨gn1, 0, none⟩) := e20
              have hld := run_loadVar_row (P := Try.prog) w' gn1 27 27 #[.int .u64 ((nd : Int) + 1), tc1] (0, 0) _ (HC.out.keep Kn2_31.out (Ne.symm NE_x1_n2.out) (Ne.symm NE_x2_n2.out)) Try.underlying27 rfl (by kernel_rfl)
              unfold Run
              rw [rely_load 27 _ rfl q1 hld]
              exact HK.out _ _ (.inl ⟨Below.refl _ _, by decide⟩) rfl
            · intro L ev w' hC hL hx K hK
              have e6 : ev (.tmp 6) = _ := hx.base 6 (by kernel_rfl)
              have e58 := hx.held 0 _ rfl (by kernel_rfl)
              change ev (.tmp 58) = _ at e58
              have HK := Lib.hid hK
              have HC := Lib.hid hC
              have HL := Lib.hid hL
              have HX := Lib.hid hx
              have hc := hx.cst
              skip
              clear hx hK hC hL
              have qv : ev (.tmp 58) = .agg #[.int .u64 ((kn : Int) + 1), tc0] := e58
              have nst : L 2 = false := HL.out
              have qp : ev (.tmp 6) = .pointer (some ⟨g1, 0, none⟩) := e6
              have hgh := HC.out.old1 nst
              have hnv := HC.out.store1 nst rfl NE_x1_x2.out (by decide)
              have hst := run_storeVar_row (P := Try.prog) w' g1 27 27 #[.int .u64 (kn : Int), s1] #[.int .u64 ((kn : Int) + 1), tc0] hgh (by kernel_rfl) rfl (wh_one HOC0.out)
              unfold Run
              rw [rely_store 27 _ _ rfl qp qv hst]
              refine HK.out _ _ (.inr ⟨hnv, fun j hj hlj u hr => ?_⟩) trivial
              rcases j with _ | _ | _ | _ | j
              · exact hr
              · exact hr
              · exact absurd rfl hj
              · exact trivial
              · exact trivial
            · intro L ev w' hC hL hx K hK
              have e7 : ev (.tmp 7) = _ := hx.base 7 (by kernel_rfl)
              have e59 := hx.held 1 _ rfl (by kernel_rfl)
              change ev (.tmp 59) = _ at e59
              have HK := Lib.hid hK
              have HC := Lib.hid hC
              have HL := Lib.hid hL
              have HX := Lib.hid hx
              have hc := hx.cst
              skip
              clear hx hK hC hL
              have qv : ev (.tmp 59) = .agg #[.int .u64 ((nd : Int) + 1), tc1] := e59
              have nst : L 3 = false := HL.out
              have qp : ev (.tmp 7) = .pointer (some ⟨g2, 0, none⟩) := e7
              have hgh := HC.out.old2 nst
              have hnv := HC.out.store2 nst rfl NE_x1_x2.out (by decide)
              have hst := run_storeVar_row (P := Try.prog) w' g2 27 27 #[.int .u64 (nd : Int), s2] #[.int .u64 ((nd : Int) + 1), tc1] hgh (by kernel_rfl) rfl (wh_one HOC1.out)
              unfold Run
              rw [rely_store 27 _ _ rfl qp qv hst]
              refine HK.out _ _ (.inr ⟨hnv, fun j hj hlj u hr => ?_⟩) trivial
              rcases j with _ | _ | _ | _ | j
              · exact hr
              · exact hr
              · exact trivial
              · exact absurd rfl hj
              · exact trivial
          · exact rl_mono ⟨is_mono _, is_mono _, any_mono, any_mono, trivial⟩
          · exact fun L L' w' h1 hg => hg.agree (h1 2 (by simp)) (h1 3 (by simp))
          · exact fun L w' w'' hb hg => hg.below hb
          · exact OldT.start Kx1_32.out Kx2_33.out
          · simp
          intro us wr hG hH
          obtain ⟨-, -, -, -, -⟩ := hH
          simp only [fillM]
          obtain ⟨hG9, hvn1, hvn2⟩ := hG
          have HVN1 : Hid (wr.heap[g1]? = some (.cells #[.int .u64 ((kn : Int) + 1), tc0] 27 (0, 0))) := hvn1
          have HVN2 : Hid (wr.heap[g2]? = some (.cells #[.int .u64 ((nd : Int) + 1), tc1] 27 (0, 0))) := hvn2
          have HG9 := Lib.hid hG9
          clear hG9 hvn1 hvn2
          generalize us 58 = v58
          generalize us 59 = v59
          have HT1 := Lib.hid (tl_gro2 Tt1_38.out HG9.out Kx1_32.out Kx2_33.out (by decide) (by decide))
          have HT2 := Lib.hid (tl_gro2 Tt2_40.out HG9.out Kx1_32.out Kx2_33.out (by decide) (by decide))
          have HU1 := Lib.hid (tl_gro2 Tu0_39.out HG9.out Kx1_32.out Kx2_33.out (by decide) (by decide))
          have HU2 := Lib.hid (tl_gro2 Tu1_41.out HG9.out Kx1_32.out Kx2_33.out (by decide) (by decide))
          have HBF := Lib.hid (B_42.out.trans (HG9.out.below HGE.out B_42.out.size))
          clear Kx1_32 Kx2_33 Ko_34 Kn1_35 Kn2_31 Ts1_36 Ts2_37 Tt1_38 Tu0_39 Tt2_40 Tu1_41 B_42
          obtain ⟨Au, cu, rfl, hru, -, hlu, hcu⟩ := HU1.out
          obtain ⟨Av, cv, rfl, hrv, -, hlv, hcv⟩ := HU2.out
          obtain ⟨du, hdu⟩ : ∃ du, D.length = du := ⟨_, rfl⟩
          have HDL := Lib.hid hdu
          rw [hdu] at hlu hlv ⊢
          have hcu2 : cu ≤ 9223372036854775807 := by unfold maxLen at hcu; omega
          have hcv2 : cv ≤ 9223372036854775807 := by unfold maxLen at hcv; omega
          have HRU := Lib.hid hru.rd
          have HRV := Lib.hid hrv.rd
          clear hru hrv hcu hcv hdu HU1 HU2
          rename World => wf
          go_wp2
          go_loopw [67] (fun t67 wr => ∃ j : Nat, j ≤ du ∧ t67 = .int .i64 (j : Int) ∧ Hid (Below wf.heap.size wf wr)) (fun t67 _ => du - (intOf t67).toNat)
          case atStart => exact ⟨0, Nat.zero_le _, rfl, Lib.hid (Below.refl _ _)⟩
          case round =>
            obtain ⟨j, hj, rfl, HBI⟩ := hrel
            by_cases hltj : j < du
            · obtain ⟨z, hz⟩ : ∃ z, D[j]? = some z := ⟨_, List.getElem?_eq_getElem (by rw [HDL.out]; exact hltj)⟩
              obtain ⟨ua, rfl, hua⟩ := el_one1 inE (Rs.below HRU.out HBI.out (Nat.le_refl _)) hz (v := .int .i64 z) rfl
              obtain ⟨ub, rfl, hub⟩ := el_one1 inE (Rs.below HRV.out HBI.out (Nat.le_refl _)) hz (v := .int .i64 z) rfl
              have KU0 : Hid (∀ w', Reg wr w' → w'.cell? (ua.add j) = some (.int .i64 z)) := fun w' hr => hua w' (reg_below hr)
              have KU1 : Hid (∀ w', Reg wr w' → w'.cell? (ub.add j) = some (.int .i64 z)) := fun w' hr => hub w' (reg_below hr)
              clear hz hua hub
              go_upto_region 17 with (fail)
              refine wp_region_quiet_below (by kernel_rfl) (by kernel_rfl) ?_
              (first | go_big_quiet_step (fail) | quiet_step (fail))
              (first | go_big_quiet_step (fail) | quiet_step (fail))
              (first | go_big_quiet_step (fail) | quiet_step (fail))
              (refine wpQuiet_step (fun K hK => ?_); refine quiet_load_cell (by kernel_rfl) 3 _ rfl (ua.add j) (by first | rfl | (simp [Act.eval, Addr.add_mid])) (.int .i64 z) _ KU0.out Try.underlying3 rfl ?_; refine hK _ ?_; clear hK K; go_frame)
              (first | go_big_quiet_step (fail) | quiet_step (fail))
              (first | go_big_quiet_step (fail) | quiet_step (fail))
              (first | go_big_quiet_step (fail) | quiet_step (fail))
              (refine wpQuiet_step (fun K hK => ?_); refine quiet_load_cell (by kernel_rfl) 3 _ rfl (ub.add j) (by first | rfl | (simp [Act.eval, Addr.add_mid])) (.int .i64 z) _ KU1.out Try.underlying3 rfl ?_; refine hK _ ?_; clear hK K; go_frame)
              (first | go_big_quiet_step (fail) | quiet_step (fail))
              refine wpQuiet_nil ?_
              intro w9 hw9
              obtain ⟨⟨dq, osq⟩, rfl⟩ := hw9
              have HB9 := Lib.hid ((HBI.out).trans ((below_regrown wr dq osq).mono (HBI.out).size))
              generalize Sort.grow (redrawn wr dq) osq = w9b at *
              go_wp2
              go_roundw
              case rel => exact ⟨j + 1, by omega, by go_num, HB9⟩
              case measure => simp [intOf]; omega
            · obtain rfl : j = du := by omega
              have Kx1_1 := Lib.hid (old_below HVN1.out HBI.out (row_lt HVN1.out))
              have Kx2_2 := Lib.hid (old_below HVN2.out HBI.out (row_lt HVN2.out))
              have Tt1_3 := Lib.hid (HT1.out.below HBI.out)
              have Tt2_4 := Lib.hid (HT2.out.below HBI.out)
              have B_5 := Lib.hid (HBF.out.trans ((HBI.out).mono HBF.out.size))
              clear HVN1 HVN2 HT1 HT2 HBF
              rename World => wz
              obtain ⟨p, hp⟩ : ∃ p, T1.length = p := ⟨_, rfl⟩
              have HPL := Lib.hid hp
              obtain ⟨A1, c1, ht1, hr1, -, hl1, hc1⟩ := Tt1_3.out
              obtain ⟨A2, c2, ht2, hr2, -, hl2, hc2⟩ := Tt2_4.out
              rw [sh_len] at ht2 hl2
              rw [hp] at ht1 hl1 ht2 hl2
              subst ht1 ht2
              have HR1 := Lib.hid hr1.rd
              have HR2 := Lib.hid hr2.rd
              have hc1b : c1 ≤ 9223372036854775807 := by unfold maxLen at hc1; omega
              have hc2b : c2 ≤ 9223372036854775807 := by unfold maxLen at hc2; omega
              clear hp hr1 hr2 hc1 hc2
              obtain ⟨cx10, cx11⟩ := two_cells Kx1_1.out
              obtain ⟨cx20, cx21⟩ := two_cells Kx2_2.out
              have hsum : ((kn : Int) + 1) + (d : Int) = ((nd : Int) + 1) := by have := HND.out; omega
              go_wp2
              clear cx10 cx11 cx20 cx21
              go_loopw [146] (fun t146 wr => ∃ j : Nat, j ≤ p ∧ t146 = .int .i64 (j : Int) ∧ Hid (Below wz.heap.size wz wr)) (fun t146 _ => p - (intOf t146).toNat)
              case atStart => exact ⟨0, Nat.zero_le _, rfl, Lib.hid (Below.refl _ _)⟩
              case round =>
                obtain ⟨j, hj, rfl, HBI⟩ := hrel
                by_cases hlt2 : j < p
                · obtain ⟨y, hy⟩ : ∃ y, T1[j]? = some y := ⟨_, List.getElem?_eq_getElem (by rw [HPL.out]; exact hlt2)⟩
                  have hye := (low_sh HLN.out (n := kn + 1) (d := d) (by omega)) _ (List.mem_of_getElem? (sh_at (d := d) hy))
                  obtain ⟨yd, rfl, hKY⟩ := el_all tmE (Rs.below HR1.out HBI.out (Nat.le_refl _)) (by omega) hy
                  have HKY : Hid (∀ (q : Nat) v, (#[.int .i64 y.id, .int .u64 (y.due : Int)] : Array Value)[q]? = some v → wr.cell? ((yd.add (j * 2)).add q) = some v) := hKY wr (Below.refl _ _)
                  obtain ⟨zd, rfl, hKZ⟩ := el_all tmE (Rs.below HR2.out HBI.out (Nat.le_refl _)) (by omega) (sh_at (d := d) hy)
                  obtain ⟨ye, hye2⟩ : ∃ ye, y.due + d = ye := ⟨_, rfl⟩
                  have HKZ : Hid (∀ w', Below wr.heap.size wr w' → ∀ (q : Nat) v, (#[.int .i64 y.id, .int .u64 (ye : Int)] : Array Value)[q]? = some v → w'.cell? ((zd.add (j * 2)).add q) = some v) := by rw [← hye2]; exact hKZ
                  have hyb : ye < 18446744073709551616 := by have := hye.2; simp only at this; omega
                  have hysum : (y.due : Int) + (d : Int) = (ye : Int) := by omega
                  clear hy hKY hKZ hye
                  obtain ⟨wy, hwy⟩ : ∃ wy, wr.alloc (.cells #[.int .i64 y.id, .int .u64 (y.due : Int)] 53) = wy := ⟨_, rfl⟩
                  have HY5 : Hid (wy.heap[wr.heap.size]? = some (.cells #[.int .i64 y.id, .int .u64 (y.due : Int)] 53 (0, 0))) := by rw [← hwy]; exact heap_alloc_new wr _
                  have HX5 : Hid (wy.heap[g2]? = some (.cells #[.int .u64 ((nd : Int) + 1), .slice (some zd) p c2] 27 (0, 0))) := by rw [← hwy]; exact old_alloc (old_below Kx2_2.out HBI.out (row_lt Kx2_2.out)) _
                  have HBY : Hid (Below wr.heap.size wr wy) := by rw [← hwy]; exact (Below.refl _ _).alloc (Nat.le_refl _) _
                  have HB5 : Hid (Below wz.heap.size wz wy) := by rw [← hwy]; exact HBI.out.alloc HBI.out.size _
                  have HWY := Lib.hid hwy
                  clear hwy
                  go_upto_region 38 with (first | (refine wpList_load_atA rfl 53 _ rfl (yd.add (j * 2)) rfl #[.int .i64 y.id, .int .u64 (y.due : Int)] _ HKY.out Try.underlying53 rfl (by kernel_rfl) ?_) | (refine wpList_store_new rfl 53 _ _ rfl wr #[.int .i64 0, .int .u64 0] #[.int .i64 y.id, .int .u64 (y.due : Int)] rfl rfl (by kernel_rfl) rfl (by simp [Value.oneCell']) ?_) | go_in)
                  rw [HWY.out]
                  clear HWY HKY
                  generalize wr.heap.size = gy at HY5 ⊢
                  have KZ0 : Hid (∀ w', Reg wy w' → w'.cell? ((zd.add (j * 2)).add 0) = some (.int .i64 y.id)) := fun w' hr => HKZ.out w' (HBY.out.trans ((reg_below hr).mono HBY.out.size)) 0 _ rfl
                  have KZ1 : Hid (∀ w', Reg wy w' → w'.cell? ((zd.add (j * 2)).add 1) = some (.int .u64 (ye : Int))) := fun w' hr => HKZ.out w' (HBY.out.trans ((reg_below hr).mono HBY.out.size)) 1 _ rfl
                  have KY0 : Hid (∀ w', Reg wy w' → w'.cell? ⟨gy, 0, none⟩ = some (.int .i64 y.id)) := fun w' hr => (two_cells (old_below HY5.out (reg_below hr) (row_lt HY5.out))).1
                  have KY1 : Hid (∀ w', Reg wy w' → w'.cell? ⟨gy, 1, none⟩ = some (.int .u64 (y.due : Int))) := fun w' hr => (two_cells (old_below HY5.out (reg_below hr) (row_lt HY5.out))).2
                  have KX1 : Hid (∀ w', Reg wy w' → w'.cell? ⟨g2, 1, none⟩ = some (.slice (some zd) p c2)) := fun w' hr => (two_cells (old_below HX5.out (reg_below hr) (row_lt HX5.out))).2
                  refine wp_region_quiet_below (by kernel_rfl) (by kernel_rfl) ?_
                  (first | go_big_quiet_step (fail) | quiet_step (fail))
                  (refine wpQuiet_step (fun K hK => ?_); refine quiet_load_cell (by kernel_rfl) 25 _ rfl ⟨g2, 1, none⟩ (by first | rfl | (simp [Act.eval, Addr.add_mid])) (.slice (some zd) p c2) _ KX1.out Try.underlying25 rfl ?_; refine hK _ ?_; clear hK K; go_frame)
                  (first | go_big_quiet_step (fail) | quiet_step (fail))
                  (first | go_big_quiet_step (fail) | quiet_step (fail))
                  (first | go_big_quiet_step (fail) | quiet_step (fail))
                  (refine wpQuiet_step (fun K hK => ?_); refine quiet_load_cell (by kernel_rfl) 3 _ rfl ((zd.add (j * 2)).add 0) (by first | rfl | (simp [Act.eval, Addr.add_mid])) (.int .i64 y.id) _ KZ0.out Try.underlying3 rfl ?_; refine hK _ ?_; clear hK K; go_frame)
                  (first | go_big_quiet_step (fail) | quiet_step (fail))
                  (refine wpQuiet_step (fun K hK => ?_); refine quiet_load_cell (by kernel_rfl) 3 _ rfl ⟨gy, 0, none⟩ (by first | rfl | (simp [Act.eval, Addr.add_mid])) (.int .i64 y.id) _ KY0.out Try.underlying3 rfl ?_; refine hK _ ?_; clear hK K; go_frame)
                  (first | go_big_quiet_step (fail) | quiet_step (fail))
                  (first | go_big_quiet_step (fail) | quiet_step (fail))
                  (first | go_big_quiet_step (fail) | quiet_step (fail))
                  (refine wpQuiet_step (fun K hK => ?_); refine quiet_load_cell (by kernel_rfl) 25 _ rfl ⟨g2, 1, none⟩ (by first | rfl | (simp [Act.eval, Addr.add_mid])) (.slice (some zd) p c2) _ KX1.out Try.underlying25 rfl ?_; refine hK _ ?_; clear hK K; go_frame)
                  (first | go_big_quiet_step (fail) | quiet_step (fail))
                  (first | go_big_quiet_step (fail) | quiet_step (fail))
                  (first | go_big_quiet_step (fail) | quiet_step (fail))
                  (refine wpQuiet_step (fun K hK => ?_); refine quiet_load_cell (by kernel_rfl) 22 _ rfl ((zd.add (j * 2)).add 1) (by first | rfl | (simp [Act.eval, Addr.add_mid])) (.int .u64 (ye : Int)) _ KZ1.out Try.underlying22 rfl ?_; refine hK _ ?_; clear hK K; go_frame)
                  (first | go_big_quiet_step (fail) | quiet_step (fail))
                  (refine wpQuiet_step (fun K hK => ?_); refine quiet_load_cell (by kernel_rfl) 22 _ rfl ⟨gy, 1, none⟩ (by first | rfl | (simp [Act.eval, Addr.add_mid])) (.int .u64 (y.due : Int)) _ KY1.out Try.underlying22 rfl ?_; refine hK _ ?_; clear hK K; go_frame)
                  (first | go_big_quiet_step (fail) | quiet_step (fail))
                  (first | go_big_quiet_step (fail) | quiet_step (fail))
                  (first | go_big_quiet_step (fail) | quiet_step (fail))
                  (first | go_big_quiet_step (fail) | quiet_step (fail))
                  refine wpQuiet_nil ?_
                  intro w9 hw9
                  obtain ⟨⟨dq, osq⟩, rfl⟩ := hw9
                  have HB9 := Lib.hid ((HB5.out).trans ((below_regrown wy dq osq).mono (HB5.out).size))
                  generalize Sort.grow (redrawn wy dq) osq = w9b at *
                  go_wp2
                  go_roundw
                  case rel => exact ⟨j + 1, by omega, by go_num, HB9⟩
                  case measure => simp [intOf]; omega
                · obtain rfl : j = p := by omega
                  have Kx1_6 := Lib.hid (old_below Kx1_1.out HBI.out (row_lt Kx1_1.out))
                  have Kx2_7 := Lib.hid (old_below Kx2_2.out HBI.out (row_lt Kx2_2.out))
                  have Tt1_8 := Lib.hid (Tt1_3.out.below HBI.out)
                  have Tt2_9 := Lib.hid (Tt2_4.out.below HBI.out)
                  have B_10 := Lib.hid (B_5.out.trans ((HBI.out).mono B_5.out.size))
                  clear Kx1_1 Kx2_2 Tt1_3 Tt2_4 B_5
                  go_wp2
                  go_roundw
                  case rel => exact ⟨i + 1, kn + 1, nd + 1, T1, _, _, by omega, by go_num, by omega, by have := HND.out; omega, Kx1_6, Kx2_7, Tt1_8, Tt2_9, HRN, HLN, B_10⟩
                  case measure => simp [intOf]; omega
      · as_aux_lemma =>
          obtain ⟨co0, co1, co2⟩ := three_cells Ko_1.out
          go_upto_region 9 with (fail)
          clear co0 co1 co2
          have HND1 : Hid (nd + 1 = kn + 1 + d) := by have := HND.out; show _ = _; omega
          have HRN : Hid (rightW (kn + 1) (T.filter (notDue (kn + 1))) = true) := right_tick HR.out hk62
          have HLN : Hid (lowT (kn + 1) (T.filter (notDue (kn + 1)))) := low_next (low_filter HLO.out)
          have HCA : Hid (∀ w v, WhT w v kn T → Calls Try.prog 13 #[v] w fun e w' => ∃ v' u', e = .returned (.tuple #[v', u']) ∧ WhT w' v' (kn + 1) (T.filter (notDue (kn + 1))) ∧ InT w' u' (dueX (kn + 1) T) ∧ Below w.heap.size w w') := fun w v hv => tick_any v kn T w hv.whs HR.out HOA.out hk62
          have HCB : Hid (∀ w v, WhT w v nd (shT d T) → Calls Try.prog 13 #[v] w fun e w' => ∃ v' u', e = .returned (.tuple #[v', u']) ∧ WhT w' v' (nd + 1) (shT d (T.filter (notDue (kn + 1)))) ∧ InT w' u' (dueX (kn + 1) T) ∧ Below w.heap.size w w') := fun w v hv => by
            have e1 : (shT d T).filter (notDue (nd + 1)) = shT d (T.filter (notDue (kn + 1))) := by rw [HND1.out, sh_notDue]
            have e2 : dueX (nd + 1) (shT d T) = dueX (kn + 1) T := by rw [HND1.out, sh_due]
            have := tick_any v nd (shT d T) w hv.whs HRD.out HOB.out hnd62
            rw [e1, e2] at this
            exact this
          obtain ⟨T1, hT1⟩ : ∃ T1, T.filter (notDue (kn + 1)) = T1 := ⟨_, rfl⟩
          obtain ⟨D, hD⟩ : ∃ D, dueX (kn + 1) T = D := ⟨_, rfl⟩
          rw [hT1] at HRN HLN HCA HCB
          rw [hD] at HCA HCB
          clear hT1 hD
          go_wp2_with (refine wpList_load_row rfl 27 _ rfl g1 rfl 27 #[.int .u64 (kn : Int), s1] (0, 0) _ Kx1_2.out Try.underlying27 rfl (by kernel_rfl) ?_)
          refine (HCA.out _ _ ⟨_, rfl, Ts1_4.out⟩).mono ?_
          rintro e wc0 ⟨vc0, u0, rfl, hv, hu, hb⟩
          obtain ⟨tc0, rfl, ho, ht⟩ := hv.form
          have HOC0 := Lib.hid ho
          have TC0 := Lib.hid ht
          have U0 := Lib.hid hu
          have Kx1_7 := Lib.hid (old_below Kx1_2.out hb (row_lt Kx1_2.out))
          have Kx2_8 := Lib.hid (old_below Kx2_3.out hb (row_lt Kx2_3.out))
          have Ko_9 := Lib.hid (old_below Ko_1.out hb (row_lt Ko_1.out))
          have Ts1_10 := Lib.hid (Ts1_4.out.below hb)
          have Ts2_11 := Lib.hid (Ts2_5.out.below hb)
          have B_12 := Lib.hid (B_6.out.trans ((hb).mono B_6.out.size))
          clear Kx1_2 Kx2_3 Ko_1 Ts1_4 Ts2_5 B_6
          clear hv ho ht hb hu
          go_upto_region 10 with (first | (refine wpList_store_new rfl 27 _ _ rfl wc0 #[.int .u64 0, .slice none 0 0] #[.int .u64 ((kn : Int) + 1), tc0] rfl rfl (by kernel_rfl) rfl (wh_one HOC0.out) ?_) | go_in)
          have NE_x1_n1 : Hid (g1 ≠ wc0.heap.size) := by have := row_lt Kx1_7.out; show _ ≠ _; omega
          have NE_x2_n1 : Hid (g2 ≠ wc0.heap.size) := by have := row_lt Kx2_8.out; show _ ≠ _; omega
          have NE_o_n1 : Hid (go ≠ wc0.heap.size) := by have := row_lt Ko_9.out; show _ ≠ _; omega
          have GE_n1 := Lib.hid B_12.out.size
          have Kn1_13 : Hid ((wc0.alloc (.cells #[.int .u64 ((kn : Int) + 1), tc0] 27)).heap[wc0.heap.size]? = some (.cells #[.int .u64 ((kn : Int) + 1), tc0] 27 (0, 0))) := heap_alloc_new wc0 _
          have Kx1_14 : Hid ((wc0.alloc (.cells #[.int .u64 ((kn : Int) + 1), tc0] 27)).heap[g1]? = some (.cells #[.int .u64 (kn : Int), s1] 27 (0, 0))) := old_alloc Kx1_7.out _
          have Kx2_15 : Hid ((wc0.alloc (.cells #[.int .u64 ((kn : Int) + 1), tc0] 27)).heap[g2]? = some (.cells #[.int .u64 (nd : Int), s2] 27 (0, 0))) := old_alloc Kx2_8.out _
          have Ko_16 : Hid ((wc0.alloc (.cells #[.int .u64 ((kn : Int) + 1), tc0] 27)).heap[go]? = some (.cells #[.int .i64 kd, .int .i64 id, .int .u64 (af : Int)] 31 (0, 0))) := old_alloc Ko_9.out _
          have Ts1_17 : Hid (TsT (wc0.alloc (.cells #[.int .u64 ((kn : Int) + 1), tc0] 27)) s1 T) := Ts1_10.out.alloc _
          have Ts2_18 : Hid (TsT (wc0.alloc (.cells #[.int .u64 ((kn : Int) + 1), tc0] 27)) s2 (shT d T)) := Ts2_11.out.alloc _
          have Tt1_19 : Hid (TsT (wc0.alloc (.cells #[.int .u64 ((kn : Int) + 1), tc0] 27)) tc0 T1) := TC0.out.alloc _
          have Tu0_20 : Hid (InT (wc0.alloc (.cells #[.int .u64 ((kn : Int) + 1), tc0] 27)) u0 D) := U0.out.alloc _
          have B_21 := Lib.hid (B_12.out.alloc B_12.out.size (.cells #[.int .u64 ((kn : Int) + 1), tc0] 27))
          generalize (wc0.alloc (.cells #[.int .u64 ((kn : Int) + 1), tc0] 27)) = wd0 at Kn1_13 Kx1_14 Kx2_15 Ko_16 Ts1_17 Ts2_18 Tt1_19 Tu0_20 B_21 ⊢
          generalize wc0.heap.size = gn0 at Kn1_13 NE_x1_n1 NE_x2_n1 NE_o_n1 GE_n1 ⊢
          clear Kx1_7 Kx2_8 Ko_9 Ts1_10 Ts2_11 TC0 U0 B_12
          go_wp2_with (refine wpList_load_row rfl 27 _ rfl g2 rfl 27 #[.int .u64 (nd : Int), s2] (0, 0) _ Kx2_15.out Try.underlying27 rfl (by kernel_rfl) ?_)
          refine (HCB.out _ _ ⟨_, rfl, Ts2_18.out⟩).mono ?_
          rintro e wc1 ⟨vc1, u1, rfl, hv, hu, hb⟩
          obtain ⟨tc1, rfl, ho, ht⟩ := hv.form
          have HOC1 := Lib.hid ho
          have TC1 := Lib.hid ht
          have U1 := Lib.hid hu
          have Kx1_22 := Lib.hid (old_below Kx1_14.out hb (row_lt Kx1_14.out))
          have Kx2_23 := Lib.hid (old_below Kx2_15.out hb (row_lt Kx2_15.out))
          have Ko_24 := Lib.hid (old_below Ko_16.out hb (row_lt Ko_16.out))
          have Kn1_25 := Lib.hid (old_below Kn1_13.out hb (row_lt Kn1_13.out))
          have Ts1_26 := Lib.hid (Ts1_17.out.below hb)
          have Ts2_27 := Lib.hid (Ts2_18.out.below hb)
          have Tt1_28 := Lib.hid (Tt1_19.out.below hb)
          have Tu0_29 := Lib.hid (Tu0_20.out.below hb)
          have B_30 := Lib.hid (B_21.out.trans ((hb).mono B_21.out.size))
          clear Kx1_14 Kx2_15 Ko_16 Kn1_13 Ts1_17 Ts2_18 Tt1_19 Tu0_20 B_21
          clear hv ho ht hb hu
          go_upto_region 11 with (first | (refine wpList_store_new rfl 27 _ _ rfl wc1 #[.int .u64 0, .slice none 0 0] #[.int .u64 ((nd : Int) + 1), tc1] rfl rfl (by kernel_rfl) rfl (wh_one HOC1.out) ?_) | go_in)
          have NE_x1_n2 : Hid (g1 ≠ wc1.heap.size) := by have := row_lt Kx1_22.out; show _ ≠ _; omega
          have NE_x2_n2 : Hid (g2 ≠ wc1.heap.size) := by have := row_lt Kx2_23.out; show _ ≠ _; omega
          have NE_o_n2 : Hid (go ≠ wc1.heap.size) := by have := row_lt Ko_24.out; show _ ≠ _; omega
          have NE_n1_n2 : Hid (gn0 ≠ wc1.heap.size) := by have := row_lt Kn1_25.out; show _ ≠ _; omega
          have GE_n2 := Lib.hid B_30.out.size
          have Kn2_31 : Hid ((wc1.alloc (.cells #[.int .u64 ((nd : Int) + 1), tc1] 27)).heap[wc1.heap.size]? = some (.cells #[.int .u64 ((nd : Int) + 1), tc1] 27 (0, 0))) := heap_alloc_new wc1 _
          have Kx1_32 : Hid ((wc1.alloc (.cells #[.int .u64 ((nd : Int) + 1), tc1] 27)).heap[g1]? = some (.cells #[.int .u64 (kn : Int), s1] 27 (0, 0))) := old_alloc Kx1_22.out _
          have Kx2_33 : Hid ((wc1.alloc (.cells #[.int .u64 ((nd : Int) + 1), tc1] 27)).heap[g2]? = some (.cells #[.int .u64 (nd : Int), s2] 27 (0, 0))) := old_alloc Kx2_23.out _
          have Ko_34 : Hid ((wc1.alloc (.cells #[.int .u64 ((nd : Int) + 1), tc1] 27)).heap[go]? = some (.cells #[.int .i64 kd, .int .i64 id, .int .u64 (af : Int)] 31 (0, 0))) := old_alloc Ko_24.out _
          have Kn1_35 : Hid ((wc1.alloc (.cells #[.int .u64 ((nd : Int) + 1), tc1] 27)).heap[gn0]? = some (.cells #[.int .u64 ((kn : Int) + 1), tc0] 27 (0, 0))) := old_alloc Kn1_25.out _
          have Ts1_36 : Hid (TsT (wc1.alloc (.cells #[.int .u64 ((nd : Int) + 1), tc1] 27)) s1 T) := Ts1_26.out.alloc _
          have Ts2_37 : Hid (TsT (wc1.alloc (.cells #[.int .u64 ((nd : Int) + 1), tc1] 27)) s2 (shT d T)) := Ts2_27.out.alloc _
          have Tt1_38 : Hid (TsT (wc1.alloc (.cells #[.int .u64 ((nd : Int) + 1), tc1] 27)) tc0 T1) := Tt1_28.out.alloc _
          have Tu0_39 : Hid (InT (wc1.alloc (.cells #[.int .u64 ((nd : Int) + 1), tc1] 27)) u0 D) := Tu0_29.out.alloc _
          have Tt2_40 : Hid (TsT (wc1.alloc (.cells #[.int .u64 ((nd : Int) + 1), tc1] 27)) tc1 (shT d T1)) := TC1.out.alloc _
          have Tu1_41 : Hid (InT (wc1.alloc (.cells #[.int .u64 ((nd : Int) + 1), tc1] 27)) u1 D) := U1.out.alloc _
          have B_42 := Lib.hid (B_30.out.alloc B_30.out.size (.cells #[.int .u64 ((nd : Int) + 1), tc1] 27))
          generalize (wc1.alloc (.cells #[.int .u64 ((nd : Int) + 1), tc1] 27)) = wd1 at Kn2_31 Kx1_32 Kx2_33 Ko_34 Kn1_35 Ts1_36 Ts2_37 Tt1_38 Tu0_39 Tt2_40 Tu1_41 B_42 ⊢
          generalize wc1.heap.size = gn1 at Kn2_31 NE_x1_n2 NE_x2_n2 NE_o_n2 NE_n1_n2 GE_n2 ⊢
          clear Kx1_22 Kx2_23 Ko_24 Kn1_25 Ts1_26 Ts2_27 Tt1_28 Tu0_29 TC1 U1 B_30
          apply wp_region_relyG [2, 3] (OldT wd1 2 g1 27 #[.int .u64 (kn : Int), s1] #[.int .u64 ((kn : Int) + 1), tc0] 3 g2 27 #[.int .u64 (nd : Int), s2] #[.int .u64 ((nd : Int) + 1), tc1]) (RL [Is (.agg #[.int .u64 ((kn : Int) + 1), tc0]), Is (.agg #[.int .u64 ((nd : Int) + 1), tc1]), Any, Any]) [false, false, false, false, false, false, false, false, false, false, false, false, false, false, false, false, false, false, false, false, false, false, false, false, false, false, false, false, false, false, false, false, false, false, false, false, false, false, false, false, false, false, false, false, false, false, false, false, false, false, false, false, false, false, false, false, false, false, true, true, false, false, false, false, false, false, false, false, false, false, false, false, false, false, false, false, false, false, false, false, false, false, false, false, false, false, false, false, false, false, false, false, false, false, false, false, false, false, false, false, false, false, false, false, false, false, false, false, false, false, false, false, false, false, false, false, false, false, false, false, false, false, false, false, false, false, false, false, false, false, false, false, false, false, false, false, false, false, false, false, false, false, false, false, false, false, false, false, false, false, false, false, false, false, false, false, false, false, false, false, false, false, false, false, false, false, false, false, false, false, false, false, false, false, false]
          · kernel_rfl
          · kernel_rfl
          · kernel_rfl
          · refine ⟨?_, ?_, ?_, ?_, trivial⟩
            · intro L ev w' hC hL hx K hK
              have e18 : ev (.tmp 18) = _ := hx.base 18 (by kernel_rfl)
              have HK := Lib.hid hK
              have HC := Lib.hid hC
              have HL := Lib.hid hL
              have HX := Lib.hid hx
              have hc := hx.cst
              skip
              clear hx hK hC hL
              have q1 : ev (.tmp 18) = .pointer (some ⟨gn0, 0, none⟩) := e18
              have hld := run_loadVar_row (P := Try.prog) w' gn0 27 27 #[.int .u64 ((kn : Int) + 1), tc0] (0, 0) _ (HC.out.keep Kn1_35.out (Ne.symm NE_x1_n1.out) (Ne.symm NE_x2_n1.out)) Try.underlying27 rfl (by kernel_rfl)
              unfold Run
              rw [rely_load 27 _ rfl q1 hld]
              exact HK.out _ _ (.inl ⟨Below.refl _ _, by decide⟩) rfl
            · intro L ev w' hC hL hx K hK
              have e20 : ev (.tmp 20) = _ := hx.base 20 (by kernel_rfl)
              have HK := Lib.hid hK
              have HC := Lib.hid hC
              have HL := Lib.hid hL
              have HX := Lib.hid hx
              have hc := hx.cst
              skip
              clear hx hK hC hL
              have q1 : ev (.tmp 20) = .pointer (some ⟨gn1, 0, none⟩) := e20
              have hld := run_loadVar_row (P := Try.prog) w' gn1 27 27 #[.int .u64 ((nd : Int) + 1), tc1] (0, 0) _ (HC.out.keep Kn2_31.out (Ne.symm NE_x1_n2.out) (Ne.symm NE_x2_n2.out)) Try.underlying27 rfl (by kernel_rfl)
              unfold Run
              rw [rely_load 27 _ rfl q1 hld]
              exact HK.out _ _ (.inl ⟨Below.refl _ _, by decide⟩) rfl
            · intro L ev w' hC hL hx K hK
              have e6 : ev (.tmp 6) = _ := hx.base 6 (by kernel_rfl)
              have e58 := hx.held 0 _ rfl (by kernel_rfl)
              change ev (.tmp 58) = _ at e58
              have HK := Lib.hid hK
              have HC := Lib.hid hC
              have HL := Lib.hid hL
              have HX := Lib.hid hx
              have hc := hx.cst
              skip
              clear hx hK hC hL
              have qv : ev (.tmp 58) = .agg #[.int .u64 ((kn : Int) + 1), tc0] := e58
              have nst : L 2 = false := HL.out
              have qp : ev (.tmp 6) = .pointer (some ⟨g1, 0, none⟩) := e6
              have hgh := HC.out.old1 nst
              have hnv := HC.out.store1 nst rfl NE_x1_x2.out (by decide)
              have hst := run_storeVar_row (P := Try.prog) w' g1 27 27 #[.int .u64 (kn : Int), s1] #[.int .u64 ((kn : Int) + 1), tc0] hgh (by kernel_rfl) rfl (wh_one HOC0.out)
              unfold Run
              rw [rely_store 27 _ _ rfl qp qv hst]
              refine HK.out _ _ (.inr ⟨hnv, fun j hj hlj u hr => ?_⟩) trivial
              rcases j with _ | _ | _ | _ | j
              · exact hr
              · exact hr
              · exact absurd rfl hj
              · exact trivial
              · exact trivial
            · intro L ev w' hC hL hx K hK
              have e7 : ev (.tmp 7) = _ := hx.base 7 (by kernel_rfl)
              have e59 := hx.held 1 _ rfl (by kernel_rfl)
              change ev (.tmp 59) = _ at e59
              have HK := Lib.hid hK
              have HC := Lib.hid hC
              have HL := Lib.hid hL
              have HX := Lib.hid hx
              have hc := hx.cst
              skip
              clear hx hK hC hL
              have qv : ev (.tmp 59) = .agg #[.int .u64 ((nd : Int) + 1), tc1] := e59
              have nst : L 3 = false := HL.out
              have qp : ev (.tmp 7) = .pointer (some ⟨g2, 0, none⟩) := e7
              have hgh := HC.out.old2 nst
              have hnv := HC.out.store2 nst rfl NE_x1_x2.out (by decide)
              have hst := run_storeVar_row (P := Try.prog) w' g2 27 27 #[.int .u64 (nd : Int), s2] #[.int .u64 ((nd : Int) + 1), tc1] hgh (by kernel_rfl) rfl (wh_one HOC1.out)
              unfold Run
              rw [rely_store 27 _ _ rfl qp qv hst]
              refine HK.out _ _ (.inr ⟨hnv, fun j hj hlj u hr => ?_⟩) trivial
              rcases j with _ | _ | _ | _ | j
              · exact hr
              · exact hr
              · exact trivial
              · exact absurd rfl hj
              · exact trivial
          · exact rl_mono ⟨is_mono _, is_mono _, any_mono, any_mono, trivial⟩
          · exact fun L L' w' h1 hg => hg.agree (h1 2 (by simp)) (h1 3 (by simp))
          · exact fun L w' w'' hb hg => hg.below hb
          · exact OldT.start Kx1_32.out Kx2_33.out
          · simp
          intro us wr hG hH
          obtain ⟨-, -, -, -, -⟩ := hH
          simp only [fillM]
          obtain ⟨hG9, hvn1, hvn2⟩ := hG
          have HVN1 : Hid (wr.heap[g1]? = some (.cells #[.int .u64 ((kn : Int) + 1), tc0] 27 (0, 0))) := hvn1
          have HVN2 : Hid (wr.heap[g2]? = some (.cells #[.int .u64 ((nd : Int) + 1), tc1] 27 (0, 0))) := hvn2
          have HG9 := Lib.hid hG9
          clear hG9 hvn1 hvn2
          generalize us 58 = v58
          generalize us 59 = v59
          have HT1 := Lib.hid (tl_gro2 Tt1_38.out HG9.out Kx1_32.out Kx2_33.out (by decide) (by decide))
          have HT2 := Lib.hid (tl_gro2 Tt2_40.out HG9.out Kx1_32.out Kx2_33.out (by decide) (by decide))
          have HU1 := Lib.hid (tl_gro2 Tu0_39.out HG9.out Kx1_32.out Kx2_33.out (by decide) (by decide))
          have HU2 := Lib.hid (tl_gro2 Tu1_41.out HG9.out Kx1_32.out Kx2_33.out (by decide) (by decide))
          have HBF := Lib.hid (B_42.out.trans (HG9.out.below HGE.out B_42.out.size))
          clear Kx1_32 Kx2_33 Ko_34 Kn1_35 Kn2_31 Ts1_36 Ts2_37 Tt1_38 Tu0_39 Tt2_40 Tu1_41 B_42
          obtain ⟨Au, cu, rfl, hru, -, hlu, hcu⟩ := HU1.out
          obtain ⟨Av, cv, rfl, hrv, -, hlv, hcv⟩ := HU2.out
          obtain ⟨du, hdu⟩ : ∃ du, D.length = du := ⟨_, rfl⟩
          have HDL := Lib.hid hdu
          rw [hdu] at hlu hlv ⊢
          have hcu2 : cu ≤ 9223372036854775807 := by unfold maxLen at hcu; omega
          have hcv2 : cv ≤ 9223372036854775807 := by unfold maxLen at hcv; omega
          have HRU := Lib.hid hru.rd
          have HRV := Lib.hid hrv.rd
          clear hru hrv hcu hcv hdu HU1 HU2
          rename World => wf
          go_wp2
          go_loopw [67] (fun t67 wr => ∃ j : Nat, j ≤ du ∧ t67 = .int .i64 (j : Int) ∧ Hid (Below wf.heap.size wf wr)) (fun t67 _ => du - (intOf t67).toNat)
          case atStart => exact ⟨0, Nat.zero_le _, rfl, Lib.hid (Below.refl _ _)⟩
          case round =>
            obtain ⟨j, hj, rfl, HBI⟩ := hrel
            by_cases hltj : j < du
            · obtain ⟨z, hz⟩ : ∃ z, D[j]? = some z := ⟨_, List.getElem?_eq_getElem (by rw [HDL.out]; exact hltj)⟩
              obtain ⟨ua, rfl, hua⟩ := el_one1 inE (Rs.below HRU.out HBI.out (Nat.le_refl _)) hz (v := .int .i64 z) rfl
              obtain ⟨ub, rfl, hub⟩ := el_one1 inE (Rs.below HRV.out HBI.out (Nat.le_refl _)) hz (v := .int .i64 z) rfl
              have KU0 : Hid (∀ w', Reg wr w' → w'.cell? (ua.add j) = some (.int .i64 z)) := fun w' hr => hua w' (reg_below hr)
              have KU1 : Hid (∀ w', Reg wr w' → w'.cell? (ub.add j) = some (.int .i64 z)) := fun w' hr => hub w' (reg_below hr)
              clear hz hua hub
              go_upto_region 17 with (fail)
              refine wp_region_quiet_below (by kernel_rfl) (by kernel_rfl) ?_
              (first | go_big_quiet_step (fail) | quiet_step (fail))
              (first | go_big_quiet_step (fail) | quiet_step (fail))
              (first | go_big_quiet_step (fail) | quiet_step (fail))
              (refine wpQuiet_step (fun K hK => ?_); refine quiet_load_cell (by kernel_rfl) 3 _ rfl (ua.add j) (by first | rfl | (simp [Act.eval, Addr.add_mid])) (.int .i64 z) _ KU0.out Try.underlying3 rfl ?_; refine hK _ ?_; clear hK K; go_frame)
              (first | go_big_quiet_step (fail) | quiet_step (fail))
              (first | go_big_quiet_step (fail) | quiet_step (fail))
              (first | go_big_quiet_step (fail) | quiet_step (fail))
              (refine wpQuiet_step (fun K hK => ?_); refine quiet_load_cell (by kernel_rfl) 3 _ rfl (ub.add j) (by first | rfl | (simp [Act.eval, Addr.add_mid])) (.int .i64 z) _ KU1.out Try.underlying3 rfl ?_; refine hK _ ?_; clear hK K; go_frame)
              (first | go_big_quiet_step (fail) | quiet_step (fail))
              refine wpQuiet_nil ?_
              intro w9 hw9
              obtain ⟨⟨dq, osq⟩, rfl⟩ := hw9
              have HB9 := Lib.hid ((HBI.out).trans ((below_regrown wr dq osq).mono (HBI.out).size))
              generalize Sort.grow (redrawn wr dq) osq = w9b at *
              go_wp2
              go_roundw
              case rel => exact ⟨j + 1, by omega, by go_num, HB9⟩
              case measure => simp [intOf]; omega
            · obtain rfl : j = du := by omega
              have Kx1_1 := Lib.hid (old_below HVN1.out HBI.out (row_lt HVN1.out))
              have Kx2_2 := Lib.hid (old_below HVN2.out HBI.out (row_lt HVN2.out))
              have Tt1_3 := Lib.hid (HT1.out.below HBI.out)
              have Tt2_4 := Lib.hid (HT2.out.below HBI.out)
              have B_5 := Lib.hid (HBF.out.trans ((HBI.out).mono HBF.out.size))
              clear HVN1 HVN2 HT1 HT2 HBF
              rename World => wz
              obtain ⟨p, hp⟩ : ∃ p, T1.length = p := ⟨_, rfl⟩
              have HPL := Lib.hid hp
              obtain ⟨A1, c1, ht1, hr1, -, hl1, hc1⟩ := Tt1_3.out
              obtain ⟨A2, c2, ht2, hr2, -, hl2, hc2⟩ := Tt2_4.out
              rw [sh_len] at ht2 hl2
              rw [hp] at ht1 hl1 ht2 hl2
              subst ht1 ht2
              have HR1 := Lib.hid hr1.rd
              have HR2 := Lib.hid hr2.rd
              have hc1b : c1 ≤ 9223372036854775807 := by unfold maxLen at hc1; omega
              have hc2b : c2 ≤ 9223372036854775807 := by unfold maxLen at hc2; omega
              clear hp hr1 hr2 hc1 hc2
              obtain ⟨cx10, cx11⟩ := two_cells Kx1_1.out
              obtain ⟨cx20, cx21⟩ := two_cells Kx2_2.out
              have hsum : ((kn : Int) + 1) + (d : Int) = ((nd : Int) + 1) := by have := HND.out; omega
              go_wp2
              clear cx10 cx11 cx20 cx21
              go_loopw [146] (fun t146 wr => ∃ j : Nat, j ≤ p ∧ t146 = .int .i64 (j : Int) ∧ Hid (Below wz.heap.size wz wr)) (fun t146 _ => p - (intOf t146).toNat)
              case atStart => exact ⟨0, Nat.zero_le _, rfl, Lib.hid (Below.refl _ _)⟩
              case round =>
                obtain ⟨j, hj, rfl, HBI⟩ := hrel
                by_cases hlt2 : j < p
                · obtain ⟨y, hy⟩ : ∃ y, T1[j]? = some y := ⟨_, List.getElem?_eq_getElem (by rw [HPL.out]; exact hlt2)⟩
                  have hye := (low_sh HLN.out (n := kn + 1) (d := d) (by omega)) _ (List.mem_of_getElem? (sh_at (d := d) hy))
                  obtain ⟨yd, rfl, hKY⟩ := el_all tmE (Rs.below HR1.out HBI.out (Nat.le_refl _)) (by omega) hy
                  have HKY : Hid (∀ (q : Nat) v, (#[.int .i64 y.id, .int .u64 (y.due : Int)] : Array Value)[q]? = some v → wr.cell? ((yd.add (j * 2)).add q) = some v) := hKY wr (Below.refl _ _)
                  obtain ⟨zd, rfl, hKZ⟩ := el_all tmE (Rs.below HR2.out HBI.out (Nat.le_refl _)) (by omega) (sh_at (d := d) hy)
                  obtain ⟨ye, hye2⟩ : ∃ ye, y.due + d = ye := ⟨_, rfl⟩
                  have HKZ : Hid (∀ w', Below wr.heap.size wr w' → ∀ (q : Nat) v, (#[.int .i64 y.id, .int .u64 (ye : Int)] : Array Value)[q]? = some v → w'.cell? ((zd.add (j * 2)).add q) = some v) := by rw [← hye2]; exact hKZ
                  have hyb : ye < 18446744073709551616 := by have := hye.2; simp only at this; omega
                  have hysum : (y.due : Int) + (d : Int) = (ye : Int) := by omega
                  clear hy hKY hKZ hye
                  obtain ⟨wy, hwy⟩ : ∃ wy, wr.alloc (.cells #[.int .i64 y.id, .int .u64 (y.due : Int)] 53) = wy := ⟨_, rfl⟩
                  have HY5 : Hid (wy.heap[wr.heap.size]? = some (.cells #[.int .i64 y.id, .int .u64 (y.due : Int)] 53 (0, 0))) := by rw [← hwy]; exact heap_alloc_new wr _
                  have HX5 : Hid (wy.heap[g2]? = some (.cells #[.int .u64 ((nd : Int) + 1), .slice (some zd) p c2] 27 (0, 0))) := by rw [← hwy]; exact old_alloc (old_below Kx2_2.out HBI.out (row_lt Kx2_2.out)) _
                  have HBY : Hid (Below wr.heap.size wr wy) := by rw [← hwy]; exact (Below.refl _ _).alloc (Nat.le_refl _) _
                  have HB5 : Hid (Below wz.heap.size wz wy) := by rw [← hwy]; exact HBI.out.alloc HBI.out.size _
                  have HWY := Lib.hid hwy
                  clear hwy
                  go_upto_region 38 with (first | (refine wpList_load_atA rfl 53 _ rfl (yd.add (j * 2)) rfl #[.int .i64 y.id, .int .u64 (y.due : Int)] _ HKY.out Try.underlying53 rfl (by kernel_rfl) ?_) | (refine wpList_store_new rfl 53 _ _ rfl wr #[.int .i64 0, .int .u64 0] #[.int .i64 y.id, .int .u64 (y.due : Int)] rfl rfl (by kernel_rfl) rfl (by simp [Value.oneCell']) ?_) | go_in)
                  rw [HWY.out]
                  clear HWY HKY
                  generalize wr.heap.size = gy at HY5 ⊢
                  have KZ0 : Hid (∀ w', Reg wy w' → w'.cell? ((zd.add (j * 2)).add 0) = some (.int .i64 y.id)) := fun w' hr => HKZ.out w' (HBY.out.trans ((reg_below hr).mono HBY.out.size)) 0 _ rfl
                  have KZ1 : Hid (∀ w', Reg wy w' → w'.cell? ((zd.add (j * 2)).add 1) = some (.int .u64 (ye : Int))) := fun w' hr => HKZ.out w' (HBY.out.trans ((reg_below hr).mono HBY.out.size)) 1 _ rfl
                  have KY0 : Hid (∀ w', Reg wy w' → w'.cell? ⟨gy, 0, none⟩ = some (.int .i64 y.id)) := fun w' hr => (two_cells (old_below HY5.out (reg_below hr) (row_lt HY5.out))).1
                  have KY1 : Hid (∀ w', Reg wy w' → w'.cell? ⟨gy, 1, none⟩ = some (.int .u64 (y.due : Int))) := fun w' hr => (two_cells (old_below HY5.out (reg_below hr) (row_lt HY5.out))).2
                  have KX1 : Hid (∀ w', Reg wy w' → w'.cell? ⟨g2, 1, none⟩ = some (.slice (some zd) p c2)) := fun w' hr => (two_cells (old_below HX5.out (reg_below hr) (row_lt HX5.out))).2
                  refine wp_region_quiet_below (by kernel_rfl) (by kernel_rfl) ?_
                  (first | go_big_quiet_step (fail) | quiet_step (fail))
                  (refine wpQuiet_step (fun K hK => ?_); refine quiet_load_cell (by kernel_rfl) 25 _ rfl ⟨g2, 1, none⟩ (by first | rfl | (simp [Act.eval, Addr.add_mid])) (.slice (some zd) p c2) _ KX1.out Try.underlying25 rfl ?_; refine hK _ ?_; clear hK K; go_frame)
                  (first | go_big_quiet_step (fail) | quiet_step (fail))
                  (first | go_big_quiet_step (fail) | quiet_step (fail))
                  (first | go_big_quiet_step (fail) | quiet_step (fail))
                  (refine wpQuiet_step (fun K hK => ?_); refine quiet_load_cell (by kernel_rfl) 3 _ rfl ((zd.add (j * 2)).add 0) (by first | rfl | (simp [Act.eval, Addr.add_mid])) (.int .i64 y.id) _ KZ0.out Try.underlying3 rfl ?_; refine hK _ ?_; clear hK K; go_frame)
                  (first | go_big_quiet_step (fail) | quiet_step (fail))
                  (refine wpQuiet_step (fun K hK => ?_); refine quiet_load_cell (by kernel_rfl) 3 _ rfl ⟨gy, 0, none⟩ (by first | rfl | (simp [Act.eval, Addr.add_mid])) (.int .i64 y.id) _ KY0.out Try.underlying3 rfl ?_; refine hK _ ?_; clear hK K; go_frame)
                  (first | go_big_quiet_step (fail) | quiet_step (fail))
                  (first | go_big_quiet_step (fail) | quiet_step (fail))
                  (first | go_big_quiet_step (fail) | quiet_step (fail))
                  (refine wpQuiet_step (fun K hK => ?_); refine quiet_load_cell (by kernel_rfl) 25 _ rfl ⟨g2, 1, none⟩ (by first | rfl | (simp [Act.eval, Addr.add_mid])) (.slice (some zd) p c2) _ KX1.out Try.underlying25 rfl ?_; refine hK _ ?_; clear hK K; go_frame)
                  (first | go_big_quiet_step (fail) | quiet_step (fail))
                  (first | go_big_quiet_step (fail) | quiet_step (fail))
                  (first | go_big_quiet_step (fail) | quiet_step (fail))
                  (refine wpQuiet_step (fun K hK => ?_); refine quiet_load_cell (by kernel_rfl) 22 _ rfl ((zd.add (j * 2)).add 1) (by first | rfl | (simp [Act.eval, Addr.add_mid])) (.int .u64 (ye : Int)) _ KZ1.out Try.underlying22 rfl ?_; refine hK _ ?_; clear hK K; go_frame)
                  (first | go_big_quiet_step (fail) | quiet_step (fail))
                  (refine wpQuiet_step (fun K hK => ?_); refine quiet_load_cell (by kernel_rfl) 22 _ rfl ⟨gy, 1, none⟩ (by first | rfl | (simp [Act.eval, Addr.add_mid])) (.int .u64 (y.due : Int)) _ KY1.out Try.underlying22 rfl ?_; refine hK _ ?_; clear hK K; go_frame)
                  (first | go_big_quiet_step (fail) | quiet_step (fail))
                  (first | go_big_quiet_step (fail) | quiet_step (fail))
                  (first | go_big_quiet_step (fail) | quiet_step (fail))
                  (first | go_big_quiet_step (fail) | quiet_step (fail))
                  refine wpQuiet_nil ?_
                  intro w9 hw9
                  obtain ⟨⟨dq, osq⟩, rfl⟩ := hw9
                  have HB9 := Lib.hid ((HB5.out).trans ((below_regrown wy dq osq).mono (HB5.out).size))
                  generalize Sort.grow (redrawn wy dq) osq = w9b at *
                  go_wp2
                  go_roundw
                  case rel => exact ⟨j + 1, by omega, by go_num, HB9⟩
                  case measure => simp [intOf]; omega
                · obtain rfl : j = p := by omega
                  have Kx1_6 := Lib.hid (old_below Kx1_1.out HBI.out (row_lt Kx1_1.out))
                  have Kx2_7 := Lib.hid (old_below Kx2_2.out HBI.out (row_lt Kx2_2.out))
                  have Tt1_8 := Lib.hid (Tt1_3.out.below HBI.out)
                  have Tt2_9 := Lib.hid (Tt2_4.out.below HBI.out)
                  have B_10 := Lib.hid (B_5.out.trans ((HBI.out).mono B_5.out.size))
                  clear Kx1_1 Kx2_2 Tt1_3 Tt2_4 B_5
                  go_wp2
                  go_roundw
                  case rel => exact ⟨i + 1, kn + 1, nd + 1, T1, _, _, by omega, by go_num, by omega, by have := HND.out; omega, Kx1_6, Kx2_7, Tt1_8, Tt2_9, HRN, HLN, B_10⟩
                  case measure => simp [intOf]; omega
    · obtain rfl : i = m := by omega
      go_wp2
      go_ret
      exact ⟨rfl, BW.out⟩
end Go.Proofs.Ytljochpomgjjeaa
