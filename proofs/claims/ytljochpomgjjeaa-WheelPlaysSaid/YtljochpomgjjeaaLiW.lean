/-
  The chapter's example answers true; the law WheelRight: every wheel.
-/
import Derived.Test.YtljochpomgjjeaaRwc
namespace Go.Proofs.Ytljochpomgjjeaa
open Go.RowKit

def lv1 : List Tm := [⟨1, 2⟩]
def lv2 : List Tm := [⟨2, 1⟩, ⟨1, 2⟩]
def lv3 : List Tm := [⟨2, 1⟩, ⟨1, 2⟩, ⟨3, 2⟩]
def lv4 : List Tm := [⟨1, 2⟩, ⟨3, 2⟩]
theorem lvs1 : setC 0 [] 1 2 = (lv1, 0) := by decide +kernel
theorem lvs2 : setC 0 lv1 2 1 = (lv2, 0) := by decide +kernel
theorem lvs3 : setC 0 lv2 3 2 = (lv3, 0) := by decide +kernel
theorem lvd1 : dueX 1 lv3 = [2] := by decide +kernel
theorem lvr1 : lv3.filter (notDue 1) = lv4 := by decide +kernel
theorem lvd2 : dueX 2 lv4 = [1, 3] := by decide +kernel
theorem lvr2 : lv4.filter (notDue 2) = [] := by decide +kernel
def okT (T : List Tm) : Prop := ∀ t ∈ T, I64 t.id ∧ t.due < 18446744073709551616
theorem okT_small {T : List Tm} (h : T.all (fun t => decide (-9223372036854775808 ≤ t.id ∧ t.id ≤ 9223372036854775807 ∧ t.due < 18446744073709551616)) = true) : okT T := fun t ht => by
  have := of_decide_eq_true (List.all_eq_true.1 h t ht)
  exact ⟨⟨this.1, this.2.1⟩, this.2.2⟩
theorem WhT.form {w : World} {v : Value} {n : Nat} {T : List Tm} (h : WhT w v n T) : ∃ s, v = .agg #[.int .u64 (n : Int), s] ∧ s.oneCell' = true ∧ TsT w s T := by
  obtain ⟨s, e, h1⟩ := h
  exact ⟨s, e, h1.one, h1⟩
set_option maxRecDepth 100000 in
set_option maxHeartbeats 8000000 in
theorem lives_any (w : World) : Calls Try.prog 7 #[] w fun e w' => e = .returned (.bool true) ∧ Below w.heap.size w w' := by
  have HS1 : Hid (∀ w, Calls Try.prog 9 #[.agg #[.int .u64 0, .slice none 0 0], .int .i64 1, .int .u64 2] w fun e w' => ∃ v', e = .returned (.tuple #[v', .int .i64 0]) ∧ WhT w' v' 0 lv1 ∧ Below w.heap.size w w') := fun w => by
    have := set_any (.agg #[.int .u64 0, .slice none 0 0]) 0 [] 1 2 w ⟨_, rfl, SlT.nil⟩ (by decide) (okT_small rfl) (by unfold I64; decide) (by decide)
    rw [lvs1] at this
    exact this
  have HS2 : Hid (∀ v w, WhT w v 0 lv1 → Calls Try.prog 9 #[v, .int .i64 2, .int .u64 1] w fun e w' => ∃ v', e = .returned (.tuple #[v', .int .i64 0]) ∧ WhT w' v' 0 lv2 ∧ Below w.heap.size w w') := fun v w hv => by
    have := set_any v 0 lv1 2 1 w hv.whs (by decide) (okT_small rfl) (by unfold I64; decide) (by decide)
    rw [lvs2] at this
    exact this
  have HS3 : Hid (∀ v w, WhT w v 0 lv2 → Calls Try.prog 9 #[v, .int .i64 3, .int .u64 2] w fun e w' => ∃ v', e = .returned (.tuple #[v', .int .i64 0]) ∧ WhT w' v' 0 lv3 ∧ Below w.heap.size w w') := fun v w hv => by
    have := set_any v 0 lv2 3 2 w hv.whs (by decide) (okT_small rfl) (by unfold I64; decide) (by decide)
    rw [lvs3] at this
    exact this
  have HT1 : Hid (∀ v w, WhT w v 0 lv3 → Calls Try.prog 13 #[v] w fun e w' => ∃ v' u', e = .returned (.tuple #[v', u']) ∧ WhT w' v' 1 lv4 ∧ InT w' u' [2] ∧ Below w.heap.size w w') := fun v w hv => by
    have := tick_any v 0 lv3 w hv.whs (by decide) (okT_small rfl) (by decide)
    rw [lvd1, lvr1] at this
    exact this
  have HT2 : Hid (∀ v w, WhT w v 1 lv4 → Calls Try.prog 13 #[v] w fun e w' => ∃ v' u', e = .returned (.tuple #[v', u']) ∧ WhT w' v' 2 [] ∧ InT w' u' [1, 3] ∧ Below w.heap.size w w') := fun v w hv => by
    have := tick_any v 1 lv4 w hv.whs (by decide) (okT_small rfl) (by decide)
    rw [lvd2, lvr2] at this
    exact this
  go_enter Try.func7, Try.ntmps7
  go_wp2_with fail
  refine (HS1.out _).mono ?_
  rintro e w1 ⟨v1, rfl, hv1, hb1⟩
  obtain ⟨s1, rfl, ho1, ht1⟩ := hv1.form
  have HB1 := Lib.hid hb1
  have HA1 := Lib.hid ht1
  clear hv1 ht1 hb1 HS1
  go_upto_region 2 with (first | (refine wpList_store_new rfl 27 _ _ rfl w1 #[.int .u64 0, .slice none 0 0] #[.int .u64 0, s1] rfl rfl (by kernel_rfl) rfl (wh_one ho1) ?_) | go_in)
  have HX2 : Hid ((w1.alloc (.cells #[.int .u64 0, s1] 27)).heap[w1.heap.size]? = some (.cells #[.int .u64 0, s1] 27 (0, 0))) := heap_alloc_new w1 _
  have HV2 : Hid (WhT (w1.alloc (.cells #[.int .u64 0, s1] 27)) (.agg #[.int .u64 0, s1]) 0 lv1) := ⟨s1, rfl, HA1.out.alloc _⟩
  have HB2 := Lib.hid (HB1.out.alloc HB1.out.size (.cells #[.int .u64 0, s1] 27))
  have HGE := Lib.hid HB1.out.size
  generalize w1.alloc (.cells #[.int .u64 0, s1] 27) = w2 at HX2 HV2 HB2 ⊢
  generalize w1.heap.size = g at HX2 HGE ⊢
  clear HB1 HA1
  go_wp2_with (refine wpList_load_row rfl 27 _ rfl g rfl 27 #[.int .u64 0, s1] (0, 0) _ HX2.out Try.underlying27 rfl (by kernel_rfl) ?_)
  refine (HS2.out _ _ HV2.out).mono ?_
  rintro e wa3 ⟨va3, rfl, hv, hb⟩
  obtain ⟨sb3, rfl, ho3, ht⟩ := hv.form
  have HXa3 := Lib.hid (old_below HX2.out hb (row_lt HX2.out))
  have HBa3 := Lib.hid (HB2.out.trans (hb.mono HB2.out.size))
  have HTa3 := Lib.hid ht
  clear hv ht hb HX2 HV2 HB2 HS2
  go_upto_region 3 with (first | (refine wpList_store_row rfl 27 _ _ rfl g #[.int .u64 0, sb3] rfl rfl 27 #[.int .u64 0, s1] HXa3.out (by kernel_rfl) rfl (wh_one ho3) ?_) | go_in)
  have HX3 : Hid ((wa3.setRow g #[.int .u64 0, sb3]).heap[g]? = some (.cells #[.int .u64 0, sb3] 27 (0, 0))) := setRow_heap _ _ _ _ _ _ HXa3.out
  have HV3 : Hid (WhT (wa3.setRow g #[.int .u64 0, sb3]) (.agg #[.int .u64 0, sb3]) 0 lv2) := ⟨sb3, rfl, HTa3.out.setRow HXa3.out (by decide) _⟩
  have HB3 := Lib.hid (below_setRow HBa3.out HGE.out #[.int .u64 0, sb3])
  generalize wa3.setRow g #[.int .u64 0, sb3] = w3 at HX3 HV3 HB3 ⊢
  clear HXa3 HBa3 HTa3
  go_wp2_with (refine wpList_load_row rfl 27 _ rfl g rfl 27 #[.int .u64 0, sb3] (0, 0) _ HX3.out Try.underlying27 rfl (by kernel_rfl) ?_)
  refine (HS3.out _ _ HV3.out).mono ?_
  rintro e wa4 ⟨va4, rfl, hv, hb⟩
  obtain ⟨sb4, rfl, ho4, ht⟩ := hv.form
  have HXa4 := Lib.hid (old_below HX3.out hb (row_lt HX3.out))
  have HBa4 := Lib.hid (HB3.out.trans (hb.mono HB3.out.size))
  have HTa4 := Lib.hid ht
  clear hv ht hb HX3 HV3 HB3 HS3
  go_upto_region 4 with (first | (refine wpList_store_row rfl 27 _ _ rfl g #[.int .u64 0, sb4] rfl rfl 27 #[.int .u64 0, sb3] HXa4.out (by kernel_rfl) rfl (wh_one ho4) ?_) | go_in)
  have HX4 : Hid ((wa4.setRow g #[.int .u64 0, sb4]).heap[g]? = some (.cells #[.int .u64 0, sb4] 27 (0, 0))) := setRow_heap _ _ _ _ _ _ HXa4.out
  have HV4 : Hid (WhT (wa4.setRow g #[.int .u64 0, sb4]) (.agg #[.int .u64 0, sb4]) 0 lv3) := ⟨sb4, rfl, HTa4.out.setRow HXa4.out (by decide) _⟩
  have HB4 := Lib.hid (below_setRow HBa4.out HGE.out #[.int .u64 0, sb4])
  generalize wa4.setRow g #[.int .u64 0, sb4] = w4 at HX4 HV4 HB4 ⊢
  clear HXa4 HBa4 HTa4
  go_wp2_with (refine wpList_load_row rfl 27 _ rfl g rfl 27 #[.int .u64 0, sb4] (0, 0) _ HX4.out Try.underlying27 rfl (by kernel_rfl) ?_)
  refine (HT1.out _ _ HV4.out).mono ?_
  rintro e wa5 ⟨va5, u5, rfl, hv, hu, hb⟩
  obtain ⟨sb5, rfl, ho5, ht⟩ := hv.form
  have HXa5 := Lib.hid (old_below HX4.out hb (row_lt HX4.out))
  have HBa5 := Lib.hid (HB4.out.trans (hb.mono HB4.out.size))
  have HTa5 := Lib.hid ht
  have HU5a := Lib.hid hu
  clear hv ht hb HX4 HV4 HB4 HT1 hu
  go_upto_region 5 with (first | (refine wpList_store_row rfl 27 _ _ rfl g #[.int .u64 1, sb5] rfl rfl 27 #[.int .u64 0, sb4] HXa5.out (by kernel_rfl) rfl (wh_one ho5) ?_) | go_in)
  have HX5 : Hid ((wa5.setRow g #[.int .u64 1, sb5]).heap[g]? = some (.cells #[.int .u64 1, sb5] 27 (0, 0))) := setRow_heap _ _ _ _ _ _ HXa5.out
  have HV5 : Hid (WhT (wa5.setRow g #[.int .u64 1, sb5]) (.agg #[.int .u64 1, sb5]) 1 lv4) := ⟨sb5, rfl, HTa5.out.setRow HXa5.out (by decide) _⟩
  have HB5 := Lib.hid (below_setRow HBa5.out HGE.out #[.int .u64 1, sb5])
  have HU5 : Hid (InT (wa5.setRow g #[.int .u64 1, sb5]) u5 [2]) := HU5a.out.setRow HXa5.out (by decide) _
  generalize wa5.setRow g #[.int .u64 1, sb5] = w5 at HX5 HV5 HB5 HU5 ⊢
  clear HXa5 HBa5 HTa5 HU5a
  go_wp2_with (refine wpList_load_row rfl 27 _ rfl g rfl 27 #[.int .u64 1, sb5] (0, 0) _ HX5.out Try.underlying27 rfl (by kernel_rfl) ?_)
  refine (HT2.out _ _ HV5.out).mono ?_
  rintro e wa6 ⟨va6, u6, rfl, hv, hu, hb⟩
  obtain ⟨sb6, rfl, ho6, ht⟩ := hv.form
  have HXa6 := Lib.hid (old_below HX5.out hb (row_lt HX5.out))
  have HBa6 := Lib.hid (HB5.out.trans (hb.mono HB5.out.size))
  have HTa6 := Lib.hid ht
  have HU6a := Lib.hid hu
  have HU5b := Lib.hid (HU5.out.below hb)
  clear hv ht hb HX5 HV5 HB5 HT2 hu
  obtain ⟨A5, c5, rfl, ht5, -, hl5, hc5⟩ := HU5b.out
  obtain ⟨A6, c6, rfl, ht6, -, hl6, hc6⟩ := HU6a.out
  have hl5b : 1 ≤ c5 := hl5
  have hl6b : 2 ≤ c6 := hl6
  have hc5b : c5 ≤ 9223372036854775807 := by unfold maxLen at hc5; omega
  have hc6b : c6 ≤ 9223372036854775807 := by unfold maxLen at hc6; omega
  obtain ⟨a5, rfl, hk5⟩ := el_one1 inE ht5.rd (i := 0) (a := (2 : Int)) rfl (v := .int .i64 2) rfl
  obtain ⟨a6, rfl, hk6⟩ := el_one1 inE ht6.rd (i := 0) (a := (1 : Int)) rfl (v := .int .i64 1) rfl
  obtain ⟨a6', he6, hk7⟩ := el_one1 inE ht6.rd (i := 1) (a := (3 : Int)) rfl (v := .int .i64 3) rfl
  injection he6 with he6
  subst he6
  go_upto_region 6 with (first | (refine wpList_store_new rfl 27 _ _ rfl wa6 #[.int .u64 0, .slice none 0 0] #[.int .u64 2, sb6] rfl rfl (by kernel_rfl) rfl (wh_one ho6) ?_) | go_in)
  have HB7 := Lib.hid (HBa6.out.alloc HBa6.out.size (.cells #[.int .u64 2, sb6] 27))
  have hbn := (Below.refl wa6.heap.size wa6).alloc (Nat.le_refl _) (.cells #[.int .u64 2, sb6] 27)
  have c50 := hk5 _ hbn
  have c60 := hk6 _ hbn
  have c61 := hk7 _ hbn
  generalize wa6.alloc (.cells #[.int .u64 2, sb6] 27) = w7 at HB7 c50 c60 c61 ⊢
  have c50b : w7.cell? a5 = some (.int .i64 2) := c50
  have c60b : w7.cell? a6 = some (.int .i64 1) := c60
  have c61b : w7.cell? ⟨a6.block, a6.off + 1, none⟩ = some (.int .i64 3) := c61
  clear hk5 hk6 hk7 hbn hc5 hc6 ht5 ht6 hl5 hl6
  go_wp2
  go_ret
  exact ⟨rfl, HB7.out⟩
theorem pair_snoc {R : Tm → Tm → Prop} {T : List Tm} {i : Nat} {x : Tm} (h : T[i]? = some x) : (T.take (i + 1)).Pairwise R ↔ (T.take i).Pairwise R ∧ ∀ a ∈ T.take i, R a x := by
  have hi := (List.getElem?_eq_some_iff.1 h).1
  rw [List.take_succ_eq_append_getElem hi, (List.getElem?_eq_some_iff.1 h).2, List.pairwise_append]
  simp
theorem all_snoc {p : Tm → Prop} {T : List Tm} {i : Nat} {x : Tm} (h : T[i]? = some x) : (∀ t ∈ T.take (i + 1), p t) ↔ (∀ t ∈ T.take i, p t) ∧ p x := by
  have hi := (List.getElem?_eq_some_iff.1 h).1
  rw [List.take_succ_eq_append_getElem hi, (List.getElem?_eq_some_iff.1 h).2]
  simp [or_imp, forall_and]
set_option maxRecDepth 100000 in
set_option maxHeartbeats 16000000 in
theorem rightlaw_any (v : Value) (n : Nat) (T : List Tm) (w : World) (hv : WhS w v n T) (hn : n < 18446744073709551616) (hT : okT T) (hl : T.length ≤ 140737488351232) :
    Calls Try.prog 5 #[v] w fun e w' => e = .returned (.bool true) ∧ Below w.heap.size w w' := by
  have HV := Lib.hid hv
  obtain ⟨s, rfl, A, c, rfl, htr, -, hnc, hcm⟩ := hv
  obtain ⟨m, hm⟩ : ∃ m, T.length = m := ⟨_, rfl⟩
  have HM := Lib.hid hm
  rw [hm] at hnc HV hl ⊢
  have hcm2 : c ≤ 9223372036854775807 := by unfold maxLen at hcm; omega
  have HTR := Lib.hid htr
  have HOK := Lib.hid hT
  obtain ⟨w1, hw1⟩ : ∃ w1, w.alloc (.cells #[.int .u64 (n : Int), .slice A m c] 27) = w1 := ⟨_, rfl⟩
  have HB1 : Hid (Below w.heap.size w w1) := by rw [← hw1]; exact (Below.refl _ _).alloc (Nat.le_refl _) _
  have HX1 : Hid (w1.heap[w.heap.size]? = some (.cells #[.int .u64 (n : Int), .slice A m c] 27 (0, 0))) := by rw [← hw1]; exact heap_alloc_new w _
  have HW := Lib.hid hw1
  clear hm htr hcm hw1 hT
  go_enter Try.func5, Try.ntmps5
  go_upto_region 1 with (fail)
  change Code.wp _ _ _ _ (w.alloc (.cells #[.int .u64 (n : Int), .slice A m c] 27))
  rw [HW.out]
  clear HW
  go_wp2_with fail
  refine (lives_any _).mono ?_
  rintro e w2 ⟨rfl, hb2⟩
  have HX2 := Lib.hid (old_below HX1.out hb2 (row_lt HX1.out))
  have HB2 := Lib.hid (HB1.out.trans (hb2.mono HB1.out.size))
  clear hb2 HX1 HB1
  obtain ⟨a0, a1⟩ := two_cells HX2.out
  by_cases h100 : 100 < m
  · have h100b : (100 : Int) < (m : Int) := by omega
    go_wp2_with fail
    refine (lives_any _).mono ?_
    rintro e w3 ⟨rfl, hb3⟩
    have HB3 := Lib.hid (HB2.out.trans (hb3.mono HB2.out.size))
    clear hb3 a0 a1
    go_wp2
    go_ret
    exact ⟨rfl, HB3.out⟩
  have h100b : ¬ (100 : Int) < (m : Int) := by omega
  have HT2 := Lib.hid (HTR.out.below HB2.out (Nat.le_refl _))
  by_cases h64 : m ≤ 64
  · have h64b : (m : Int) ≤ 64 := by omega
    by_cases hn62 : n ≤ 4611686018427387904
    · have hn62b : (n : Int) ≤ 4611686018427387904 := by omega
      go_wp2
      go_loopw [3, 29] (fun t3 t29 wr => ∃ (i : Nat) (b : Bool), i ≤ m ∧ t29 = .int .i64 (i : Int) ∧ t3 = .bool b ∧ Hid (b = true ↔ (m ≤ 64 ∧ n ≤ 4611686018427387904) ∧ (T.take i).Pairwise before ∧ ∀ t ∈ T.take i, n < t.due) ∧ Hid (Below w2.heap.size w2 wr)) (fun _ t29 _ => m - (intOf t29).toNat)
      case atStart => exact ⟨0, true, Nat.zero_le _, rfl, by first | rfl | simp [*], Lib.hid ⟨fun _ => ⟨⟨h64, hn62⟩, by simp, by simp⟩, fun _ => rfl⟩, Lib.hid (Below.refl _ _)⟩
      case round =>
        clear a0 a1
        obtain ⟨i, b, hi, rfl, rfl, HP, HBW⟩ := hrel
        have HXW := Lib.hid (old_below HX2.out HBW.out (row_lt HX2.out))
        obtain ⟨a0, a1⟩ := two_cells HXW.out
        by_cases hlt : i < m
        · obtain ⟨x, hx⟩ : ∃ x, T[i]? = some x := ⟨_, List.getElem?_eq_getElem (by rw [HM.out]; exact hlt)⟩
          obtain ⟨ad, rfl, hKA⟩ := el_all tmE (HT2.out.below HBW.out (Nat.le_refl _)) (by omega) hx
          have HKC : Hid (∀ (j : Nat) v, (#[.int .i64 x.id, .int .u64 (x.due : Int)] : Array Value)[j]? = some v → wr.cell? ((ad.add (i * 2)).add j) = some v) := hKA wr (Below.refl _ _)
          have HPS := Lib.hid (pair_snoc (R := before) hx)
          have HAS := Lib.hid (all_snoc (p := fun t => n < t.due) hx)
          clear hx hKA
          obtain ⟨w4, hw4⟩ : ∃ w4, wr.alloc (.cells #[.int .i64 x.id, .int .u64 (x.due : Int)] 53) = w4 := ⟨_, rfl⟩
          have HY4 : Hid (w4.heap[wr.heap.size]? = some (.cells #[.int .i64 x.id, .int .u64 (x.due : Int)] 53 (0, 0))) := by rw [← hw4]; exact heap_alloc_new wr _
          have HX4 : Hid (w4.heap[w.heap.size]? = some (.cells #[.int .u64 (n : Int), .slice (some ad) m c] 27 (0, 0))) := by rw [← hw4]; exact old_alloc HXW.out _
          have HB4 : Hid (Below w2.heap.size w2 w4) := by rw [← hw4]; exact HBW.out.alloc HBW.out.size _
          have HW4 := Lib.hid hw4
          clear hw4
          go_upto_region 7 with (first | (refine wpList_load_atA rfl 53 _ rfl (ad.add (i * 2)) rfl #[.int .i64 x.id, .int .u64 (x.due : Int)] _ HKC.out Try.underlying53 rfl (by kernel_rfl) ?_) | (refine wpList_store_new rfl 53 _ _ rfl wr #[.int .i64 0, .int .u64 0] #[.int .i64 x.id, .int .u64 (x.due : Int)] rfl rfl (by kernel_rfl) rfl (by simp [Value.oneCell']) ?_) | go_in)
          rw [HW4.out]
          clear HW4 HKC a0 a1 HXW
          generalize wr.heap.size = gx at HY4 ⊢
          obtain ⟨a0, a1⟩ := two_cells HX4.out
          have hic : i ≤ c := by omega
          rename World => wo
          go_wp2
          go_loopw [3, 39] (fun t3 t39 wr => ∃ (k : Nat) (b2 : Bool), k ≤ i ∧ t39 = .int .i64 (k : Int) ∧ t3 = .bool b2 ∧ Hid (b2 = true ↔ b = true ∧ ∀ a ∈ (T.take i).take k, before a x) ∧ Hid (Below wo.heap.size wo wr)) (fun _ t39 _ => i - (intOf t39).toNat)
          case atStart => exact ⟨0, b, Nat.zero_le _, rfl, rfl, Lib.hid (by simp), Lib.hid (Below.refl _ _)⟩
          case round =>
            clear a0 a1
            obtain ⟨k, b2, hk, rfl, rfl, HP2, HBI⟩ := hrel
            have HXI := Lib.hid (old_below HX4.out HBI.out (row_lt HX4.out))
            have HYI := Lib.hid (old_below HY4.out HBI.out (row_lt HY4.out))
            obtain ⟨a0, a1⟩ := two_cells HXI.out
            obtain ⟨b0, b1⟩ := two_cells HYI.out
            by_cases hlt2 : k < i
            · obtain ⟨y, hy⟩ : ∃ y, T[k]? = some y := ⟨_, List.getElem?_eq_getElem (by rw [HM.out]; omega)⟩
              have hy2 : (T.take i)[k]? = some y := by rw [List.getElem?_take, if_pos hlt2]; exact hy
              have hkm : k < m := by omega
              obtain ⟨ad', had, hKA⟩ := el_all tmE ((HT2.out.below HB4.out (Nat.le_refl _)).below HBI.out (Nat.le_refl _)) (by omega) hy
              injection had with had
              subst had
              have HKC : Hid (∀ (j : Nat) v, (#[.int .i64 y.id, .int .u64 (y.due : Int)] : Array Value)[j]? = some v → wr.cell? ((ad.add (k * 2)).add j) = some v) := hKA wr (Below.refl _ _)
              have HAS2 := Lib.hid (all_snoc (p := fun a => before a x) hy2)
              clear hy hy2 hKA
              obtain ⟨w5, hw5⟩ : ∃ w5, wr.alloc (.cells #[.int .i64 y.id, .int .u64 (y.due : Int)] 53) = w5 := ⟨_, rfl⟩
              have HZ5 : Hid (w5.heap[wr.heap.size]? = some (.cells #[.int .i64 y.id, .int .u64 (y.due : Int)] 53 (0, 0))) := by rw [← hw5]; exact heap_alloc_new wr _
              have HY5 : Hid (w5.heap[gx]? = some (.cells #[.int .i64 x.id, .int .u64 (x.due : Int)] 53 (0, 0))) := by rw [← hw5]; exact old_alloc HYI.out _
              have HB5 : Hid (Below wo.heap.size wo w5) := by rw [← hw5]; exact HBI.out.alloc HBI.out.size _
              have HW5 := Lib.hid hw5
              clear hw5
              go_upto_region 10 with (first | (refine wpList_load_atA rfl 53 _ rfl (ad.add (k * 2)) rfl #[.int .i64 y.id, .int .u64 (y.due : Int)] _ HKC.out Try.underlying53 rfl (by kernel_rfl) ?_) | (refine wpList_store_new rfl 53 _ _ rfl wr #[.int .i64 0, .int .u64 0] #[.int .i64 y.id, .int .u64 (y.due : Int)] rfl rfl (by kernel_rfl) rfl (by simp [Value.oneCell']) ?_) | go_in)
              rw [HW5.out]
              clear HW5 HKC a0 a1 b0 b1
              generalize wr.heap.size = gy at HZ5 ⊢
              obtain ⟨b0, b1⟩ := two_cells HY5.out
              obtain ⟨c0, c1⟩ := two_cells HZ5.out
              cases b2
              · go_wp2
                go_roundw
                case rel => exact ⟨k + 1, false, by omega, by go_num, rfl, Lib.hid ⟨fun h => (by cases h), fun h => absurd (HP2.out.2 ⟨h.1, (HAS2.out.1 h.2).1⟩) (by decide)⟩, HB5⟩
                case measure => simp [intOf]; omega
              · have HP3 : Hid (before y x ↔ b = true ∧ ∀ a ∈ (T.take i).take (k + 1), before a x) := by
                  show _ ↔ _
                  rw [HAS2.out]
                  have := HP2.out.1 rfl
                  exact ⟨fun h => ⟨this.1, this.2, h⟩, fun h => h.2.2⟩
                by_cases hid : y.id = x.id
                · have HF : Hid (¬ before y x) := fun h => h.1 hid
                  go_wp2
                  go_roundw
                  case rel => exact ⟨k + 1, false, by omega, by go_num, rfl, Lib.hid ⟨fun h => (by cases h), fun h => absurd (HP3.out.2 h) HF.out⟩, HB5⟩
                  case measure => simp [intOf]; omega
                · have hidb : (y.id != x.id) = true := by simp [hid]
                  by_cases hdue : y.due ≤ x.due
                  · have hduei : (y.due : Int) ≤ (x.due : Int) := by omega
                    have HF : Hid (before y x) := ⟨hid, hdue⟩
                    go_wp2
                    go_roundw
                    case rel => exact ⟨k + 1, true, by omega, by go_num, rfl, Lib.hid ⟨fun _ => HP3.out.1 HF.out, fun _ => rfl⟩, HB5⟩
                    case measure => simp [intOf]; omega
                  · have hduei : ¬ (y.due : Int) ≤ (x.due : Int) := by omega
                    have HF : Hid (¬ before y x) := fun h => hdue h.2
                    go_wp2
                    go_roundw
                    case rel => exact ⟨k + 1, false, by omega, by go_num, rfl, Lib.hid ⟨fun h => (by cases h), fun h => absurd (HP3.out.2 h) HF.out⟩, HB5⟩
                    case measure => simp [intOf]; omega
            · obtain rfl : k = i := by omega
              have HTK : Hid ((T.take k).take k = T.take k) := by show _ = _; rw [List.take_take, Nat.min_self]
              rw [HTK.out] at HP2
              have HB6 := Lib.hid (HB4.out.trans (HBI.out.mono HB4.out.size))
              have HP3 : Hid ((b2 = true ∧ n < x.due) ↔ (m ≤ 64 ∧ n ≤ 4611686018427387904) ∧ (T.take (k + 1)).Pairwise before ∧ ∀ t ∈ T.take (k + 1), n < t.due) := by
                show _ ↔ _
                rw [HPS.out, HAS.out, HP2.out, HP.out]
                constructor
                · rintro ⟨⟨⟨h1, h2, h3⟩, h4⟩, h5⟩
                  exact ⟨h1, ⟨h2, h4⟩, h3, h5⟩
                · rintro ⟨h1, ⟨h2, h4⟩, h3, h5⟩
                  exact ⟨⟨⟨h1, h2, h3⟩, h4⟩, h5⟩
              cases b2
              · go_wp2
                go_roundw
                case rel => exact ⟨k + 1, false, by omega, by go_num, rfl, Lib.hid ⟨fun h => (by cases h), fun h => (HP3.out.2 h).1⟩, HB6⟩
                case measure => simp [intOf]; omega
              · by_cases hdn : n < x.due
                · have hdni : (n : Int) < (x.due : Int) := by omega
                  go_wp2
                  go_roundw
                  case rel => exact ⟨k + 1, true, by omega, by go_num, rfl, Lib.hid ⟨fun _ => HP3.out.1 ⟨rfl, hdn⟩, fun _ => rfl⟩, HB6⟩
                  case measure => simp [intOf]; omega
                · have hdni : ¬ (n : Int) < (x.due : Int) := by omega
                  go_wp2
                  go_roundw
                  case rel => exact ⟨k + 1, false, by omega, by go_num, rfl, Lib.hid ⟨fun h => (by cases h), fun h => absurd (HP3.out.2 h).2 hdn⟩, HB6⟩
                  case measure => simp [intOf]; omega
        · obtain rfl : i = m := by omega
          have HTK : Hid (T.take i = T) := List.take_of_length_le (Nat.le_of_eq HM.out)
          rw [HTK.out] at HP
          have HBZ := Lib.hid (HB2.out.trans (HBW.out.mono HB2.out.size))
          have HVB : Hid (rightW n T = b) := by
            show _ = _
            rw [Bool.eq_iff_iff, rightW_iff, HP.out, HM.out]
            exact ⟨fun h => ⟨⟨h.1, h.2.1⟩, h.2.2⟩, fun h => ⟨h.1.1, h.1.2, h.2⟩⟩
          have HRI : Hid (Calls Try.prog 16 #[.agg #[.int .u64 (n : Int), .slice A i c]] wr fun e w' => e = .returned (.bool b) ∧ Below wr.heap.size wr w') := by
            have := right_any _ n T wr (HV.out.below HBZ.out (Nat.le_refl _)) hn HOK.out (by rw [HM.out]; omega)
            rw [HVB.out] at this
            exact this
          go_wp2_with (refine wpList_load_row rfl 27 _ rfl w.heap.size rfl 27 #[.int .u64 (n : Int), .slice A i c] (0, 0) _ HXW.out Try.underlying27 rfl (by kernel_rfl) ?_)
          refine HRI.out.mono ?_
          rintro e w8 ⟨rfl, hb8⟩
          have HB8 := Lib.hid (HBZ.out.trans (hb8.mono HBZ.out.size))
          clear hb8 a0 a1
          cases b
          · go_wp2
            go_ret
            exact ⟨rfl, HB8.out⟩
          · go_wp2
            go_ret
            exact ⟨rfl, HB8.out⟩
    · have hn62b : ¬ (n : Int) ≤ 4611686018427387904 := by omega
      go_wp2
      go_loopw [3, 29] (fun t3 t29 wr => ∃ (i : Nat) (b : Bool), i ≤ m ∧ t29 = .int .i64 (i : Int) ∧ t3 = .bool b ∧ Hid (b = true ↔ (m ≤ 64 ∧ n ≤ 4611686018427387904) ∧ (T.take i).Pairwise before ∧ ∀ t ∈ T.take i, n < t.due) ∧ Hid (Below w2.heap.size w2 wr)) (fun _ t29 _ => m - (intOf t29).toNat)
      case atStart => exact ⟨0, false, Nat.zero_le _, rfl, by first | rfl | simp [*], Lib.hid ⟨fun h => (by cases h), fun h => absurd h.1.2 hn62⟩, Lib.hid (Below.refl _ _)⟩
      case round =>
        clear a0 a1
        obtain ⟨i, b, hi, rfl, rfl, HP, HBW⟩ := hrel
        have HXW := Lib.hid (old_below HX2.out HBW.out (row_lt HX2.out))
        obtain ⟨a0, a1⟩ := two_cells HXW.out
        by_cases hlt : i < m
        · obtain ⟨x, hx⟩ : ∃ x, T[i]? = some x := ⟨_, List.getElem?_eq_getElem (by rw [HM.out]; exact hlt)⟩
          obtain ⟨ad, rfl, hKA⟩ := el_all tmE (HT2.out.below HBW.out (Nat.le_refl _)) (by omega) hx
          have HKC : Hid (∀ (j : Nat) v, (#[.int .i64 x.id, .int .u64 (x.due : Int)] : Array Value)[j]? = some v → wr.cell? ((ad.add (i * 2)).add j) = some v) := hKA wr (Below.refl _ _)
          have HPS := Lib.hid (pair_snoc (R := before) hx)
          have HAS := Lib.hid (all_snoc (p := fun t => n < t.due) hx)
          clear hx hKA
          obtain ⟨w4, hw4⟩ : ∃ w4, wr.alloc (.cells #[.int .i64 x.id, .int .u64 (x.due : Int)] 53) = w4 := ⟨_, rfl⟩
          have HY4 : Hid (w4.heap[wr.heap.size]? = some (.cells #[.int .i64 x.id, .int .u64 (x.due : Int)] 53 (0, 0))) := by rw [← hw4]; exact heap_alloc_new wr _
          have HX4 : Hid (w4.heap[w.heap.size]? = some (.cells #[.int .u64 (n : Int), .slice (some ad) m c] 27 (0, 0))) := by rw [← hw4]; exact old_alloc HXW.out _
          have HB4 : Hid (Below w2.heap.size w2 w4) := by rw [← hw4]; exact HBW.out.alloc HBW.out.size _
          have HW4 := Lib.hid hw4
          clear hw4
          go_upto_region 7 with (first | (refine wpList_load_atA rfl 53 _ rfl (ad.add (i * 2)) rfl #[.int .i64 x.id, .int .u64 (x.due : Int)] _ HKC.out Try.underlying53 rfl (by kernel_rfl) ?_) | (refine wpList_store_new rfl 53 _ _ rfl wr #[.int .i64 0, .int .u64 0] #[.int .i64 x.id, .int .u64 (x.due : Int)] rfl rfl (by kernel_rfl) rfl (by simp [Value.oneCell']) ?_) | go_in)
          rw [HW4.out]
          clear HW4 HKC a0 a1 HXW
          generalize wr.heap.size = gx at HY4 ⊢
          obtain ⟨a0, a1⟩ := two_cells HX4.out
          have hic : i ≤ c := by omega
          rename World => wo
          go_wp2
          go_loopw [3, 39] (fun t3 t39 wr => ∃ (k : Nat) (b2 : Bool), k ≤ i ∧ t39 = .int .i64 (k : Int) ∧ t3 = .bool b2 ∧ Hid (b2 = true ↔ b = true ∧ ∀ a ∈ (T.take i).take k, before a x) ∧ Hid (Below wo.heap.size wo wr)) (fun _ t39 _ => i - (intOf t39).toNat)
          case atStart => exact ⟨0, b, Nat.zero_le _, rfl, rfl, Lib.hid (by simp), Lib.hid (Below.refl _ _)⟩
          case round =>
            clear a0 a1
            obtain ⟨k, b2, hk, rfl, rfl, HP2, HBI⟩ := hrel
            have HXI := Lib.hid (old_below HX4.out HBI.out (row_lt HX4.out))
            have HYI := Lib.hid (old_below HY4.out HBI.out (row_lt HY4.out))
            obtain ⟨a0, a1⟩ := two_cells HXI.out
            obtain ⟨b0, b1⟩ := two_cells HYI.out
            by_cases hlt2 : k < i
            · obtain ⟨y, hy⟩ : ∃ y, T[k]? = some y := ⟨_, List.getElem?_eq_getElem (by rw [HM.out]; omega)⟩
              have hy2 : (T.take i)[k]? = some y := by rw [List.getElem?_take, if_pos hlt2]; exact hy
              have hkm : k < m := by omega
              obtain ⟨ad', had, hKA⟩ := el_all tmE ((HT2.out.below HB4.out (Nat.le_refl _)).below HBI.out (Nat.le_refl _)) (by omega) hy
              injection had with had
              subst had
              have HKC : Hid (∀ (j : Nat) v, (#[.int .i64 y.id, .int .u64 (y.due : Int)] : Array Value)[j]? = some v → wr.cell? ((ad.add (k * 2)).add j) = some v) := hKA wr (Below.refl _ _)
              have HAS2 := Lib.hid (all_snoc (p := fun a => before a x) hy2)
              clear hy hy2 hKA
              obtain ⟨w5, hw5⟩ : ∃ w5, wr.alloc (.cells #[.int .i64 y.id, .int .u64 (y.due : Int)] 53) = w5 := ⟨_, rfl⟩
              have HZ5 : Hid (w5.heap[wr.heap.size]? = some (.cells #[.int .i64 y.id, .int .u64 (y.due : Int)] 53 (0, 0))) := by rw [← hw5]; exact heap_alloc_new wr _
              have HY5 : Hid (w5.heap[gx]? = some (.cells #[.int .i64 x.id, .int .u64 (x.due : Int)] 53 (0, 0))) := by rw [← hw5]; exact old_alloc HYI.out _
              have HB5 : Hid (Below wo.heap.size wo w5) := by rw [← hw5]; exact HBI.out.alloc HBI.out.size _
              have HW5 := Lib.hid hw5
              clear hw5
              go_upto_region 10 with (first | (refine wpList_load_atA rfl 53 _ rfl (ad.add (k * 2)) rfl #[.int .i64 y.id, .int .u64 (y.due : Int)] _ HKC.out Try.underlying53 rfl (by kernel_rfl) ?_) | (refine wpList_store_new rfl 53 _ _ rfl wr #[.int .i64 0, .int .u64 0] #[.int .i64 y.id, .int .u64 (y.due : Int)] rfl rfl (by kernel_rfl) rfl (by simp [Value.oneCell']) ?_) | go_in)
              rw [HW5.out]
              clear HW5 HKC a0 a1 b0 b1
              generalize wr.heap.size = gy at HZ5 ⊢
              obtain ⟨b0, b1⟩ := two_cells HY5.out
              obtain ⟨c0, c1⟩ := two_cells HZ5.out
              cases b2
              · go_wp2
                go_roundw
                case rel => exact ⟨k + 1, false, by omega, by go_num, rfl, Lib.hid ⟨fun h => (by cases h), fun h => absurd (HP2.out.2 ⟨h.1, (HAS2.out.1 h.2).1⟩) (by decide)⟩, HB5⟩
                case measure => simp [intOf]; omega
              · have HP3 : Hid (before y x ↔ b = true ∧ ∀ a ∈ (T.take i).take (k + 1), before a x) := by
                  show _ ↔ _
                  rw [HAS2.out]
                  have := HP2.out.1 rfl
                  exact ⟨fun h => ⟨this.1, this.2, h⟩, fun h => h.2.2⟩
                by_cases hid : y.id = x.id
                · have HF : Hid (¬ before y x) := fun h => h.1 hid
                  go_wp2
                  go_roundw
                  case rel => exact ⟨k + 1, false, by omega, by go_num, rfl, Lib.hid ⟨fun h => (by cases h), fun h => absurd (HP3.out.2 h) HF.out⟩, HB5⟩
                  case measure => simp [intOf]; omega
                · have hidb : (y.id != x.id) = true := by simp [hid]
                  by_cases hdue : y.due ≤ x.due
                  · have hduei : (y.due : Int) ≤ (x.due : Int) := by omega
                    have HF : Hid (before y x) := ⟨hid, hdue⟩
                    go_wp2
                    go_roundw
                    case rel => exact ⟨k + 1, true, by omega, by go_num, rfl, Lib.hid ⟨fun _ => HP3.out.1 HF.out, fun _ => rfl⟩, HB5⟩
                    case measure => simp [intOf]; omega
                  · have hduei : ¬ (y.due : Int) ≤ (x.due : Int) := by omega
                    have HF : Hid (¬ before y x) := fun h => hdue h.2
                    go_wp2
                    go_roundw
                    case rel => exact ⟨k + 1, false, by omega, by go_num, rfl, Lib.hid ⟨fun h => (by cases h), fun h => absurd (HP3.out.2 h) HF.out⟩, HB5⟩
                    case measure => simp [intOf]; omega
            · obtain rfl : k = i := by omega
              have HTK : Hid ((T.take k).take k = T.take k) := by show _ = _; rw [List.take_take, Nat.min_self]
              rw [HTK.out] at HP2
              have HB6 := Lib.hid (HB4.out.trans (HBI.out.mono HB4.out.size))
              have HP3 : Hid ((b2 = true ∧ n < x.due) ↔ (m ≤ 64 ∧ n ≤ 4611686018427387904) ∧ (T.take (k + 1)).Pairwise before ∧ ∀ t ∈ T.take (k + 1), n < t.due) := by
                show _ ↔ _
                rw [HPS.out, HAS.out, HP2.out, HP.out]
                constructor
                · rintro ⟨⟨⟨h1, h2, h3⟩, h4⟩, h5⟩
                  exact ⟨h1, ⟨h2, h4⟩, h3, h5⟩
                · rintro ⟨h1, ⟨h2, h4⟩, h3, h5⟩
                  exact ⟨⟨⟨h1, h2, h3⟩, h4⟩, h5⟩
              cases b2
              · go_wp2
                go_roundw
                case rel => exact ⟨k + 1, false, by omega, by go_num, rfl, Lib.hid ⟨fun h => (by cases h), fun h => (HP3.out.2 h).1⟩, HB6⟩
                case measure => simp [intOf]; omega
              · by_cases hdn : n < x.due
                · have hdni : (n : Int) < (x.due : Int) := by omega
                  go_wp2
                  go_roundw
                  case rel => exact ⟨k + 1, true, by omega, by go_num, rfl, Lib.hid ⟨fun _ => HP3.out.1 ⟨rfl, hdn⟩, fun _ => rfl⟩, HB6⟩
                  case measure => simp [intOf]; omega
                · have hdni : ¬ (n : Int) < (x.due : Int) := by omega
                  go_wp2
                  go_roundw
                  case rel => exact ⟨k + 1, false, by omega, by go_num, rfl, Lib.hid ⟨fun h => (by cases h), fun h => absurd (HP3.out.2 h).2 hdn⟩, HB6⟩
                  case measure => simp [intOf]; omega
        · obtain rfl : i = m := by omega
          have HTK : Hid (T.take i = T) := List.take_of_length_le (Nat.le_of_eq HM.out)
          rw [HTK.out] at HP
          have HBZ := Lib.hid (HB2.out.trans (HBW.out.mono HB2.out.size))
          have HVB : Hid (rightW n T = b) := by
            show _ = _
            rw [Bool.eq_iff_iff, rightW_iff, HP.out, HM.out]
            exact ⟨fun h => ⟨⟨h.1, h.2.1⟩, h.2.2⟩, fun h => ⟨h.1.1, h.1.2, h.2⟩⟩
          have HRI : Hid (Calls Try.prog 16 #[.agg #[.int .u64 (n : Int), .slice A i c]] wr fun e w' => e = .returned (.bool b) ∧ Below wr.heap.size wr w') := by
            have := right_any _ n T wr (HV.out.below HBZ.out (Nat.le_refl _)) hn HOK.out (by rw [HM.out]; omega)
            rw [HVB.out] at this
            exact this
          go_wp2_with (refine wpList_load_row rfl 27 _ rfl w.heap.size rfl 27 #[.int .u64 (n : Int), .slice A i c] (0, 0) _ HXW.out Try.underlying27 rfl (by kernel_rfl) ?_)
          refine HRI.out.mono ?_
          rintro e w8 ⟨rfl, hb8⟩
          have HB8 := Lib.hid (HBZ.out.trans (hb8.mono HBZ.out.size))
          clear hb8 a0 a1
          cases b
          · go_wp2
            go_ret
            exact ⟨rfl, HB8.out⟩
          · go_wp2
            go_ret
            exact ⟨rfl, HB8.out⟩
  · have h64b : ¬ (m : Int) ≤ 64 := by omega
    go_wp2
    go_loopw [3, 29] (fun t3 t29 wr => ∃ (i : Nat) (b : Bool), i ≤ m ∧ t29 = .int .i64 (i : Int) ∧ t3 = .bool b ∧ Hid (b = true ↔ (m ≤ 64 ∧ n ≤ 4611686018427387904) ∧ (T.take i).Pairwise before ∧ ∀ t ∈ T.take i, n < t.due) ∧ Hid (Below w2.heap.size w2 wr)) (fun _ t29 _ => m - (intOf t29).toNat)
    case atStart => exact ⟨0, false, Nat.zero_le _, rfl, by first | rfl | simp [*], Lib.hid ⟨fun h => (by cases h), fun h => absurd h.1.1 h64⟩, Lib.hid (Below.refl _ _)⟩
    case round =>
      clear a0 a1
      obtain ⟨i, b, hi, rfl, rfl, HP, HBW⟩ := hrel
      have HXW := Lib.hid (old_below HX2.out HBW.out (row_lt HX2.out))
      obtain ⟨a0, a1⟩ := two_cells HXW.out
      by_cases hlt : i < m
      · obtain ⟨x, hx⟩ : ∃ x, T[i]? = some x := ⟨_, List.getElem?_eq_getElem (by rw [HM.out]; exact hlt)⟩
        obtain ⟨ad, rfl, hKA⟩ := el_all tmE (HT2.out.below HBW.out (Nat.le_refl _)) (by omega) hx
        have HKC : Hid (∀ (j : Nat) v, (#[.int .i64 x.id, .int .u64 (x.due : Int)] : Array Value)[j]? = some v → wr.cell? ((ad.add (i * 2)).add j) = some v) := hKA wr (Below.refl _ _)
        have HPS := Lib.hid (pair_snoc (R := before) hx)
        have HAS := Lib.hid (all_snoc (p := fun t => n < t.due) hx)
        clear hx hKA
        obtain ⟨w4, hw4⟩ : ∃ w4, wr.alloc (.cells #[.int .i64 x.id, .int .u64 (x.due : Int)] 53) = w4 := ⟨_, rfl⟩
        have HY4 : Hid (w4.heap[wr.heap.size]? = some (.cells #[.int .i64 x.id, .int .u64 (x.due : Int)] 53 (0, 0))) := by rw [← hw4]; exact heap_alloc_new wr _
        have HX4 : Hid (w4.heap[w.heap.size]? = some (.cells #[.int .u64 (n : Int), .slice (some ad) m c] 27 (0, 0))) := by rw [← hw4]; exact old_alloc HXW.out _
        have HB4 : Hid (Below w2.heap.size w2 w4) := by rw [← hw4]; exact HBW.out.alloc HBW.out.size _
        have HW4 := Lib.hid hw4
        clear hw4
        go_upto_region 7 with (first | (refine wpList_load_atA rfl 53 _ rfl (ad.add (i * 2)) rfl #[.int .i64 x.id, .int .u64 (x.due : Int)] _ HKC.out Try.underlying53 rfl (by kernel_rfl) ?_) | (refine wpList_store_new rfl 53 _ _ rfl wr #[.int .i64 0, .int .u64 0] #[.int .i64 x.id, .int .u64 (x.due : Int)] rfl rfl (by kernel_rfl) rfl (by simp [Value.oneCell']) ?_) | go_in)
        rw [HW4.out]
        clear HW4 HKC a0 a1 HXW
        generalize wr.heap.size = gx at HY4 ⊢
        obtain ⟨a0, a1⟩ := two_cells HX4.out
        have hic : i ≤ c := by omega
        rename World => wo
        go_wp2
        go_loopw [3, 39] (fun t3 t39 wr => ∃ (k : Nat) (b2 : Bool), k ≤ i ∧ t39 = .int .i64 (k : Int) ∧ t3 = .bool b2 ∧ Hid (b2 = true ↔ b = true ∧ ∀ a ∈ (T.take i).take k, before a x) ∧ Hid (Below wo.heap.size wo wr)) (fun _ t39 _ => i - (intOf t39).toNat)
        case atStart => exact ⟨0, b, Nat.zero_le _, rfl, rfl, Lib.hid (by simp), Lib.hid (Below.refl _ _)⟩
        case round =>
          clear a0 a1
          obtain ⟨k, b2, hk, rfl, rfl, HP2, HBI⟩ := hrel
          have HXI := Lib.hid (old_below HX4.out HBI.out (row_lt HX4.out))
          have HYI := Lib.hid (old_below HY4.out HBI.out (row_lt HY4.out))
          obtain ⟨a0, a1⟩ := two_cells HXI.out
          obtain ⟨b0, b1⟩ := two_cells HYI.out
          by_cases hlt2 : k < i
          · obtain ⟨y, hy⟩ : ∃ y, T[k]? = some y := ⟨_, List.getElem?_eq_getElem (by rw [HM.out]; omega)⟩
            have hy2 : (T.take i)[k]? = some y := by rw [List.getElem?_take, if_pos hlt2]; exact hy
            have hkm : k < m := by omega
            obtain ⟨ad', had, hKA⟩ := el_all tmE ((HT2.out.below HB4.out (Nat.le_refl _)).below HBI.out (Nat.le_refl _)) (by omega) hy
            injection had with had
            subst had
            have HKC : Hid (∀ (j : Nat) v, (#[.int .i64 y.id, .int .u64 (y.due : Int)] : Array Value)[j]? = some v → wr.cell? ((ad.add (k * 2)).add j) = some v) := hKA wr (Below.refl _ _)
            have HAS2 := Lib.hid (all_snoc (p := fun a => before a x) hy2)
            clear hy hy2 hKA
            obtain ⟨w5, hw5⟩ : ∃ w5, wr.alloc (.cells #[.int .i64 y.id, .int .u64 (y.due : Int)] 53) = w5 := ⟨_, rfl⟩
            have HZ5 : Hid (w5.heap[wr.heap.size]? = some (.cells #[.int .i64 y.id, .int .u64 (y.due : Int)] 53 (0, 0))) := by rw [← hw5]; exact heap_alloc_new wr _
            have HY5 : Hid (w5.heap[gx]? = some (.cells #[.int .i64 x.id, .int .u64 (x.due : Int)] 53 (0, 0))) := by rw [← hw5]; exact old_alloc HYI.out _
            have HB5 : Hid (Below wo.heap.size wo w5) := by rw [← hw5]; exact HBI.out.alloc HBI.out.size _
            have HW5 := Lib.hid hw5
            clear hw5
            go_upto_region 10 with (first | (refine wpList_load_atA rfl 53 _ rfl (ad.add (k * 2)) rfl #[.int .i64 y.id, .int .u64 (y.due : Int)] _ HKC.out Try.underlying53 rfl (by kernel_rfl) ?_) | (refine wpList_store_new rfl 53 _ _ rfl wr #[.int .i64 0, .int .u64 0] #[.int .i64 y.id, .int .u64 (y.due : Int)] rfl rfl (by kernel_rfl) rfl (by simp [Value.oneCell']) ?_) | go_in)
            rw [HW5.out]
            clear HW5 HKC a0 a1 b0 b1
            generalize wr.heap.size = gy at HZ5 ⊢
            obtain ⟨b0, b1⟩ := two_cells HY5.out
            obtain ⟨c0, c1⟩ := two_cells HZ5.out
            cases b2
            · go_wp2
              go_roundw
              case rel => exact ⟨k + 1, false, by omega, by go_num, rfl, Lib.hid ⟨fun h => (by cases h), fun h => absurd (HP2.out.2 ⟨h.1, (HAS2.out.1 h.2).1⟩) (by decide)⟩, HB5⟩
              case measure => simp [intOf]; omega
            · have HP3 : Hid (before y x ↔ b = true ∧ ∀ a ∈ (T.take i).take (k + 1), before a x) := by
                show _ ↔ _
                rw [HAS2.out]
                have := HP2.out.1 rfl
                exact ⟨fun h => ⟨this.1, this.2, h⟩, fun h => h.2.2⟩
              by_cases hid : y.id = x.id
              · have HF : Hid (¬ before y x) := fun h => h.1 hid
                go_wp2
                go_roundw
                case rel => exact ⟨k + 1, false, by omega, by go_num, rfl, Lib.hid ⟨fun h => (by cases h), fun h => absurd (HP3.out.2 h) HF.out⟩, HB5⟩
                case measure => simp [intOf]; omega
              · have hidb : (y.id != x.id) = true := by simp [hid]
                by_cases hdue : y.due ≤ x.due
                · have hduei : (y.due : Int) ≤ (x.due : Int) := by omega
                  have HF : Hid (before y x) := ⟨hid, hdue⟩
                  go_wp2
                  go_roundw
                  case rel => exact ⟨k + 1, true, by omega, by go_num, rfl, Lib.hid ⟨fun _ => HP3.out.1 HF.out, fun _ => rfl⟩, HB5⟩
                  case measure => simp [intOf]; omega
                · have hduei : ¬ (y.due : Int) ≤ (x.due : Int) := by omega
                  have HF : Hid (¬ before y x) := fun h => hdue h.2
                  go_wp2
                  go_roundw
                  case rel => exact ⟨k + 1, false, by omega, by go_num, rfl, Lib.hid ⟨fun h => (by cases h), fun h => absurd (HP3.out.2 h) HF.out⟩, HB5⟩
                  case measure => simp [intOf]; omega
          · obtain rfl : k = i := by omega
            have HTK : Hid ((T.take k).take k = T.take k) := by show _ = _; rw [List.take_take, Nat.min_self]
            rw [HTK.out] at HP2
            have HB6 := Lib.hid (HB4.out.trans (HBI.out.mono HB4.out.size))
            have HP3 : Hid ((b2 = true ∧ n < x.due) ↔ (m ≤ 64 ∧ n ≤ 4611686018427387904) ∧ (T.take (k + 1)).Pairwise before ∧ ∀ t ∈ T.take (k + 1), n < t.due) := by
              show _ ↔ _
              rw [HPS.out, HAS.out, HP2.out, HP.out]
              constructor
              · rintro ⟨⟨⟨h1, h2, h3⟩, h4⟩, h5⟩
                exact ⟨h1, ⟨h2, h4⟩, h3, h5⟩
              · rintro ⟨h1, ⟨h2, h4⟩, h3, h5⟩
                exact ⟨⟨⟨h1, h2, h3⟩, h4⟩, h5⟩
            cases b2
            · go_wp2
              go_roundw
              case rel => exact ⟨k + 1, false, by omega, by go_num, rfl, Lib.hid ⟨fun h => (by cases h), fun h => (HP3.out.2 h).1⟩, HB6⟩
              case measure => simp [intOf]; omega
            · by_cases hdn : n < x.due
              · have hdni : (n : Int) < (x.due : Int) := by omega
                go_wp2
                go_roundw
                case rel => exact ⟨k + 1, true, by omega, by go_num, rfl, Lib.hid ⟨fun _ => HP3.out.1 ⟨rfl, hdn⟩, fun _ => rfl⟩, HB6⟩
                case measure => simp [intOf]; omega
              · have hdni : ¬ (n : Int) < (x.due : Int) := by omega
                go_wp2
                go_roundw
                case rel => exact ⟨k + 1, false, by omega, by go_num, rfl, Lib.hid ⟨fun h => (by cases h), fun h => absurd (HP3.out.2 h).2 hdn⟩, HB6⟩
                case measure => simp [intOf]; omega
      · obtain rfl : i = m := by omega
        have HTK : Hid (T.take i = T) := List.take_of_length_le (Nat.le_of_eq HM.out)
        rw [HTK.out] at HP
        have HBZ := Lib.hid (HB2.out.trans (HBW.out.mono HB2.out.size))
        have HVB : Hid (rightW n T = b) := by
          show _ = _
          rw [Bool.eq_iff_iff, rightW_iff, HP.out, HM.out]
          exact ⟨fun h => ⟨⟨h.1, h.2.1⟩, h.2.2⟩, fun h => ⟨h.1.1, h.1.2, h.2⟩⟩
        have HRI : Hid (Calls Try.prog 16 #[.agg #[.int .u64 (n : Int), .slice A i c]] wr fun e w' => e = .returned (.bool b) ∧ Below wr.heap.size wr w') := by
          have := right_any _ n T wr (HV.out.below HBZ.out (Nat.le_refl _)) hn HOK.out (by rw [HM.out]; omega)
          rw [HVB.out] at this
          exact this
        go_wp2_with (refine wpList_load_row rfl 27 _ rfl w.heap.size rfl 27 #[.int .u64 (n : Int), .slice A i c] (0, 0) _ HXW.out Try.underlying27 rfl (by kernel_rfl) ?_)
        refine HRI.out.mono ?_
        rintro e w8 ⟨rfl, hb8⟩
        have HB8 := Lib.hid (HBZ.out.trans (hb8.mono HBZ.out.size))
        clear hb8 a0 a1
        cases b
        · go_wp2
          go_ret
          exact ⟨rfl, HB8.out⟩
        · go_wp2
          go_ret
          exact ⟨rfl, HB8.out⟩
end Go.Proofs.Ytljochpomgjjeaa
