/-
  The law WheelOnce: every slice of ops: what is set is told just once, at the tick when it is due.
-/
import Derived.Test.YtljochpomgjjeaaOnt
namespace Go.Proofs.Ytljochpomgjjeaa
open Go.RowKit Go.Maps

/-- nothing is due later than may be set here -/
def lowO (n : Nat) (T : List Tm) : Prop := ∀ t ∈ T, I64 t.id ∧ t.due ≤ n
theorem lowO_filter {n : Nat} {T : List Tm} {p : Tm → Bool} (h : lowO n T) : lowO n (T.filter p) := fun t ht => h t (List.mem_filter.1 ht).1
theorem lowO_mono {n m : Nat} {T : List Tm} (h : lowO n T) (hm : n ≤ m) : lowO m T := fun t ht => ⟨(h t ht).1, Nat.le_trans (h t ht).2 hm⟩
theorem lowO_ins {n d : Nat} {T : List Tm} {id : Int} (h : lowO n T) (hi : I64 id) (hd : d ≤ n) : lowO n (insT ⟨id, d⟩ T) := fun t ht => by
  rcases ins_mem.1 ht with rfl | ht
  · exact ⟨hi, hd⟩
  · exact h t ht
theorem lowO_ok {n : Nat} {T : List Tm} (h : lowO n T) (hn : n < 18446744073709551616) : okT T := fun t ht => ⟨(h t ht).1, Nat.lt_of_le_of_lt (h t ht).2 hn⟩
theorem setC_small {n : Nat} {T : List Tm} {id : Int} {after : Nat} (ha : after < 30) (hl : T.length ≤ 50) : setC n T id after = (insT ⟨id, n + max after 1⟩ (T.filter (notI id)), 0) := by
  unfold setC
  have := List.length_filter_le (notI id) T
  rw [if_neg (by omega), if_neg (by omega)]
theorem i64_small {q : Nat} (h : q < 1000) : I64 (q : Int) := ⟨by omega, by omega⟩
set_option maxRecDepth 100000 in
set_option maxHeartbeats 8000000 in
theorem once_any (v : Value) (l : List Op16) (w : World) (hv : SlT opA w v l) (hO : ∀ o ∈ l, okO o) (hl : l.length ≤ 140737488351232) :
    Calls Try.prog 4 #[v] w fun e w' => e = .returned (.bool true) ∧ Below w.heap.size w w' := by
  obtain ⟨A, c, rfl, htr, -, hnc, hcm⟩ := hv
  obtain ⟨m, hm⟩ : ∃ m, l.length = m := ⟨_, rfl⟩
  have HM := Lib.hid hm
  rw [hm] at hnc hl ⊢
  have hcm2 : c ≤ 9223372036854775807 := by unfold maxLen at hcm; omega
  have HTR := Lib.hid htr
  have HOK := Lib.hid hO
  have hmm := @run_makeMap Try.prog
  clear hm htr hcm hO
  go_enter Try.func4, Try.ntmps4
  go_wp2_with fail
  refine (lives_any _).mono ?_
  rintro e w1 ⟨rfl, hb1⟩
  have HB1 := Lib.hid hb1
  clear hb1
  by_cases h50 : 50 < m
  · have h50b : (50 : Int) < (m : Int) := by omega
    go_wp2_with fail
    refine (lives_any _).mono ?_
    rintro e w2 ⟨rfl, hb2⟩
    have HB2 := Lib.hid (HB1.out.trans (hb2.mono HB1.out.size))
    clear hb2
    go_wp2
    go_ret
    exact ⟨rfl, HB2.out⟩
  have h50b : ¬ (50 : Int) < (m : Int) := by omega
  have HP2 : Hid ((w1.alloc (.cells #[.int .u64 0, .slice none 0 0] 27)).heap[w1.heap.size]? = some (.cells #[.int .u64 0, .slice none 0 0] 27 (0, 0))) := heap_alloc_new w1 _
  have HB2 : Hid (Below w.heap.size w (w1.alloc (.cells #[.int .u64 0, .slice none 0 0] 27))) := HB1.out.alloc HB1.out.size _
  have HGP : Hid (w.heap.size ≤ w1.heap.size) := HB1.out.size
  go_upto_region 4 with (fail)
  generalize w1.alloc (.cells #[.int .u64 0, .slice none 0 0] 27) = w2 at HP2 HB2 ⊢
  generalize w1.heap.size = P at HP2 HGP ⊢
  have HP3 := Lib.hid (old_alloc HP2.out (.map #[] 0))
  have HM3 : Hid (OwnU w2.heap.size 0 (.map []) (w2.alloc (.map #[] 0))) := World.ownsMap_made _ _ _ _
  have HB3 : Hid (Below w.heap.size w (w2.alloc (.map #[] 0))) := HB2.out.alloc HB2.out.size _
  have HGM : Hid (w.heap.size ≤ w2.heap.size) := HB2.out.size
  go_upto_region 5 with (fail)
  generalize w2.alloc (.map #[] 0) = w3 at HP3 HM3 HB3 ⊢
  generalize w2.heap.size = M at HM3 HGM ⊢
  clear HP2 HB2 HB1 hmm
  go_wp2
  go_loopw [22] (fun t22 wr => ∃ (i kn c0 : Nat) (T : List Tm) (D : DataW Unit) (s : Value), i ≤ m ∧ t22 = .int .i64 (i : Int) ∧ kn ≤ i ∧ c0 ≤ i ∧ T.length ≤ i ∧ Hid (wr.heap[P]? = some (.cells #[.int .u64 (kn : Int), s] 27 (0, 0))) ∧ Hid (TsT wr s T) ∧ Hid (rightW kn T = true) ∧ Hid (lowO (kn + 29) T) ∧ Hid (OwnU M c0 D wr) ∧ Hid (Keeps D T) ∧ Hid (Sized D T) ∧ Hid (Below w.heap.size w wr)) (fun t22 _ => m - (intOf t22).toNat)
  case atStart => exact ⟨0, 0, 0, [], .map [], .slice none 0 0, Nat.zero_le _, rfl, Nat.le_refl _, Nat.le_refl _, Nat.le_refl _, HP3, Lib.hid TlT.nil, Lib.hid (right_new 0 (by omega)), Lib.hid (fun t ht => by cases ht), HM3, Lib.hid keeps_start, Lib.hid sized_start, HB3⟩
  case round =>
    clear HP3 HM3 HB3
    obtain ⟨i, kn, c0, T, D, s, hi, rfl, hkn, hc0, hTl, HP, HT, HR, HLO, HMA, HK, HZ, HB⟩ := hrel
    by_cases hlt : i < m
    · obtain ⟨o, ho⟩ : ∃ o, l[i]? = some o := ⟨_, List.getElem?_eq_getElem (by rw [HM.out]; exact hlt)⟩
      obtain ⟨ad, rfl, hKA⟩ := el_all opE (HTR.out.below HB.out (Nat.le_refl _)) (by omega) ho
      have HKC : Hid (∀ (j : Nat) v, (#[.int .i64 o.kind, .int .i64 o.id, .int .u64 (o.after : Int)] : Array Value)[j]? = some v → wr.cell? ((ad.add (i * 3)).add j) = some v) := hKA wr (Below.refl _ _)
      obtain ⟨-, -, hok3⟩ := HOK.out o (List.mem_of_getElem? ho)
      have haf := hok3
      obtain ⟨kd, hkd⟩ : ∃ kd, o.kind = kd := ⟨_, rfl⟩
      obtain ⟨id, hid⟩ : ∃ id, o.id = id := ⟨_, rfl⟩
      obtain ⟨af, haf2⟩ : ∃ af, o.after = af := ⟨_, rfl⟩
      rw [hkd, hid, haf2] at HKC
      rw [haf2] at haf
      clear ho hKA hok3 hkd hid haf2
      go_upto_region 8 with (first | (refine wpList_load_atA rfl 31 _ rfl (ad.add (i * 3)) rfl #[.int .i64 kd, .int .i64 id, .int .u64 (af : Int)] _ HKC.out Try.underlying31 rfl (by kernel_rfl) ?_) | (refine wpList_store_new rfl 31 _ _ rfl wr #[.int .i64 0, .int .i64 0, .int .u64 0] #[.int .i64 kd, .int .i64 id, .int .u64 (af : Int)] rfl rfl (by kernel_rfl) rfl (by simp [Value.oneCell']) ?_) | go_in)
      clear HKC
      have hba : Below wr.heap.size wr (wr.alloc (.cells #[.int .i64 kd, .int .i64 id, .int .u64 (af : Int)] 31)) := (Below.refl _ _).alloc (Nat.le_refl _) _
      have HO5 : Hid ((wr.alloc (.cells #[.int .i64 kd, .int .i64 id, .int .u64 (af : Int)] 31)).heap[wr.heap.size]? = some (.cells #[.int .i64 kd, .int .i64 id, .int .u64 (af : Int)] 31 (0, 0))) := heap_alloc_new wr _
      have HP5 := Lib.hid (old_below HP.out hba (row_lt HP.out))
      have HT5 := Lib.hid (HT.out.below hba)
      have HM5 := Lib.hid (OwnU.below HMA.out hba)
      have HB5 := Lib.hid (HB.out.trans (hba.mono HB.out.size))
      clear hba HP HT HMA HB
      generalize wr.alloc (.cells #[.int .i64 kd, .int .i64 id, .int .u64 (af : Int)] 31) = w5 at HO5 HP5 HT5 HM5 HB5 ⊢
      generalize wr.heap.size = go at HO5 ⊢
      obtain ⟨q, hq, hq8⟩ := u64_rem id 8 (by decide) (by decide)
      change (IntKind.u64.wrap id).tmod 8 = (q : Int) at hq
      obtain ⟨r, hr⟩ : ∃ r, af % 30 = r := ⟨_, rfl⟩
      have hr30 : r < 30 := by omega
      have hr1 : (af : Int).tmod 30 = (r : Int) := by rw [Int.tmod_eq_emod_of_nonneg (by omega)]; omega
      have hr2 : (af : Int) % 30 = (r : Int) := by omega
      have KO1 : Hid (∀ w', Reg w5 w' → w'.cell? ⟨go, 1, none⟩ = some (.int .i64 id)) := fun w' hr => (three_cells (old_below HO5.out (reg_below hr) (row_lt HO5.out))).2.1
      have KO2 : Hid (∀ w', Reg w5 w' → w'.cell? ⟨go, 2, none⟩ = some (.int .u64 (af : Int))) := fun w' hr => (three_cells (old_below HO5.out (reg_below hr) (row_lt HO5.out))).2.2
      refine wp_region_quiet_below (by kernel_rfl) (by kernel_rfl) ?_
      (first | go_big_quiet_step (fail) | quiet_step (fail))
      (refine wpQuiet_step (fun K hK => ?_); refine quiet_load_cell (by kernel_rfl) 3 _ rfl ⟨go, 1, none⟩ (by first | rfl | (simp [Act.eval, Addr.add_mid])) (.int .i64 id) _ KO1.out Try.underlying3 rfl ?_; refine hK _ ?_; clear hK K; go_frame)
      (first | go_big_quiet_step (fail) | quiet_step (fail))
      (first | go_big_quiet_step (fail) | quiet_step (fail))
      (first | go_big_quiet_step (fail) | quiet_step (fail))
      (first | go_big_quiet_step (fail) | quiet_step (fail))
      (refine wpQuiet_step (fun K hK => ?_); refine quiet_load_cell (by kernel_rfl) 22 _ rfl ⟨go, 2, none⟩ (by first | rfl | (simp [Act.eval, Addr.add_mid])) (.int .u64 (af : Int)) _ KO2.out Try.underlying22 rfl ?_; refine hK _ ?_; clear hK K; go_frame)
      (first | go_big_quiet_step (fail) | quiet_step (fail))
      (first | go_big_quiet_step (fail) | quiet_step (fail))
      (first | go_big_quiet_step (fail) | quiet_step (fail))
      refine wpQuiet_nil ?_
      intro w9 hw9
      obtain ⟨⟨dq, osq⟩, rfl⟩ := hw9
      have HBQ := Lib.hid (((Below.refl w5.heap.size w5)).trans ((below_regrown w5 dq osq).mono ((Below.refl w5.heap.size w5)).size))
      generalize Sort.grow (redrawn w5 dq) osq = w6 at *
      have HO6 := Lib.hid (old_below HO5.out HBQ.out (row_lt HO5.out))
      have HP6 := Lib.hid (old_below HP5.out HBQ.out (row_lt HP5.out))
      have HT6 := Lib.hid (HT5.out.below HBQ.out)
      have HM6 := Lib.hid (OwnU.below HM5.out HBQ.out)
      have HB6 := Lib.hid (HB5.out.trans (HBQ.out.mono HB5.out.size))
      clear HO5 HP5 HT5 HM5 HB5 HBQ KO1 KO2 hr hr1 hr2 hq haf
      obtain ⟨k5, hk5, hk55⟩ := u64_rem kd 5 (by decide) (by decide)
      change (IntKind.u64.wrap kd).tmod 5 = (k5 : Int) at hk5
      have hq64 := i64_small (q := q) (by omega)
      have HQ := Lib.hid hq64
      have HKY : Hid (keyOf Try.prog 3 (.int .i64 (q : Int)) = some (KI (q : Int))) := key_int hq64
      have HOT := Lib.hid (lowO_ok HLO.out (by omega))
      have HPW := Lib.hid (rightW_iff.1 HR.out).2.2.1
      clear hq64
      by_cases h5 : k5 = 2
      · obtain rfl : k5 = 2 := h5
        obtain ⟨o0, o1, o2⟩ := three_cells HO6.out
        go_wp2_with (refine wpList_load_row rfl 27 _ rfl P rfl 27 #[.int .u64 (kn : Int), s] (0, 0) _ HP6.out Try.underlying27 rfl (by kernel_rfl) ?_)
        refine (stop_any _ kn T (q : Int) w6 ⟨s, rfl, HT6.out.slt⟩ HR.out HOT.out HQ.out).mono ?_
        rintro e w7 ⟨v7, rfl, hv7, hb⟩
        obtain ⟨s1, rfl, ho7, ht7⟩ := hv7.form
        have HO7 := Lib.hid ho7
        have HT7 := Lib.hid ht7
        have HP7 := Lib.hid (old_below HP6.out hb (row_lt HP6.out))
        have HM7 := Lib.hid (OwnU.below HM6.out hb)
        have HB7 := Lib.hid (HB6.out.trans (hb.mono HB6.out.size))
        clear o0 o1 o2 hv7 ho7 ht7 hb HO6 HP6 HT6 HM6 HB6
        go_upto_region 11 with (first | (refine wpList_store_row rfl 27 _ _ rfl P #[.int .u64 (kn : Int), s1] rfl rfl 27 #[.int .u64 (kn : Int), s] HP7.out (by kernel_rfl) rfl (wh_one HO7.out) ?_) | go_in)
        have HP8 : Hid ((w7.setRow P #[.int .u64 (kn : Int), s1]).heap[P]? = some (.cells #[.int .u64 (kn : Int), s1] 27 (0, 0))) := setRow_heap _ _ _ _ _ _ HP7.out
        have HT8 := Lib.hid (HT7.out.setRow HP7.out (by decide) #[.int .u64 (kn : Int), s1])
        have HM8 := Lib.hid (OwnU.set HM7.out HP7.out #[.int .u64 (kn : Int), s1])
        have HB8 := Lib.hid (below_setRow HB7.out HGP.out #[.int .u64 (kn : Int), s1])
        generalize w7.setRow P #[.int .u64 (kn : Int), s1] = w8 at HP8 HT8 HM8 HB8 ⊢
        clear HP7 HT7 HM7 HB7
        go_upto_region 21 with (first | (at_delete; refine wpList_delete_own _ rfl _ _ 55 3 rfl 22 intlaw Try.underlying55 _ M c0 _ rfl HM8.out _ _ rfl HKY.out ?_; intro w16 hown hturn) | go_in)
        go_frame
        have HM9 : Hid (OwnU M c0 (D.del (KI (q : Int))) w16) := hown
        have hkp : ∀ j, j < w8.heap.size → j ≠ M → w16.heap[j]? = w8.heap[j]? := fun j hj hne => hturn.grown.block j hj (by simpa using hne)
        have HT9 := Lib.hid (tl_turn HT8.out HM8.out.nocells hkp)
        have HP9 := Lib.hid (row_turn HP8.out HM8.out.nocells hkp)
        have HB9 := Lib.hid (HB8.out.grown hturn.grown HB8.out.size fun g hg => by cases hg; exact HGM.out)
        have hfl := List.length_filter_le (notI (q : Int)) T
        clear hown hturn hkp
        go_wp2
        go_roundw
        case rel => exact ⟨i + 1, kn, c0, T.filter (notI (q : Int)), _, _, by omega, by go_num, by omega, by omega, by omega, HP9, HT9, Lib.hid (right_stop HR.out), Lib.hid (lowO_filter HLO.out), HM9, Lib.hid (HK.out.del _), Lib.hid (HZ.out.del HK.out HPW.out _), HB9⟩
        case measure => simp [intOf]; omega
      · have h5b : ¬ (k5 : Int) = 2 := by omega
        obtain ⟨o0, o1, o2⟩ := three_cells HO6.out
        have hsc : setC kn T (q : Int) r = (insT ⟨(q : Int), kn + max r 1⟩ (T.filter (notI (q : Int))), 0) := setC_small hr30 (by omega)
        have HSE : Hid (∀ w v, WhT w v kn T → Calls Try.prog 9 #[v, .int .i64 (q : Int), .int .u64 (r : Int)] w fun e w' => ∃ v', e = .returned (.tuple #[v', .int .i64 0]) ∧ WhT w' v' kn (insT ⟨(q : Int), kn + max r 1⟩ (T.filter (notI (q : Int)))) ∧ Below w.heap.size w w') := fun w v hv => by
          have := set_any v kn T (q : Int) r w hv.whs HR.out HOT.out HQ.out (by omega)
          rw [hsc] at this
          exact this
        have hrs := right_set (id := (q : Int)) (after := r) HR.out
        rw [hsc] at hrs
        have HR12 := Lib.hid hrs
        clear hsc hrs
        go_wp2_with (refine wpList_load_row rfl 27 _ rfl P rfl 27 #[.int .u64 (kn : Int), s] (0, 0) _ HP6.out Try.underlying27 rfl (by kernel_rfl) ?_)
        refine (HSE.out _ _ ⟨s, rfl, HT6.out⟩).mono ?_
        rintro e w7 ⟨v7, rfl, hv7, hb⟩
        obtain ⟨s1, rfl, ho7, ht7⟩ := hv7.form
        have HO7 := Lib.hid ho7
        have hba : Below w6.heap.size w6 (w7.alloc (.cells #[.int .u64 (kn : Int), s1] 27)) := hb.alloc hb.size _
        have HY9 : Hid ((w7.alloc (.cells #[.int .u64 (kn : Int), s1] 27)).heap[w7.heap.size]? = some (.cells #[.int .u64 (kn : Int), s1] 27 (0, 0))) := heap_alloc_new w7 _
        have HP9 := Lib.hid (old_below HP6.out hba (row_lt HP6.out))
        have HT9 := Lib.hid (ht7.alloc (.cells #[.int .u64 (kn : Int), s1] 27))
        have HM9 := Lib.hid (OwnU.below HM6.out hba)
        have HB9 := Lib.hid (HB6.out.trans (hba.mono HB6.out.size))
        clear o0 o1 o2 hv7 ho7 ht7 hb hba HO6 HP6 HT6 HM6 HB6 HSE
        go_upto_region 13 with (first | (refine wpList_store_new rfl 27 _ _ rfl w7 #[.int .u64 0, .slice none 0 0] #[.int .u64 (kn : Int), s1] rfl rfl (by kernel_rfl) rfl (wh_one HO7.out) ?_) | go_in)
        generalize w7.alloc (.cells #[.int .u64 (kn : Int), s1] 27) = w9 at HY9 HP9 HT9 HM9 HB9 ⊢
        generalize w7.heap.size = gn at HY9 ⊢
        go_upto_region 14 with (first | (refine wpList_load_row rfl 27 _ rfl gn rfl 27 #[.int .u64 (kn : Int), s1] (0, 0) _ HY9.out Try.underlying27 rfl (by kernel_rfl) ?_) | (refine wpList_store_row rfl 27 _ _ rfl P #[.int .u64 (kn : Int), s1] rfl rfl 27 #[.int .u64 (kn : Int), s] HP9.out (by kernel_rfl) rfl (wh_one HO7.out) ?_) | go_in)
        have HP10 : Hid ((w9.setRow P #[.int .u64 (kn : Int), s1]).heap[P]? = some (.cells #[.int .u64 (kn : Int), s1] 27 (0, 0))) := setRow_heap _ _ _ _ _ _ HP9.out
        have HT10 := Lib.hid (HT9.out.setRow HP9.out (by decide) #[.int .u64 (kn : Int), s1])
        have HM10 := Lib.hid (OwnU.set HM9.out HP9.out #[.int .u64 (kn : Int), s1])
        have HB10 := Lib.hid (below_setRow HB9.out HGP.out #[.int .u64 (kn : Int), s1])
        generalize w9.setRow P #[.int .u64 (kn : Int), s1] = w10 at HP10 HT10 HM10 HB10 ⊢
        clear HY9 HP9 HT9 HM9 HB9
        rcases Nat.eq_zero_or_pos r with h0 | h0
        · have hmx : max r 1 = 1 := by omega
          have h0b : (r : Int) < 1 := by omega
          have h0c : ¬ (1 : Int) ≤ (r : Int) := by omega
          rw [hmx] at HR12 HT10
          clear hmx h0
          have HWF : Hid ((Lit.int .u64 ((kn : Int) + 1)).wf = true) := wf_u64 (a := kn + 1) (by omega)
          obtain ⟨p0, p1⟩ := two_cells HP10.out
          go_upto_region 17 with (first | (at_mapUpdate; refine wpList_mapUpdate_own _ rfl _ _ _ 55 rfl 3 22 intlaw Try.underlying55 _ M c0 _ rfl HM10.out (by unfold maxLen; omega) _ _ _ rfl rfl HKY.out _ [] (plainElem_int Try.underlying22 HWF.out) ?_; intro w12 hown hgrow) | go_in)
          go_frame
          have HM12 : Hid (OwnU M (c0 + 1) (D.put (KI (q : Int)) (.lit (.int .u64 ((kn + 1 : Nat) : Int)))) w12) := hown
          have hkp : ∀ j, j < w10.heap.size → j ≠ M → w12.heap[j]? = w10.heap[j]? := fun j hj hne => hgrow.block j hj (by simpa using hne)
          have HT12 := Lib.hid (tl_turn HT10.out HM10.out.nocells hkp)
          have HP12 := Lib.hid (row_turn HP10.out HM10.out.nocells hkp)
          have HB12 := Lib.hid (HB10.out.grown hgrow HB10.out.size fun g hg => by cases hg; exact HGM.out)
          have HK12 := Lib.hid (HK.out.put HZ.out.tidy.isMap (q : Int) (kn + 1))
          have HZ12 := Lib.hid (HZ.out.put HK.out HPW.out (q : Int) (kn + 1) (.lit (.int .u64 ((kn + 1 : Nat) : Int))))
          have HL12 : Hid (lowO (kn + 29) (insT ⟨(q : Int), kn + 1⟩ (T.filter (notI (q : Int))))) := lowO_ins (lowO_filter HLO.out) HQ.out (by omega)
          have hl1 : (insT ⟨(q : Int), kn + 1⟩ (T.filter (notI (q : Int)))).length ≤ i + 1 := by
            have := List.length_filter_le (notI (q : Int)) T
            rw [ins_len]
            omega
          clear p0 p1 hown hgrow hkp HP10 HT10 HM10 HB10 HWF
          generalize insT ⟨(q : Int), kn + 1⟩ (T.filter (notI (q : Int))) = T1 at HR12 HT12 HK12 HZ12 HL12 hl1 ⊢
          generalize D.put (KI (q : Int)) (.lit (.int .u64 ((kn + 1 : Nat) : Int))) = D1 at HM12 HK12 HZ12 ⊢
          obtain ⟨i4, hi4⟩ : ∃ i4, i % 4 = i4 := ⟨_, rfl⟩
          have hi41 : (i : Int).tmod 4 = (i4 : Int) := by rw [Int.tmod_eq_emod_of_nonneg (by omega)]; omega
          have hi42 : (i : Int) % 4 = (i4 : Int) := by omega
          by_cases h3 : i4 = 3
          · have h3b : (i4 : Int) = 3 := by omega
            rw [h3b] at hi41 hi42
            go_wp2_with (refine wpList_load_row rfl 27 _ rfl P rfl 27 #[.int .u64 (kn : Int), s1] (0, 0) _ HP12.out Try.underlying27 rfl (by kernel_rfl) ?_)
            refine (oncetick_any _ kn M (c0 + 1) T1 D1 w12 ⟨s1, rfl, HT12.out⟩ HR12.out (lowO_ok HL12.out (by omega)) (by omega) HM12.out HK12.out HZ12.out).mono ?_
            rintro e w13 ⟨v13, D5, rfl, hv13, hm13, hk13, hz13, hg13⟩
            obtain ⟨s5, rfl, ho13, ht13⟩ := hv13.form
            have hnm : P ≠ M := fun q => HM12.out.nocells _ _ _ (by rw [← q]; exact HP12.out)
            have HP13 : Hid (w13.heap[P]? = some (.cells #[.int .u64 (kn : Int), s1] 27 (0, 0))) := (hg13.block P (row_lt HP12.out) (by simpa using hnm)).trans HP12.out
            have HB13 := Lib.hid (HB12.out.grown hg13 HB12.out.size fun g hg => by cases hg; exact HGM.out)
            have HO13 := Lib.hid ho13
            have HT13 := Lib.hid ht13
            have HM13 := Lib.hid hm13
            have HK13 := Lib.hid hk13
            have HZ13 := Lib.hid hz13
            have HR13 := Lib.hid (right_tick HR12.out (by omega))
            have HL13 : Hid (lowO (kn + 1 + 29) (T1.filter (notDue (kn + 1)))) := lowO_mono (lowO_filter HL12.out) (by omega)
            have hfl := List.length_filter_le (notDue (kn + 1)) T1
            clear hv13 ho13 ht13 hm13 hk13 hz13 hg13 hnm HP12 HT12 HM12 HK12 HZ12 HR12 HL12 HB12
            go_upto_region 19 with (first | (refine wpList_store_row rfl 27 _ _ rfl P #[.int .u64 ((kn : Int) + 1), s5] rfl rfl 27 #[.int .u64 (kn : Int), s1] HP13.out (by kernel_rfl) rfl (wh_one HO13.out) ?_) | go_in)
            have HP14 : Hid ((w13.setRow P #[.int .u64 ((kn : Int) + 1), s5]).heap[P]? = some (.cells #[.int .u64 ((kn : Int) + 1), s5] 27 (0, 0))) := setRow_heap _ _ _ _ _ _ HP13.out
            have HT14 := Lib.hid (HT13.out.setRow HP13.out (by decide) #[.int .u64 ((kn : Int) + 1), s5])
            have HM14 := Lib.hid (OwnU.set HM13.out HP13.out #[.int .u64 ((kn : Int) + 1), s5])
            have HB14 := Lib.hid (below_setRow HB13.out HGP.out #[.int .u64 ((kn : Int) + 1), s5])
            generalize w13.setRow P #[.int .u64 ((kn : Int) + 1), s5] = w14 at HP14 HT14 HM14 HB14 ⊢
            clear HP13 HT13 HM13 HB13
            obtain ⟨p0, p1⟩ := two_cells HP14.out
            have hne0 : ¬ (kn : Int) + 1 = 0 := by omega
            go_wp2
            go_roundw
            case rel => exact ⟨i + 1, kn + 1, c0 + 1, T1.filter (notDue (kn + 1)), D5, _, by omega, by go_num, by omega, by omega, by omega, HP14, HT14, HR13, HL13, HM14, HK13, HZ13, HB14⟩
            case measure => simp [intOf]; omega
          · have h3b : ¬ (i4 : Int) = 3 := by omega
            go_wp2
            go_roundw
            case rel => exact ⟨i + 1, kn, c0 + 1, T1, D1, _, by omega, by go_num, by omega, by omega, by omega, HP12, HT12, HR12, HL12, HM12, HK12, HZ12, HB12⟩
            case measure => simp [intOf]; omega
        · have hmx : max r 1 = r := Nat.max_eq_left h0
          have h1r : (1 : Int) ≤ (r : Int) := by omega
          have h1rb : ¬ (r : Int) < 1 := by omega
          rw [hmx] at HR12 HT10
          clear hmx
          have HWF : Hid ((Lit.int .u64 ((kn : Int) + (r : Int))).wf = true) := wf_u64 (a := kn + r) (by omega)
          obtain ⟨p0, p1⟩ := two_cells HP10.out
          go_upto_region 17 with (first | (at_mapUpdate; refine wpList_mapUpdate_own _ rfl _ _ _ 55 rfl 3 22 intlaw Try.underlying55 _ M c0 _ rfl HM10.out (by unfold maxLen; omega) _ _ _ rfl rfl HKY.out _ [] (plainElem_int Try.underlying22 HWF.out) ?_; intro w12 hown hgrow) | go_in)
          go_frame
          have HM12 : Hid (OwnU M (c0 + 1) (D.put (KI (q : Int)) (.lit (.int .u64 ((kn + r : Nat) : Int)))) w12) := hown
          have hkp : ∀ j, j < w10.heap.size → j ≠ M → w12.heap[j]? = w10.heap[j]? := fun j hj hne => hgrow.block j hj (by simpa using hne)
          have HT12 := Lib.hid (tl_turn HT10.out HM10.out.nocells hkp)
          have HP12 := Lib.hid (row_turn HP10.out HM10.out.nocells hkp)
          have HB12 := Lib.hid (HB10.out.grown hgrow HB10.out.size fun g hg => by cases hg; exact HGM.out)
          have HK12 := Lib.hid (HK.out.put HZ.out.tidy.isMap (q : Int) (kn + r))
          have HZ12 := Lib.hid (HZ.out.put HK.out HPW.out (q : Int) (kn + r) (.lit (.int .u64 ((kn + r : Nat) : Int))))
          have HL12 : Hid (lowO (kn + 29) (insT ⟨(q : Int), kn + r⟩ (T.filter (notI (q : Int))))) := lowO_ins (lowO_filter HLO.out) HQ.out (by omega)
          have hl1 : (insT ⟨(q : Int), kn + r⟩ (T.filter (notI (q : Int)))).length ≤ i + 1 := by
            have := List.length_filter_le (notI (q : Int)) T
            rw [ins_len]
            omega
          clear p0 p1 hown hgrow hkp HP10 HT10 HM10 HB10 HWF
          generalize insT ⟨(q : Int), kn + r⟩ (T.filter (notI (q : Int))) = T1 at HR12 HT12 HK12 HZ12 HL12 hl1 ⊢
          generalize D.put (KI (q : Int)) (.lit (.int .u64 ((kn + r : Nat) : Int))) = D1 at HM12 HK12 HZ12 ⊢
          obtain ⟨i4, hi4⟩ : ∃ i4, i % 4 = i4 := ⟨_, rfl⟩
          have hi41 : (i : Int).tmod 4 = (i4 : Int) := by rw [Int.tmod_eq_emod_of_nonneg (by omega)]; omega
          have hi42 : (i : Int) % 4 = (i4 : Int) := by omega
          by_cases h3 : i4 = 3
          · have h3b : (i4 : Int) = 3 := by omega
            rw [h3b] at hi41 hi42
            go_wp2_with (refine wpList_load_row rfl 27 _ rfl P rfl 27 #[.int .u64 (kn : Int), s1] (0, 0) _ HP12.out Try.underlying27 rfl (by kernel_rfl) ?_)
            refine (oncetick_any _ kn M (c0 + 1) T1 D1 w12 ⟨s1, rfl, HT12.out⟩ HR12.out (lowO_ok HL12.out (by omega)) (by omega) HM12.out HK12.out HZ12.out).mono ?_
            rintro e w13 ⟨v13, D5, rfl, hv13, hm13, hk13, hz13, hg13⟩
            obtain ⟨s5, rfl, ho13, ht13⟩ := hv13.form
            have hnm : P ≠ M := fun q => HM12.out.nocells _ _ _ (by rw [← q]; exact HP12.out)
            have HP13 : Hid (w13.heap[P]? = some (.cells #[.int .u64 (kn : Int), s1] 27 (0, 0))) := (hg13.block P (row_lt HP12.out) (by simpa using hnm)).trans HP12.out
            have HB13 := Lib.hid (HB12.out.grown hg13 HB12.out.size fun g hg => by cases hg; exact HGM.out)
            have HO13 := Lib.hid ho13
            have HT13 := Lib.hid ht13
            have HM13 := Lib.hid hm13
            have HK13 := Lib.hid hk13
            have HZ13 := Lib.hid hz13
            have HR13 := Lib.hid (right_tick HR12.out (by omega))
            have HL13 : Hid (lowO (kn + 1 + 29) (T1.filter (notDue (kn + 1)))) := lowO_mono (lowO_filter HL12.out) (by omega)
            have hfl := List.length_filter_le (notDue (kn + 1)) T1
            clear hv13 ho13 ht13 hm13 hk13 hz13 hg13 hnm HP12 HT12 HM12 HK12 HZ12 HR12 HL12 HB12
            go_upto_region 19 with (first | (refine wpList_store_row rfl 27 _ _ rfl P #[.int .u64 ((kn : Int) + 1), s5] rfl rfl 27 #[.int .u64 (kn : Int), s1] HP13.out (by kernel_rfl) rfl (wh_one HO13.out) ?_) | go_in)
            have HP14 : Hid ((w13.setRow P #[.int .u64 ((kn : Int) + 1), s5]).heap[P]? = some (.cells #[.int .u64 ((kn : Int) + 1), s5] 27 (0, 0))) := setRow_heap _ _ _ _ _ _ HP13.out
            have HT14 := Lib.hid (HT13.out.setRow HP13.out (by decide) #[.int .u64 ((kn : Int) + 1), s5])
            have HM14 := Lib.hid (OwnU.set HM13.out HP13.out #[.int .u64 ((kn : Int) + 1), s5])
            have HB14 := Lib.hid (below_setRow HB13.out HGP.out #[.int .u64 ((kn : Int) + 1), s5])
            generalize w13.setRow P #[.int .u64 ((kn : Int) + 1), s5] = w14 at HP14 HT14 HM14 HB14 ⊢
            clear HP13 HT13 HM13 HB13
            obtain ⟨p0, p1⟩ := two_cells HP14.out
            have hne0 : ¬ (kn : Int) + 1 = 0 := by omega
            go_wp2
            go_roundw
            case rel => exact ⟨i + 1, kn + 1, c0 + 1, T1.filter (notDue (kn + 1)), D5, _, by omega, by go_num, by omega, by omega, by omega, HP14, HT14, HR13, HL13, HM14, HK13, HZ13, HB14⟩
            case measure => simp [intOf]; omega
          · have h3b : ¬ (i4 : Int) = 3 := by omega
            go_wp2
            go_roundw
            case rel => exact ⟨i + 1, kn, c0 + 1, T1, D1, _, by omega, by go_num, by omega, by omega, by omega, HP12, HT12, HR12, HL12, HM12, HK12, HZ12, HB12⟩
            case measure => simp [intOf]; omega
    · obtain rfl : i = m := by omega
      have hLe := HLO.out
      go_wp2
      go_loopw [75] (fun t75 wf => ∃ (j : Nat) (T : List Tm) (D : DataW Unit) (s : Value), j ≤ 40 ∧ t75 = .int .i64 (j : Int) ∧ Hid (wf.heap[P]? = some (.cells #[.int .u64 ((kn + j : Nat) : Int), s] 27 (0, 0))) ∧ Hid (TsT wf s T) ∧ Hid (rightW (kn + j) T = true) ∧ Hid (lowO (kn + 29) T) ∧ Hid (OwnU M c0 D wf) ∧ Hid (Keeps D T) ∧ Hid (Sized D T) ∧ Hid (Below w.heap.size w wf)) (fun t75 _ => 40 - (intOf t75).toNat)
      case atStart => exact ⟨0, T, D, s, Nat.zero_le _, rfl, HP, HT, HR, HLO, HMA, HK, HZ, HB⟩
      case round =>
        clear HP HT HR hLe HLO HMA HK HZ HB
        obtain ⟨j, T, D, s, hj, rfl, HP, HT, HR, HLO, HMA, HK, HZ, HB⟩ := hrel
        rename World => wf
        by_cases hj40 : j < 40
        · obtain ⟨kj, hkj⟩ : ∃ kj, kn + j = kj := ⟨_, rfl⟩
          rw [hkj] at HP HR
          have hjb : (j : Int) < 40 := by omega
          go_wp2_with (refine wpList_load_row rfl 27 _ rfl P rfl 27 #[.int .u64 (kj : Int), s] (0, 0) _ HP.out Try.underlying27 rfl (by kernel_rfl) ?_)
          refine (oncetick_any _ kj M c0 T D wf ⟨s, rfl, HT.out⟩ HR.out (lowO_ok HLO.out (by omega)) (by omega) HMA.out HK.out HZ.out).mono ?_
          rintro e w13 ⟨v13, D5, rfl, hv13, hm13, hk13, hz13, hg13⟩
          obtain ⟨s5, rfl, ho13, ht13⟩ := hv13.form
          have hnm : P ≠ M := fun q => HMA.out.nocells _ _ _ (by rw [← q]; exact HP.out)
          have HP13 : Hid (w13.heap[P]? = some (.cells #[.int .u64 (kj : Int), s] 27 (0, 0))) := (hg13.block P (row_lt HP.out) (by simpa using hnm)).trans HP.out
          have HB13 := Lib.hid (HB.out.grown hg13 HB.out.size fun g hg => by cases hg; exact HGM.out)
          have HO13 := Lib.hid ho13
          have HT13 := Lib.hid ht13
          have HM13 := Lib.hid hm13
          have HK13 := Lib.hid hk13
          have HZ13 := Lib.hid hz13
          have HR13 : Hid (rightW (kn + (j + 1)) (T.filter (notDue (kj + 1))) = true) := by
            show _ = _
            rw [show kn + (j + 1) = kj + 1 by omega]
            exact right_tick HR.out (by omega)
          have HL13 : Hid (lowO (kn + 29) (T.filter (notDue (kj + 1)))) := lowO_filter HLO.out
          clear hv13 ho13 ht13 hm13 hk13 hz13 hg13 hnm HP HT HMA HK HZ HR HLO HB
          go_upto_region 25 with (first | (refine wpList_store_row rfl 27 _ _ rfl P #[.int .u64 ((kj : Int) + 1), s5] rfl rfl 27 #[.int .u64 (kj : Int), s] HP13.out (by kernel_rfl) rfl (wh_one HO13.out) ?_) | go_in)
          have HP14 : Hid ((w13.setRow P #[.int .u64 ((kj : Int) + 1), s5]).heap[P]? = some (.cells #[.int .u64 ((kj : Int) + 1), s5] 27 (0, 0))) := setRow_heap _ _ _ _ _ _ HP13.out
          have HT14 := Lib.hid (HT13.out.setRow HP13.out (by decide) #[.int .u64 ((kj : Int) + 1), s5])
          have HM14 := Lib.hid (OwnU.set HM13.out HP13.out #[.int .u64 ((kj : Int) + 1), s5])
          have HB14 := Lib.hid (below_setRow HB13.out HGP.out #[.int .u64 ((kj : Int) + 1), s5])
          generalize w13.setRow P #[.int .u64 ((kj : Int) + 1), s5] = w14 at HP14 HT14 HM14 HB14 ⊢
          clear HP13 HT13 HM13 HB13
          obtain ⟨p0, p1⟩ := two_cells HP14.out
          have hne0 : ¬ (kj : Int) + 1 = 0 := by omega
          go_wp2
          have HP15 : Hid (w14.heap[P]? = some (.cells #[.int .u64 ((kn + (j + 1) : Nat) : Int), s5] 27 (0, 0))) := by
            show _ = _
            rw [show ((kn + (j + 1) : Nat) : Int) = (kj : Int) + 1 by omega]
            exact HP14.out
          go_roundw
          case rel => exact ⟨j + 1, T.filter (notDue (kj + 1)), D5, _, by omega, by go_num, HP15, HT14, HR13, HL13, HM14, HK13, HZ13, HB14⟩
          case measure => simp [intOf]; omega
        · obtain rfl : j = 40 := by omega
          have hT0 : T = [] := by
            cases T with
            | nil => rfl
            | cons t r =>
              have h1 := (rightW_iff.1 HR.out).2.2.2 t (by simp)
              have h2 := (HLO.out t (by simp)).2
              omega
          subst hT0
          obtain ⟨A5, c5, rfl, -, -, -, hc5⟩ := HT.out
          have hsz : Maps.size D = 0 := HZ.out.size
          obtain ⟨p0, p1⟩ := two_cells HP.out
          go_wp2_with (first | (at_len; refine wpList_len_own _ rfl _ 55 rfl 3 22 Try.underlying55 _ M c0 D rfl HMA.out ?_; rw [hsz]) | go_in)
          go_ret
          exact ⟨rfl, HB.out⟩
end Go.Proofs.Ytljochpomgjjeaa
