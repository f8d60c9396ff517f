/-
  The law WheelPlays: every time, every slice of ops.
-/
import Derived.Test.YtljochpomgjjeaaOpW
namespace Go.Proofs.Ytljochpomgjjeaa
open Go.RowKit

theorem okT_sort {S : List Tm} (h : okT S) : okT (sortT S) := fun t ht => h t (sort_mem.1 ht)
theorem okT_filter {S : List Tm} {p : Tm → Bool} (h : okT S) : okT (S.filter p) := fun t ht => h t (List.mem_filter.1 ht).1
theorem okT_set {S : List Tm} {n after : Nat} {id : Int} (h : okT S) (hn : n ≤ 4611686018427387904) (hi : I64 id) : okT (setD n S id after).1 := by
  unfold setD
  split
  · exact h
  · split
    · exact h
    · intro t ht
      rcases List.mem_append.1 ht with ht | ht
      · exact okT_filter h t ht
      · simp at ht
        rw [ht]
        exact ⟨hi, by simp only; omega⟩
theorem ne_ty {w : World} {a b : Nat} {C D : Array Value} {t u : TypeId} {fr fr2 : Nat × Nat} (ha : w.heap[a]? = some (.cells C t fr)) (hb : w.heap[b]? = some (.cells D u fr2)) (h : t ≠ u) : a ≠ b := fun e => by
  subst e
  rw [ha] at hb
  injection hb with hb
  injection hb with _ hb
  exact h hb
theorem likeT (n : Nat) (S : List Tm) (hl : S.length ≤ 1000) : ∀ w v u, WhT w v n S → WhT w u n (sortT S) → Calls Try.prog 15 #[v, u] w fun e w' => e = .returned (.bool true) ∧ Below w.heap.size w w' := fun w v u hv hu => by
  have := like_any v u n n S (sortT S) w hv hu hl
  rw [decide_eq_true ⟨rfl, rfl⟩] at this
  exact this
/-- timers' rows stand while two wheels' variables turn -/
theorem ts_gro2 {w w' : World} {v : Value} {T : List Tm} {g1 g2 : Nat} {C D : Array Value} {t u : TypeId} {fr fr2 : Nat × Nat} (h : TsT w v T) (hg : Gro (fun k => k = g1 ∨ k = g2) w w') (h1 : w.heap[g1]? = some (.cells C t fr)) (h2 : w.heap[g2]? = some (.cells D u fr2)) (ht : t ≠ 53) (hu : u ≠ 53) : TsT w' v T :=
  h.keep fun g E hE => hg.block g (row_lt hE) fun e => by
    rcases e with rfl | rfl
    · rw [h1] at hE
      injection hE with hE
      injection hE with _ hE
      exact ht hE
    · rw [h2] at hE
      injection hE with hE
      injection hE with _ hE
      exact hu hE
set_option maxRecDepth 100000 in
set_option maxHeartbeats 40000000 in
theorem plays_any (n : Nat) (v : Value) (l : List Op16) (w : World) (hv : SlT opA w v l) (hO : ∀ o ∈ l, okO o) (hl : l.length ≤ 140737488351232) (hn : n < 18446744073709551616) :
    Calls Try.prog 3 #[.int .u64 (n : Int), v] w fun e w' => e = .returned (.bool true) ∧ Below w.heap.size w w' := by
  obtain ⟨A, c, rfl, htr, -, hnc, hcm⟩ := hv
  obtain ⟨m, hm⟩ : ∃ m, l.length = m := ⟨_, rfl⟩
  have HM := Lib.hid hm
  rw [hm] at hnc hl ⊢
  have hcm2 : c ≤ 9223372036854775807 := by unfold maxLen at hcm; omega
  have HTR := Lib.hid htr
  have HOK := Lib.hid hO
  obtain ⟨n0, hn0⟩ : ∃ n0, n % 2305843009213693952 = n0 := ⟨_, rfl⟩
  have hr1 : (n : Int).tmod 2305843009213693952 = (n0 : Int) := by rw [Int.tmod_eq_emod_of_nonneg (by omega)]; omega
  have hr2 : (n : Int) % 2305843009213693952 = (n0 : Int) := by omega
  have HN0 : Hid (n0 < 2305843009213693952) := by show _ < _; omega
  clear hm htr hcm hO hn0
  go_enter Try.func3, Try.ntmps3
  go_wp2_with fail
  refine (lives_any _).mono ?_
  rintro e w1 ⟨rfl, hb1⟩
  have HB1 := Lib.hid hb1
  clear hb1
  by_cases h200 : 200 < m
  · have h200b : (200 : Int) < (m : Int) := by omega
    go_wp2_with fail
    refine (lives_any _).mono ?_
    rintro e w2 ⟨rfl, hb2⟩
    have HB2 := Lib.hid (HB1.out.trans (hb2.mono HB1.out.size))
    clear hb2
    go_wp2
    go_ret
    exact ⟨rfl, HB2.out⟩
  have h200b : ¬ (200 : Int) < (m : Int) := by omega
  have HP1 : Hid (((w1.alloc (.cells #[.int .u64 0, .slice none 0 0] 27)).alloc (.cells #[.int .u64 0, .slice none 0 0] 29)).heap[w1.heap.size]? = some (.cells #[.int .u64 0, .slice none 0 0] 27 (0, 0))) := old_alloc (heap_alloc_new w1 _) _
  have HP2 : Hid ((((w1.alloc (.cells #[.int .u64 0, .slice none 0 0] 27)).alloc (.cells #[.int .u64 0, .slice none 0 0] 29)).setRow w1.heap.size #[.int .u64 (n0 : Int), .slice none 0 0]).heap[w1.heap.size + 1]? = some (.cells #[.int .u64 0, .slice none 0 0] 29 (0, 0))) := (setRow_other _ _ _ _ (by omega)).trans (new_at1 w1 _ _)
  go_upto_region 4 with (first | (refine wpList_store_row rfl 27 _ _ rfl w1.heap.size #[.int .u64 (n0 : Int), .slice none 0 0] rfl rfl 27 #[.int .u64 0, .slice none 0 0] HP1.out (by kernel_rfl) rfl (wh_one rfl) ?_) | (refine wpList_store_row rfl 29 _ _ rfl (w1.heap.size + 1) #[.int .u64 (n0 : Int), .slice none 0 0] rfl rfl 29 #[.int .u64 0, .slice none 0 0] HP2.out (by kernel_rfl) rfl (wh_one rfl) ?_) | go_in)
  have HV1 : Hid (((((w1.alloc (.cells #[.int .u64 0, .slice none 0 0] 27)).alloc (.cells #[.int .u64 0, .slice none 0 0] 29)).setRow w1.heap.size #[.int .u64 (n0 : Int), .slice none 0 0]).setRow (w1.heap.size + 1) #[.int .u64 (n0 : Int), .slice none 0 0]).heap[w1.heap.size]? = some (.cells #[.int .u64 (n0 : Int), .slice none 0 0] 27 (0, 0))) := (setRow_other _ _ _ _ (by omega)).trans (setRow_heap _ _ _ _ _ _ HP1.out)
  have HV2 : Hid (((((w1.alloc (.cells #[.int .u64 0, .slice none 0 0] 27)).alloc (.cells #[.int .u64 0, .slice none 0 0] 29)).setRow w1.heap.size #[.int .u64 (n0 : Int), .slice none 0 0]).setRow (w1.heap.size + 1) #[.int .u64 (n0 : Int), .slice none 0 0]).heap[w1.heap.size + 1]? = some (.cells #[.int .u64 (n0 : Int), .slice none 0 0] 29 (0, 0))) := setRow_heap _ _ _ _ _ _ HP2.out
  have HB3 : Hid (Below w.heap.size w ((((w1.alloc (.cells #[.int .u64 0, .slice none 0 0] 27)).alloc (.cells #[.int .u64 0, .slice none 0 0] 29)).setRow w1.heap.size #[.int .u64 (n0 : Int), .slice none 0 0]).setRow (w1.heap.size + 1) #[.int .u64 (n0 : Int), .slice none 0 0])) := below_setRow (below_setRow ((HB1.out.alloc HB1.out.size _).alloc (by have := HB1.out.size; simp; omega) _) HB1.out.size _) (by have := HB1.out.size; omega) _
  generalize (((w1.alloc (.cells #[.int .u64 0, .slice none 0 0] 27)).alloc (.cells #[.int .u64 0, .slice none 0 0] 29)).setRow w1.heap.size #[.int .u64 (n0 : Int), .slice none 0 0]).setRow (w1.heap.size + 1) #[.int .u64 (n0 : Int), .slice none 0 0] = w3 at HV1 HV2 HB3 ⊢
  have hge1 := HB1.out.size
  obtain ⟨g1, hg1⟩ : ∃ g1, w1.heap.size = g1 := ⟨_, rfl⟩
  rw [hg1] at HV1 HV2 hge1 ⊢
  obtain ⟨g2, hg2⟩ : ∃ g2, g1 + 1 = g2 := ⟨_, rfl⟩
  rw [hg2] at HV2 ⊢
  have NE_x1_x2 : Hid (g1 ≠ g2) := by show _ ≠ _; omega
  have NE_x2_x1 : Hid (g2 ≠ g1) := by show _ ≠ _; omega
  have HGE : Hid (∀ k, k = g1 ∨ k = g2 → w.heap.size ≤ k) := fun k hk => by rcases hk with rfl | rfl <;> omega
  clear hg1 hg2 HP1 HP2 HB1 hge1 hr1 hr2
  go_wp2
  go_loopw [40] (fun t40 wr => ∃ (i kn : Nat) (S : List Tm) (s1 s2 : Value), i ≤ m ∧ t40 = .int .i64 (i : Int) ∧ kn ≤ n0 + i ∧ Hid (wr.heap[g1]? = some (.cells #[.int .u64 (kn : Int), s1] 27 (0, 0))) ∧ Hid (wr.heap[g2]? = some (.cells #[.int .u64 (kn : Int), s2] 29 (0, 0))) ∧ Hid (TsT wr s1 (sortT S)) ∧ Hid (TsT wr s2 S) ∧ Hid (rightW kn (sortT S) = true) ∧ Hid (okT S) ∧ Hid (Below w.heap.size w wr)) (fun t40 _ => m - (intOf t40).toNat)
  case atStart => exact ⟨0, n0, [], .slice none 0 0, .slice none 0 0, Nat.zero_le _, rfl, Nat.le_refl _, HV1, HV2, Lib.hid TlT.nil, Lib.hid TlT.nil, Lib.hid (right_new n0 (by have := HN0.out; omega)), Lib.hid (fun t ht => by cases ht), HB3⟩
  case round =>
    clear HV1 HV2 HB3
    obtain ⟨i, kn, S, s1, s2, hi, rfl, hkn, Kx1, Kx2, Ts1, Ts2, HR, HOS, BW⟩ := hrel
    by_cases hlt : i < m
    · obtain ⟨o, ho⟩ : ∃ o, l[i]? = some o := ⟨_, List.getElem?_eq_getElem (by rw [HM.out]; exact hlt)⟩
      obtain ⟨ad, rfl, hKA⟩ := el_all opE (HTR.out.below BW.out (Nat.le_refl _)) (by omega) ho
      have HKC : Hid (∀ (j : Nat) v, (#[.int .i64 o.kind, .int .i64 o.id, .int .u64 (o.after : Int)] : Array Value)[j]? = some v → wr.cell? ((ad.add (i * 3)).add j) = some v) := hKA wr (Below.refl _ _)
      obtain ⟨hok1, hok2, hok3⟩ := HOK.out o (List.mem_of_getElem? ho)
      have HID := Lib.hid hok2
      have haf := hok3
      have hk62 : kn < 4611686018427387904 := by have := HN0.out; omega
      have HLS : Hid (S.length ≤ 64) := by
        show _ ≤ _
        rw [← sort_len S]
        exact (rightW_iff.1 HR.out).1
      have HO1 := Lib.hid Ts1.out.one
      have HO2 := Lib.hid Ts2.out.one
      obtain ⟨kd, hkd⟩ : ∃ kd, o.kind = kd := ⟨_, rfl⟩
      obtain ⟨id, hid⟩ : ∃ id, o.id = id := ⟨_, rfl⟩
      obtain ⟨af, haf2⟩ : ∃ af, o.after = af := ⟨_, rfl⟩
      rw [hkd, hid, haf2] at HKC
      rw [hid] at HID
      rw [haf2] at haf
      clear ho hKA hok1 hok2 hok3 hkd hid haf2
      go_upto_region 7 with (first | (refine wpList_load_atA rfl 31 _ rfl (ad.add (i * 3)) rfl #[.int .i64 kd, .int .i64 id, .int .u64 (af : Int)] _ HKC.out Try.underlying31 rfl (by kernel_rfl) ?_) | (refine wpList_store_new rfl 31 _ _ rfl wr #[.int .i64 0, .int .i64 0, .int .u64 0] #[.int .i64 kd, .int .i64 id, .int .u64 (af : Int)] rfl rfl (by kernel_rfl) rfl (by simp [Value.oneCell']) ?_) | go_in)
      clear HKC
      have NE_x1_o : Hid (g1 ≠ wr.heap.size) := by have := row_lt Kx1.out; show _ ≠ _; omega
      have NE_x2_o : Hid (g2 ≠ wr.heap.size) := by have := row_lt Kx2.out; show _ ≠ _; omega
      have GE_o := Lib.hid BW.out.size
      have Ko_1 : Hid ((wr.alloc (.cells #[.int .i64 kd, .int .i64 id, .int .u64 (af : Int)] 31)).heap[wr.heap.size]? = some (.cells #[.int .i64 kd, .int .i64 id, .int .u64 (af : Int)] 31 (0, 0))) := heap_alloc_new wr _
      have Kx1_2 : Hid ((wr.alloc (.cells #[.int .i64 kd, .int .i64 id, .int .u64 (af : Int)] 31)).heap[g1]? = some (.cells #[.int .u64 (kn : Int), s1] 27 (0, 0))) := old_alloc Kx1.out _
      have Kx2_3 : Hid ((wr.alloc (.cells #[.int .i64 kd, .int .i64 id, .int .u64 (af : Int)] 31)).heap[g2]? = some (.cells #[.int .u64 (kn : Int), s2] 29 (0, 0))) := old_alloc Kx2.out _
      have Ts1_4 : Hid (TsT (wr.alloc (.cells #[.int .i64 kd, .int .i64 id, .int .u64 (af : Int)] 31)) s1 (sortT S)) := Ts1.out.alloc _
      have Ts2_5 : Hid (TsT (wr.alloc (.cells #[.int .i64 kd, .int .i64 id, .int .u64 (af : Int)] 31)) s2 S) := Ts2.out.alloc _
      have B_6 := Lib.hid (BW.out.alloc BW.out.size (.cells #[.int .i64 kd, .int .i64 id, .int .u64 (af : Int)] 31))
      generalize (wr.alloc (.cells #[.int .i64 kd, .int .i64 id, .int .u64 (af : Int)] 31)) = w5 at Ko_1 Kx1_2 Kx2_3 Ts1_4 Ts2_5 B_6 ⊢
      generalize wr.heap.size = go at Ko_1 NE_x1_o NE_x2_o GE_o ⊢
      clear Kx1 Kx2 Ts1 Ts2 BW
      go_wp2_with (refine wpList_load_row rfl 27 _ rfl g1 rfl 27 #[.int .u64 (kn : Int), s1] (0, 0) _ Kx1_2.out Try.underlying27 rfl (by kernel_rfl) ?_)
      refine (clone_any _ kn (sortT S) _ ⟨s1, rfl, Ts1_4.out.slt⟩ (by rw [sort_len]; have := HLS.out; omega)).mono ?_
      rintro e w6 ⟨v9, rfl, hv9, hb⟩
      obtain ⟨s9, rfl, ho9, ht9⟩ := hv9.form
      have T9 := Lib.hid ht9
      have HO9 := Lib.hid ho9
      clear hv9 ht9 ho9
      have Kx1_7 := Lib.hid (old_below Kx1_2.out hb (row_lt Kx1_2.out))
      have Kx2_8 := Lib.hid (old_below Kx2_3.out hb (row_lt Kx2_3.out))
      have Ko_9 := Lib.hid (old_below Ko_1.out hb (row_lt Ko_1.out))
      have Ts1_10 := Lib.hid (Ts1_4.out.below hb)
      have Ts2_11 := Lib.hid (Ts2_5.out.below hb)
      have B_12 := Lib.hid (B_6.out.trans ((hb).mono B_6.out.size))
      clear Kx1_2 Kx2_3 Ko_1 Ts1_4 Ts2_5 B_6
      clear hb
      go_upto_region 8 with (first | (refine wpList_store_new rfl 27 _ _ rfl w6 #[.int .u64 0, .slice none 0 0] #[.int .u64 (kn : Int), s9] rfl rfl (by kernel_rfl) rfl (wh_one HO9.out) ?_) | go_in)
      have NE_x1_w : Hid (g1 ≠ w6.heap.size) := by have := row_lt Kx1_7.out; show _ ≠ _; omega
      have NE_x2_w : Hid (g2 ≠ w6.heap.size) := by have := row_lt Kx2_8.out; show _ ≠ _; omega
      have NE_o_w : Hid (go ≠ w6.heap.size) := by have := row_lt Ko_9.out; show _ ≠ _; omega
      have GE_w := Lib.hid B_12.out.size
      have Kw_13 : Hid ((w6.alloc (.cells #[.int .u64 (kn : Int), s9] 27)).heap[w6.heap.size]? = some (.cells #[.int .u64 (kn : Int), s9] 27 (0, 0))) := heap_alloc_new w6 _
      have Kx1_14 : Hid ((w6.alloc (.cells #[.int .u64 (kn : Int), s9] 27)).heap[g1]? = some (.cells #[.int .u64 (kn : Int), s1] 27 (0, 0))) := old_alloc Kx1_7.out _
      have Kx2_15 : Hid ((w6.alloc (.cells #[.int .u64 (kn : Int), s9] 27)).heap[g2]? = some (.cells #[.int .u64 (kn : Int), s2] 29 (0, 0))) := old_alloc Kx2_8.out _
      have Ko_16 : Hid ((w6.alloc (.cells #[.int .u64 (kn : Int), s9] 27)).heap[go]? = some (.cells #[.int .i64 kd, .int .i64 id, .int .u64 (af : Int)] 31 (0, 0))) := old_alloc Ko_9.out _
      have Ts1_17 : Hid (TsT (w6.alloc (.cells #[.int .u64 (kn : Int), s9] 27)) s1 (sortT S)) := Ts1_10.out.alloc _
      have Ts2_18 : Hid (TsT (w6.alloc (.cells #[.int .u64 (kn : Int), s9] 27)) s2 S) := Ts2_11.out.alloc _
      have Ts9_19 : Hid (TsT (w6.alloc (.cells #[.int .u64 (kn : Int), s9] 27)) s9 (sortT S)) := T9.out.alloc _
      have B_20 := Lib.hid (B_12.out.alloc B_12.out.size (.cells #[.int .u64 (kn : Int), s9] 27))
      generalize (w6.alloc (.cells #[.int .u64 (kn : Int), s9] 27)) = w7 at Kw_13 Kx1_14 Kx2_15 Ko_16 Ts1_17 Ts2_18 Ts9_19 B_20 ⊢
      generalize w6.heap.size = gw at Kw_13 NE_x1_w NE_x2_w NE_o_w GE_w ⊢
      clear Kx1_7 Kx2_8 Ko_9 Ts1_10 Ts2_11 T9 B_12
      apply wp_region_relyV [2, 4, 3, 5] [10, 11] (NewT w7 2 4 10 27 #[.int .u64 0, .slice none 0 0] #[.int .u64 (kn : Int), s1] 3 5 11 29 #[.int .u64 0, .slice none 0 0] #[.int .u64 (kn : Int), s2]) (RL [Is (.agg #[.int .u64 (kn : Int), s1]), Is (.agg #[.int .u64 (kn : Int), s2]), Any, Any, Any, Any]) [false, false, false, false, false, false, false, false, false, false, true, true, false, false, false, false, false, false, false, false, false, false, false, false, false, false, false, false, false, false, false, false, false, false, false, false, false, false, false, false, false, false, false, false, false, false, true, true, false, false, false, false, false, false, false, false, false, false, false, false, false, false, false, false, false, false, false, false, false, false, false, false, false, false, false, false, false, false, false, false, false, false, false, false, false, false, false, false, false, false, false, false, false, false, false, false, false, false, false, false, false, false, false, false, false, false, false, false, false, false, false, false, false, false, false, false, false, false, false, false, false, false, false, false, false, false, false, false, false, false, false, false, false, false, false, false, false, false, false, false, false, false, false, false, false, false, false, false, false, false, false, false, false, false, false, false, false, false, false, false, false, false, false, false, false, false, false, false, false, false, false, false, false, false, false, false, false, false, false, false, false, false, false, false, false, false, false, false, false]
      · kernel_rfl
      · kernel_rfl
      · kernel_rfl
      · refine ⟨?_, ?_, ?_, ?_, ?_, ?_, trivial⟩
        · intro L us ev w' hus hC hL hx hnd K hK
          have e5 : ev (.tmp 5) = _ := hx.base 5 (by kernel_rfl)
          have HK := Lib.hid hK
          have HC := Lib.hid hC
          have HL := Lib.hid hL
          have HX := Lib.hid hx
          have HUS := Lib.hid hus
          have HND := Lib.hid hnd
          have hc := hx.cst
          skip
          clear hx hK hC hL hus hnd
          have q1 : ev (.tmp 5) = .pointer (some ⟨g1, 0, none⟩) := e5
          have hld := run_loadVar_row (P := Try.prog) w' g1 27 27 #[.int .u64 (kn : Int), s1] (0, 0) _ ((HC.out.1.block _ (row_lt Kx1_14.out)).trans Kx1_14.out) Try.underlying27 rfl (by kernel_rfl)
          unfold Run
          rw [rely_load 27 _ rfl q1 hld]
          exact HK.out _ _ (.inl ⟨Below.refl _ _, by decide⟩) rfl
        · intro L us ev w' hus hC hL hx hnd K hK
          have e6 : ev (.tmp 6) = _ := hx.base 6 (by kernel_rfl)
          have HK := Lib.hid hK
          have HC := Lib.hid hC
          have HL := Lib.hid hL
          have HX := Lib.hid hx
          have HUS := Lib.hid hus
          have HND := Lib.hid hnd
          have hc := hx.cst
          skip
          clear hx hK hC hL hus hnd
          have q1 : ev (.tmp 6) = .pointer (some ⟨g2, 0, none⟩) := e6
          have hld := run_loadVar_row (P := Try.prog) w' g2 29 29 #[.int .u64 (kn : Int), s2] (0, 0) _ ((HC.out.1.block _ (row_lt Kx2_15.out)).trans Kx2_15.out) Try.underlying29 rfl (by kernel_rfl)
          unfold Run
          rw [rely_load 29 _ rfl q1 hld]
          exact HK.out _ _ (.inl ⟨Below.refl _ _, by decide⟩) rfl
        · intro L us ev w' hus hC hL hx hnd K hK
          have HK := Lib.hid hK
          have HC := Lib.hid hC
          have HL := Lib.hid hL
          have HX := Lib.hid hx
          have HUS := Lib.hid hus
          have HND := Lib.hid hnd
          have hc := hx.cst
          skip
          clear hx hK hC hL hus hnd
          have nst : L 4 = false := Bool.eq_false_iff.2 fun h => by have := HX.out.closed 4 _ 2 rfl h (by kernel_rfl); rw [HL.out] at this; cases this
          unfold Run
          simp [execOp, Upon, go_sem]
          exact HK.out _ _ (.inr ⟨HC.out.alloc1 nst (by decide) (by decide) (by decide) (by decide), fun j hj hlj u hr => rl_mono (Rs := [Is (.agg #[.int .u64 (kn : Int), s1]), Is (.agg #[.int .u64 (kn : Int), s2]), Any, Any, Any, Any]) ⟨is_mono _, is_mono _, any_mono, any_mono, any_mono, any_mono, trivial⟩ j u _ _ ((Below.refl _ _).alloc (Nat.le_refl _) _) hr⟩) trivial
        · intro L us ev w' hus hC hL hx hnd K hK
          have HK := Lib.hid hK
          have HC := Lib.hid hC
          have HL := Lib.hid hL
          have HX := Lib.hid hx
          have HUS := Lib.hid hus
          have HND := Lib.hid hnd
          have hc := hx.cst
          skip
          clear hx hK hC hL hus hnd
          have nst : L 5 = false := Bool.eq_false_iff.2 fun h => by have := HX.out.closed 5 _ 3 rfl h (by kernel_rfl); rw [HL.out] at this; cases this
          unfold Run
          simp [execOp, Upon, go_sem]
          exact HK.out _ _ (.inr ⟨HC.out.alloc2 nst (by decide) (by decide) (by decide) (by decide), fun j hj hlj u hr => rl_mono (Rs := [Is (.agg #[.int .u64 (kn : Int), s1]), Is (.agg #[.int .u64 (kn : Int), s2]), Any, Any, Any, Any]) ⟨is_mono _, is_mono _, any_mono, any_mono, any_mono, any_mono, trivial⟩ j u _ _ ((Below.refl _ _).alloc (Nat.le_refl _) _) hr⟩) trivial
        · intro L us ev w' hus hC hL hx hnd K hK
          have e10 := hx.held 2 _ rfl (by kernel_rfl)
          have e46 := hx.held 0 _ rfl (by kernel_rfl)
          change (Any : Pred) (ev (.tmp 10)) w' at e10
          change ev (.tmp 46) = _ at e46
          have HK := Lib.hid hK
          have HC := Lib.hid hC
          have HL := Lib.hid hL
          have HX := Lib.hid hx
          have HUS := Lib.hid hus
          have HND := Lib.hid hnd
          have hc := hx.cst
          skip
          clear hx hK hC hL hus hnd
          have qv : ev (.tmp 46) = .agg #[.int .u64 (kn : Int), s1] := e46
          have nst : L 4 = false := HL.out
          have lal : L 2 = true := HND.out 2 (by kernel_rfl)
          obtain ⟨g, hg, -⟩ := HC.out.2.1 lal
          have qp : ev (.tmp 10) = .pointer (some ⟨g, 0, none⟩) := (HUS.out 10).trans hg
          obtain ⟨hgh, hnv⟩ := HC.out.store1 (v := undef) lal nst hg (by decide) (by decide) (by decide)
          have hst := run_storeVar_row (P := Try.prog) w' g 27 27 #[.int .u64 0, .slice none 0 0] #[.int .u64 (kn : Int), s1] hgh (by kernel_rfl) rfl (wh_one HO1.out)
          unfold Run
          rw [rely_store 27 _ _ rfl qp qv hst]
          refine HK.out _ _ (.inr ⟨hnv, fun j hj hlj u hr => ?_⟩) trivial
          rcases j with _ | _ | _ | _ | _ | _ | j
          · exact hr
          · exact hr
          · exact trivial
          · exact trivial
          · exact absurd rfl hj
          · exact trivial
          · exact trivial
        · intro L us ev w' hus hC hL hx hnd K hK
          have e11 := hx.held 3 _ rfl (by kernel_rfl)
          have e47 := hx.held 1 _ rfl (by kernel_rfl)
          change (Any : Pred) (ev (.tmp 11)) w' at e11
          change ev (.tmp 47) = _ at e47
          have HK := Lib.hid hK
          have HC := Lib.hid hC
          have HL := Lib.hid hL
          have HX := Lib.hid hx
          have HUS := Lib.hid hus
          have HND := Lib.hid hnd
          have hc := hx.cst
          skip
          clear hx hK hC hL hus hnd
          have qv : ev (.tmp 47) = .agg #[.int .u64 (kn : Int), s2] := e47
          have nst : L 5 = false := HL.out
          have lal : L 3 = true := HND.out 3 (by kernel_rfl)
          obtain ⟨g, hg, -⟩ := HC.out.2.2.1 lal
          have qp : ev (.tmp 11) = .pointer (some ⟨g, 0, none⟩) := (HUS.out 11).trans hg
          obtain ⟨hgh, hnv⟩ := HC.out.store2 (v := undef) lal nst hg (by decide) (by decide) (by decide)
          have hst := run_storeVar_row (P := Try.prog) w' g 29 29 #[.int .u64 0, .slice none 0 0] #[.int .u64 (kn : Int), s2] hgh (by kernel_rfl) rfl (wh_one HO2.out)
          unfold Run
          rw [rely_store 29 _ _ rfl qp qv hst]
          refine HK.out _ _ (.inr ⟨hnv, fun j hj hlj u hr => ?_⟩) trivial
          rcases j with _ | _ | _ | _ | _ | _ | j
          · exact hr
          · exact hr
          · exact trivial
          · exact trivial
          · exact trivial
          · exact absurd rfl hj
          · exact trivial
      · exact rl_mono ⟨is_mono _, is_mono _, any_mono, any_mono, any_mono, any_mono, trivial⟩
      · exact fun L L' us us' w' h1 h2 hg => hg.agree (h1 2 (by simp)) (h1 4 (by simp)) (h2 10 (by simp)) (h1 3 (by simp)) (h1 5 (by simp)) (h2 11 (by simp))
      · exact fun L us w' w'' hb hg => hg.below hb
      · kernel_rfl
      · exact NewT.start
      · simp
      intro us wr hG hH
      obtain ⟨-, -, -, -, -, -, -⟩ := hH
      simp only [fillM]
      obtain ⟨hB9, hN1, hN2, -⟩ := hG
      obtain ⟨gn1, hgn1, hgb1, hvn1⟩ := hN1 rfl
      obtain ⟨gn2, hgn2, hgb2, hvn2⟩ := hN2 rfl
      rw [hgn1, hgn2]
      have HVN1 : Hid (wr.heap[gn1]? = some (.cells #[.int .u64 (kn : Int), s1] 27 (0, 0))) := hvn1
      have HVN2 : Hid (wr.heap[gn2]? = some (.cells #[.int .u64 (kn : Int), s2] 29 (0, 0))) := hvn2
      have HGB1 := Lib.hid hgb1
      have HGB2 := Lib.hid hgb2
      have HB9 := Lib.hid hB9
      clear hB9 hN1 hN2 hgb1 hgb2 hvn1 hvn2
      generalize us 46 = v46
      generalize us 47 = v47
      clear hgn1 hgn2
      have NE_x1_n1 : Hid (g1 ≠ gn1) := by have := row_lt Kx1_14.out; have := HGB1.out; show _ ≠ _; omega
      have NE_x1_n2 : Hid (g1 ≠ gn2) := by have := row_lt Kx1_14.out; have := HGB2.out; show _ ≠ _; omega
      have NE_x2_n1 : Hid (g2 ≠ gn1) := by have := row_lt Kx2_15.out; have := HGB1.out; show _ ≠ _; omega
      have NE_x2_n2 : Hid (g2 ≠ gn2) := by have := row_lt Kx2_15.out; have := HGB2.out; show _ ≠ _; omega
      have NE_o_n1 : Hid (go ≠ gn1) := by have := row_lt Ko_16.out; have := HGB1.out; show _ ≠ _; omega
      have NE_o_n2 : Hid (go ≠ gn2) := by have := row_lt Ko_16.out; have := HGB2.out; show _ ≠ _; omega
      have NE_w_n1 : Hid (gw ≠ gn1) := by have := row_lt Kw_13.out; have := HGB1.out; show _ ≠ _; omega
      have NE_w_n2 : Hid (gw ≠ gn2) := by have := row_lt Kw_13.out; have := HGB2.out; show _ ≠ _; omega
      have GE_n1 : Hid (w.heap.size ≤ gn1) := Nat.le_trans B_20.out.size HGB1.out
      have GE_n2 : Hid (w.heap.size ≤ gn2) := Nat.le_trans B_20.out.size HGB2.out
      have NE_n1_n2 : Hid (gn1 ≠ gn2) := ne_ty HVN1.out HVN2.out (by decide)
      have NE_n2_n1 : Hid (gn2 ≠ gn1) := Ne.symm NE_n1_n2.out
      have Kx1_21 := Lib.hid (old_below Kx1_14.out HB9.out (row_lt Kx1_14.out))
      have Kx2_22 := Lib.hid (old_below Kx2_15.out HB9.out (row_lt Kx2_15.out))
      have Ko_23 := Lib.hid (old_below Ko_16.out HB9.out (row_lt Ko_16.out))
      have Kw_24 := Lib.hid (old_below Kw_13.out HB9.out (row_lt Kw_13.out))
      have Ts1_25 := Lib.hid (Ts1_17.out.below HB9.out)
      have Ts2_26 := Lib.hid (Ts2_18.out.below HB9.out)
      have Ts9_27 := Lib.hid (Ts9_19.out.below HB9.out)
      have B_28 := Lib.hid (B_20.out.trans ((HB9.out).mono B_20.out.size))
      clear Kx1_14 Kx2_15 Ko_16 Kw_13 Ts1_17 Ts2_18 Ts9_19 B_20
      clear HGB1 HGB2 HB9
      have Kn1 := HVN1
      have Kn2 := HVN2
      clear HVN1 HVN2
      obtain ⟨q, hq, hq5⟩ := u64_rem kd 5 (by decide) (by decide)
      change (IntKind.u64.wrap kd).tmod 5 = (q : Int) at hq
      have hq0 : q = 0 ∨ q = 1 ∨ q = 2 ∨ q = 3 ∨ q = 4 := by omega
      rcases hq0 with rfl | rfl | rfl | rfl | rfl
      · as_aux_lemma =>
          obtain ⟨co0, co1, co2⟩ := three_cells Ko_23.out
          go_upto_region 24 with (fail)
          clear co0 co1 co2
          obtain ⟨⟨S1, z1⟩, hres⟩ : ∃ p, setD kn S id af = p := ⟨_, rfl⟩
          have HRN : Hid (rightW kn (sortT S1) = true) := by
            have := right_set (id := id) (after := af) HR.out
            rw [set_sort, hres] at this
            exact this
          have HOSN : Hid (okT S1) := by
            have := okT_set (after := af) HOS.out (Nat.le_of_lt hk62) HID.out
            rw [hres] at this
            exact this
          have HLSN : Hid (S1.length ≤ 64) := by
            have := setD_len kn S id af HLS.out
            rw [hres] at this
            exact this
          have HCA : Hid (∀ w v, WhT w v kn (sortT S) → Calls Try.prog 9 #[v, .int .i64 id, .int .u64 (af : Int)] w fun e w' => ∃ v', e = .returned (.tuple #[v', .int .i64 z1]) ∧ WhT w' v' kn (sortT S1) ∧ Below w.heap.size w w') := fun w v hv => by
            have := set_any v kn (sortT S) id af w hv.whs HR.out (okT_sort HOS.out) HID.out haf
            rw [set_sort, hres] at this
            exact this
          have HCB : Hid (∀ w v, WhT w v kn S → Calls Try.prog 10 #[v, .int .i64 id, .int .u64 (af : Int)] w fun e w' => ∃ v', e = .returned (.tuple #[v', .int .i64 z1]) ∧ WhT w' v' kn S1 ∧ Below w.heap.size w w') := fun w v hv => by
            have := refset_any v kn S id af w hv (by have := HLS.out; omega) (Nat.le_of_lt hk62) haf
            rw [hres] at this
            exact this
          clear hres
          obtain ⟨co0, co1, co2⟩ := three_cells Ko_23.out
          go_wp2_with (refine wpList_load_row rfl 27 _ rfl g1 rfl 27 #[.int .u64 (kn : Int), s1] (0, 0) _ Kx1_21.out Try.underlying27 rfl (by kernel_rfl) ?_)
          refine (HCA.out _ _ ⟨_, rfl, Ts1_25.out⟩).mono ?_
          rintro e wc0 ⟨vc0, rfl, hv, hb⟩
          obtain ⟨tc0, rfl, ho, ht⟩ := hv.form
          have HOC0 := Lib.hid ho
          have TC0 := Lib.hid ht
          clear co0 co1 co2
          have Kx1_29 := Lib.hid (old_below Kx1_21.out hb (row_lt Kx1_21.out))
          have Kx2_30 := Lib.hid (old_below Kx2_22.out hb (row_lt Kx2_22.out))
          have Ko_31 := Lib.hid (old_below Ko_23.out hb (row_lt Ko_23.out))
          have Kw_32 := Lib.hid (old_below Kw_24.out hb (row_lt Kw_24.out))
          have Kn1_33 := Lib.hid (old_below Kn1.out hb (row_lt Kn1.out))
          have Kn2_34 := Lib.hid (old_below Kn2.out hb (row_lt Kn2.out))
          have Ts1_35 := Lib.hid (Ts1_25.out.below hb)
          have Ts2_36 := Lib.hid (Ts2_26.out.below hb)
          have Ts9_37 := Lib.hid (Ts9_27.out.below hb)
          have B_38 := Lib.hid (B_28.out.trans ((hb).mono B_28.out.size))
          clear Kx1_21 Kx2_22 Ko_23 Kw_24 Kn1 Kn2 Ts1_25 Ts2_26 Ts9_27 B_28
          clear hv ho ht hb
          go_upto_region 25 with (first | (refine wpList_store_row rfl 27 _ _ rfl gn1 #[.int .u64 (kn : Int), tc0] rfl rfl 27 #[.int .u64 (kn : Int), s1] Kn1_33.out (by kernel_rfl) rfl (wh_one HOC0.out) ?_) | go_in)
          have Kx1_39 : Hid ((wc0.setRow gn1 #[.int .u64 (kn : Int), tc0]).heap[g1]? = some (.cells #[.int .u64 (kn : Int), s1] 27 (0, 0))) := (setRow_other _ _ _ _ NE_x1_n1.out).trans Kx1_29.out
          have Kx2_40 : Hid ((wc0.setRow gn1 #[.int .u64 (kn : Int), tc0]).heap[g2]? = some (.cells #[.int .u64 (kn : Int), s2] 29 (0, 0))) := (setRow_other _ _ _ _ NE_x2_n1.out).trans Kx2_30.out
          have Ko_41 : Hid ((wc0.setRow gn1 #[.int .u64 (kn : Int), tc0]).heap[go]? = some (.cells #[.int .i64 kd, .int .i64 id, .int .u64 (af : Int)] 31 (0, 0))) := (setRow_other _ _ _ _ NE_o_n1.out).trans Ko_31.out
          have Kw_42 : Hid ((wc0.setRow gn1 #[.int .u64 (kn : Int), tc0]).heap[gw]? = some (.cells #[.int .u64 (kn : Int), s9] 27 (0, 0))) := (setRow_other _ _ _ _ NE_w_n1.out).trans Kw_32.out
          have Kn1_43 : Hid ((wc0.setRow gn1 #[.int .u64 (kn : Int), tc0]).heap[gn1]? = some (.cells #[.int .u64 (kn : Int), tc0] 27 (0, 0))) := setRow_heap _ _ _ _ _ _ Kn1_33.out
          have Kn2_44 : Hid ((wc0.setRow gn1 #[.int .u64 (kn : Int), tc0]).heap[gn2]? = some (.cells #[.int .u64 (kn : Int), s2] 29 (0, 0))) := (setRow_other _ _ _ _ NE_n2_n1.out).trans Kn2_34.out
          have Ts1_45 : Hid (TsT (wc0.setRow gn1 #[.int .u64 (kn : Int), tc0]) s1 (sortT S)) := Ts1_35.out.setRow Kn1_33.out (by decide) _
          have Ts2_46 : Hid (TsT (wc0.setRow gn1 #[.int .u64 (kn : Int), tc0]) s2 S) := Ts2_36.out.setRow Kn1_33.out (by decide) _
          have Ts9_47 : Hid (TsT (wc0.setRow gn1 #[.int .u64 (kn : Int), tc0]) s9 (sortT S)) := Ts9_37.out.setRow Kn1_33.out (by decide) _
          have Tt1_48 : Hid (TsT (wc0.setRow gn1 #[.int .u64 (kn : Int), tc0]) tc0 (sortT S1)) := TC0.out.setRow Kn1_33.out (by decide) _
          have B_49 := Lib.hid (below_setRow B_38.out GE_n1.out #[.int .u64 (kn : Int), tc0])
          generalize (wc0.setRow gn1 #[.int .u64 (kn : Int), tc0]) = wd0 at Kx1_39 Kx2_40 Ko_41 Kw_42 Kn1_43 Kn2_44 Ts1_45 Ts2_46 Ts9_47 Tt1_48 B_49 ⊢
          clear Kx1_29 Kx2_30 Ko_31 Kw_32 Kn1_33 Kn2_34 Ts1_35 Ts2_36 Ts9_37 TC0 B_38
          obtain ⟨co0, co1, co2⟩ := three_cells Ko_41.out
          go_wp2_with (refine wpList_load_row rfl 29 _ rfl g2 rfl 29 #[.int .u64 (kn : Int), s2] (0, 0) _ Kx2_40.out Try.underlying29 rfl (by kernel_rfl) ?_)
          refine (HCB.out _ _ ⟨_, rfl, Ts2_46.out⟩).mono ?_
          rintro e wc1 ⟨vc1, rfl, hv, hb⟩
          obtain ⟨tc1, rfl, ho, ht⟩ := hv.form
          have HOC1 := Lib.hid ho
          have TC1 := Lib.hid ht
          clear co0 co1 co2
          have Kx1_50 := Lib.hid (old_below Kx1_39.out hb (row_lt Kx1_39.out))
          have Kx2_51 := Lib.hid (old_below Kx2_40.out hb (row_lt Kx2_40.out))
          have Ko_52 := Lib.hid (old_below Ko_41.out hb (row_lt Ko_41.out))
          have Kw_53 := Lib.hid (old_below Kw_42.out hb (row_lt Kw_42.out))
          have Kn1_54 := Lib.hid (old_below Kn1_43.out hb (row_lt Kn1_43.out))
          have Kn2_55 := Lib.hid (old_below Kn2_44.out hb (row_lt Kn2_44.out))
          have Ts1_56 := Lib.hid (Ts1_45.out.below hb)
          have Ts2_57 := Lib.hid (Ts2_46.out.below hb)
          have Ts9_58 := Lib.hid (Ts9_47.out.below hb)
          have Tt1_59 := Lib.hid (Tt1_48.out.below hb)
          have B_60 := Lib.hid (B_49.out.trans ((hb).mono B_49.out.size))
          clear Kx1_39 Kx2_40 Ko_41 Kw_42 Kn1_43 Kn2_44 Ts1_45 Ts2_46 Ts9_47 Tt1_48 B_49
          clear hv ho ht hb
          go_upto_region 26 with (first | (refine wpList_store_row rfl 29 _ _ rfl gn2 #[.int .u64 (kn : Int), tc1] rfl rfl 29 #[.int .u64 (kn : Int), s2] Kn2_55.out (by kernel_rfl) rfl (wh_one HOC1.out) ?_) | go_in)
          have Kx1_61 : Hid ((wc1.setRow gn2 #[.int .u64 (kn : Int), tc1]).heap[g1]? = some (.cells #[.int .u64 (kn : Int), s1] 27 (0, 0))) := (setRow_other _ _ _ _ NE_x1_n2.out).trans Kx1_50.out
          have Kx2_62 : Hid ((wc1.setRow gn2 #[.int .u64 (kn : Int), tc1]).heap[g2]? = some (.cells #[.int .u64 (kn : Int), s2] 29 (0, 0))) := (setRow_other _ _ _ _ NE_x2_n2.out).trans Kx2_51.out
          have Ko_63 : Hid ((wc1.setRow gn2 #[.int .u64 (kn : Int), tc1]).heap[go]? = some (.cells #[.int .i64 kd, .int .i64 id, .int .u64 (af : Int)] 31 (0, 0))) := (setRow_other _ _ _ _ NE_o_n2.out).trans Ko_52.out
          have Kw_64 : Hid ((wc1.setRow gn2 #[.int .u64 (kn : Int), tc1]).heap[gw]? = some (.cells #[.int .u64 (kn : Int), s9] 27 (0, 0))) := (setRow_other _ _ _ _ NE_w_n2.out).trans Kw_53.out
          have Kn1_65 : Hid ((wc1.setRow gn2 #[.int .u64 (kn : Int), tc1]).heap[gn1]? = some (.cells #[.int .u64 (kn : Int), tc0] 27 (0, 0))) := (setRow_other _ _ _ _ NE_n1_n2.out).trans Kn1_54.out
          have Kn2_66 : Hid ((wc1.setRow gn2 #[.int .u64 (kn : Int), tc1]).heap[gn2]? = some (.cells #[.int .u64 (kn : Int), tc1] 29 (0, 0))) := setRow_heap _ _ _ _ _ _ Kn2_55.out
          have Ts1_67 : Hid (TsT (wc1.setRow gn2 #[.int .u64 (kn : Int), tc1]) s1 (sortT S)) := Ts1_56.out.setRow Kn2_55.out (by decide) _
          have Ts2_68 : Hid (TsT (wc1.setRow gn2 #[.int .u64 (kn : Int), tc1]) s2 S) := Ts2_57.out.setRow Kn2_55.out (by decide) _
          have Ts9_69 : Hid (TsT (wc1.setRow gn2 #[.int .u64 (kn : Int), tc1]) s9 (sortT S)) := Ts9_58.out.setRow Kn2_55.out (by decide) _
          have Tt1_70 : Hid (TsT (wc1.setRow gn2 #[.int .u64 (kn : Int), tc1]) tc0 (sortT S1)) := Tt1_59.out.setRow Kn2_55.out (by decide) _
          have Tt2_71 : Hid (TsT (wc1.setRow gn2 #[.int .u64 (kn : Int), tc1]) tc1 S1) := TC1.out.setRow Kn2_55.out (by decide) _
          have B_72 := Lib.hid (below_setRow B_60.out GE_n2.out #[.int .u64 (kn : Int), tc1])
          generalize (wc1.setRow gn2 #[.int .u64 (kn : Int), tc1]) = wd1 at Kx1_61 Kx2_62 Ko_63 Kw_64 Kn1_65 Kn2_66 Ts1_67 Ts2_68 Ts9_69 Tt1_70 Tt2_71 B_72 ⊢
          clear Kx1_50 Kx2_51 Ko_52 Kw_53 Kn1_54 Kn2_55 Ts1_56 Ts2_57 Ts9_58 Tt1_59 TC1 B_60
          have HLK1 := Lib.hid (likeT (kn) S1 (by have := HLSN.out; omega))
          have HLK0 := Lib.hid (likeT kn S (by have := HLS.out; omega))
          have HRI : Hid (∀ w v, WhT w v (kn) (sortT S1) → Calls Try.prog 16 #[v] w fun e w' => e = .returned (.bool true) ∧ Below w.heap.size w w') := fun w v hv => by
            have := right_any v (kn) (sortT S1) w hv.whs (by omega) (okT_sort HOSN.out) (by rw [sort_len]; have := HLSN.out; omega)
            rw [HRN.out] at this
            exact this
          have HDU : Hid (∀ w v, WhT w v (kn) (sortT S1) → Calls Try.prog 17 #[v, .int .i64 id] w fun e w' => e = .returned (.tuple #[.int .u64 ((dueC (sortT S1) id).1 : Int), .bool (dueC (sortT S1) id).2]) ∧ Below w.heap.size w w') := fun w v hv => due_any v (kn) (sortT S1) id w hv.whs HRN.out (okT_sort HOSN.out) HID.out
          obtain ⟨hfd1, hfd2⟩ := due_found S1 id
          obtain ⟨dd, hdd⟩ : ∃ dd, (dueC (sortT S1) id).1 = dd := ⟨_, rfl⟩
          obtain ⟨ff, hff⟩ : ∃ ff, (dueC (sortT S1) id).2 = ff := ⟨_, rfl⟩
          rw [hdd, hff] at HDU hfd1 hfd2
          have HFD1 := Lib.hid hfd1
          have HFD2 := Lib.hid hfd2
          clear hfd1 hfd2 hdd hff
          obtain ⟨cn10, cn11⟩ := two_cells Kn1_65.out
          obtain ⟨cn20, cn21⟩ := two_cells Kn2_66.out
          go_wp2_with fail
          refine (HLK1.out _ _ _ ⟨_, rfl, Tt2_71.out⟩ ⟨_, rfl, Tt1_70.out⟩).mono ?_
          rintro e wb1 ⟨rfl, hb⟩
          clear cn10 cn11 cn20 cn21
          have Kx1_73 := Lib.hid (old_below Kx1_61.out hb (row_lt Kx1_61.out))
          have Kx2_74 := Lib.hid (old_below Kx2_62.out hb (row_lt Kx2_62.out))
          have Ko_75 := Lib.hid (old_below Ko_63.out hb (row_lt Ko_63.out))
          have Kw_76 := Lib.hid (old_below Kw_64.out hb (row_lt Kw_64.out))
          have Kn1_77 := Lib.hid (old_below Kn1_65.out hb (row_lt Kn1_65.out))
          have Kn2_78 := Lib.hid (old_below Kn2_66.out hb (row_lt Kn2_66.out))
          have Ts1_79 := Lib.hid (Ts1_67.out.below hb)
          have Ts2_80 := Lib.hid (Ts2_68.out.below hb)
          have Ts9_81 := Lib.hid (Ts9_69.out.below hb)
          have Tt1_82 := Lib.hid (Tt1_70.out.below hb)
          have Tt2_83 := Lib.hid (Tt2_71.out.below hb)
          have B_84 := Lib.hid (B_72.out.trans ((hb).mono B_72.out.size))
          clear Kx1_61 Kx2_62 Ko_63 Kw_64 Kn1_65 Kn2_66 Ts1_67 Ts2_68 Ts9_69 Tt1_70 Tt2_71 B_72
          clear hb
          obtain ⟨cn10, cn11⟩ := two_cells Kn1_77.out
          go_wp2_with fail
          refine (HRI.out _ _ ⟨_, rfl, Tt1_82.out⟩).mono ?_
          rintro e wb2 ⟨rfl, hb⟩
          clear cn10 cn11
          have Kx1_85 := Lib.hid (old_below Kx1_73.out hb (row_lt Kx1_73.out))
          have Kx2_86 := Lib.hid (old_below Kx2_74.out hb (row_lt Kx2_74.out))
          have Ko_87 := Lib.hid (old_below Ko_75.out hb (row_lt Ko_75.out))
          have Kw_88 := Lib.hid (old_below Kw_76.out hb (row_lt Kw_76.out))
          have Kn1_89 := Lib.hid (old_below Kn1_77.out hb (row_lt Kn1_77.out))
          have Kn2_90 := Lib.hid (old_below Kn2_78.out hb (row_lt Kn2_78.out))
          have Ts1_91 := Lib.hid (Ts1_79.out.below hb)
          have Ts2_92 := Lib.hid (Ts2_80.out.below hb)
          have Ts9_93 := Lib.hid (Ts9_81.out.below hb)
          have Tt1_94 := Lib.hid (Tt1_82.out.below hb)
          have Tt2_95 := Lib.hid (Tt2_83.out.below hb)
          have B_96 := Lib.hid (B_84.out.trans ((hb).mono B_84.out.size))
          clear Kx1_73 Kx2_74 Ko_75 Kw_76 Kn1_77 Kn2_78 Ts1_79 Ts2_80 Ts9_81 Tt1_82 Tt2_83 B_84
          clear hb
          obtain ⟨cx10, cx11⟩ := two_cells Kx1_85.out
          obtain ⟨cx20, cx21⟩ := two_cells Kx2_86.out
          go_wp2_with fail
          refine (HLK0.out _ _ _ ⟨_, rfl, Ts2_92.out⟩ ⟨_, rfl, Ts1_91.out⟩).mono ?_
          rintro e wb3 ⟨rfl, hb⟩
          clear cx10 cx11 cx20 cx21
          have Kx1_97 := Lib.hid (old_below Kx1_85.out hb (row_lt Kx1_85.out))
          have Kx2_98 := Lib.hid (old_below Kx2_86.out hb (row_lt Kx2_86.out))
          have Ko_99 := Lib.hid (old_below Ko_87.out hb (row_lt Ko_87.out))
          have Kw_100 := Lib.hid (old_below Kw_88.out hb (row_lt Kw_88.out))
          have Kn1_101 := Lib.hid (old_below Kn1_89.out hb (row_lt Kn1_89.out))
          have Kn2_102 := Lib.hid (old_below Kn2_90.out hb (row_lt Kn2_90.out))
          have Ts1_103 := Lib.hid (Ts1_91.out.below hb)
          have Ts2_104 := Lib.hid (Ts2_92.out.below hb)
          have Ts9_105 := Lib.hid (Ts9_93.out.below hb)
          have Tt1_106 := Lib.hid (Tt1_94.out.below hb)
          have Tt2_107 := Lib.hid (Tt2_95.out.below hb)
          have B_108 := Lib.hid (B_96.out.trans ((hb).mono B_96.out.size))
          clear Kx1_85 Kx2_86 Ko_87 Kw_88 Kn1_89 Kn2_90 Ts1_91 Ts2_92 Ts9_93 Tt1_94 Tt2_95 B_96
          clear hb
          obtain ⟨cx20, cx21⟩ := two_cells Kx2_98.out
          obtain ⟨cw0, cw1⟩ := two_cells Kw_100.out
          go_wp2_with fail
          refine (HLK0.out _ _ _ ⟨_, rfl, Ts2_104.out⟩ ⟨_, rfl, Ts9_105.out⟩).mono ?_
          rintro e wb4 ⟨rfl, hb⟩
          clear cx20 cx21 cw0 cw1
          have Kx1_109 := Lib.hid (old_below Kx1_97.out hb (row_lt Kx1_97.out))
          have Kx2_110 := Lib.hid (old_below Kx2_98.out hb (row_lt Kx2_98.out))
          have Ko_111 := Lib.hid (old_below Ko_99.out hb (row_lt Ko_99.out))
          have Kw_112 := Lib.hid (old_below Kw_100.out hb (row_lt Kw_100.out))
          have Kn1_113 := Lib.hid (old_below Kn1_101.out hb (row_lt Kn1_101.out))
          have Kn2_114 := Lib.hid (old_below Kn2_102.out hb (row_lt Kn2_102.out))
          have Ts1_115 := Lib.hid (Ts1_103.out.below hb)
          have Ts2_116 := Lib.hid (Ts2_104.out.below hb)
          have Ts9_117 := Lib.hid (Ts9_105.out.below hb)
          have Tt1_118 := Lib.hid (Tt1_106.out.below hb)
          have Tt2_119 := Lib.hid (Tt2_107.out.below hb)
          have B_120 := Lib.hid (B_108.out.trans ((hb).mono B_108.out.size))
          clear Kx1_97 Kx2_98 Ko_99 Kw_100 Kn1_101 Kn2_102 Ts1_103 Ts2_104 Ts9_105 Tt1_106 Tt2_107 B_108
          clear hb
          obtain ⟨cn10, cn11⟩ := two_cells Kn1_113.out
          obtain ⟨co0, co1, co2⟩ := three_cells Ko_111.out
          go_wp2_with fail
          refine (HDU.out _ _ ⟨_, rfl, Tt1_118.out⟩).mono ?_
          rintro e wb5 ⟨rfl, hb⟩
          clear cn10 cn11 co0 co1 co2
          have Kx1_121 := Lib.hid (old_below Kx1_109.out hb (row_lt Kx1_109.out))
          have Kx2_122 := Lib.hid (old_below Kx2_110.out hb (row_lt Kx2_110.out))
          have Ko_123 := Lib.hid (old_below Ko_111.out hb (row_lt Ko_111.out))
          have Kw_124 := Lib.hid (old_below Kw_112.out hb (row_lt Kw_112.out))
          have Kn1_125 := Lib.hid (old_below Kn1_113.out hb (row_lt Kn1_113.out))
          have Kn2_126 := Lib.hid (old_below Kn2_114.out hb (row_lt Kn2_114.out))
          have Ts1_127 := Lib.hid (Ts1_115.out.below hb)
          have Ts2_128 := Lib.hid (Ts2_116.out.below hb)
          have Ts9_129 := Lib.hid (Ts9_117.out.below hb)
          have Tt1_130 := Lib.hid (Tt1_118.out.below hb)
          have Tt2_131 := Lib.hid (Tt2_119.out.below hb)
          have B_132 := Lib.hid (B_120.out.trans ((hb).mono B_120.out.size))
          clear Kx1_109 Kx2_110 Ko_111 Kw_112 Kn1_113 Kn2_114 Ts1_115 Ts2_116 Ts9_117 Tt1_118 Tt2_119 B_120
          clear hb
          obtain ⟨p, hp⟩ : ∃ p, S1.length = p := ⟨_, rfl⟩
          have HPL := Lib.hid hp
          obtain ⟨A2, c2, ht2, hr2, -, hl2, hc2⟩ := Tt2_131.out
          rw [hp] at ht2 hl2
          subst ht2
          have HR2 := Lib.hid hr2.rd
          have hc2b : c2 ≤ 9223372036854775807 := by unfold maxLen at hc2; omega
          clear hp hr2 hc2
          obtain ⟨cn20, cn21⟩ := two_cells Kn2_126.out
          go_wp2
          clear cn20 cn21
          go_loopw [21, 156] (fun t21 t156 wr => ∃ j : Nat, j ≤ p ∧ t156 = .int .i64 (j : Int) ∧ t21 = .bool (foundD (S1.take j) id dd) ∧ Hid (Below wb5.heap.size wb5 wr)) (fun _ t156 _ => p - (intOf t156).toNat)
          case atStart => exact ⟨0, Nat.zero_le _, rfl, rfl, Lib.hid (Below.refl _ _)⟩
          case round =>
            obtain ⟨j, hj, rfl, rfl, HBI⟩ := hrel
            by_cases hlt2 : j < p
            · obtain ⟨y, hy⟩ : ∃ y, S1[j]? = some y := ⟨_, List.getElem?_eq_getElem (by rw [HPL.out]; exact hlt2)⟩
              obtain ⟨yd, rfl, hKY⟩ := el_all tmE (Rs.below HR2.out HBI.out (Nat.le_refl _)) (by omega) hy
              have HKY : Hid (∀ (q : Nat) v, (#[.int .i64 y.id, .int .u64 (y.due : Int)] : Array Value)[q]? = some v → wr.cell? ((yd.add (j * 2)).add q) = some v) := hKY wr (Below.refl _ _)
              have HFS := Lib.hid (found_snoc hy id dd)
              have HOI := Lib.hid (old_below Ko_123.out HBI.out (row_lt Ko_123.out))
              clear hy hKY
              obtain ⟨wy, hwy⟩ : ∃ wy, wr.alloc (.cells #[.int .i64 y.id, .int .u64 (y.due : Int)] 53) = wy := ⟨_, rfl⟩
              have HY5 : Hid (wy.heap[wr.heap.size]? = some (.cells #[.int .i64 y.id, .int .u64 (y.due : Int)] 53 (0, 0))) := by rw [← hwy]; exact heap_alloc_new wr _
              have HO5 : Hid (wy.heap[go]? = some (.cells #[.int .i64 kd, .int .i64 id, .int .u64 (af : Int)] 31 (0, 0))) := by rw [← hwy]; exact old_alloc HOI.out _
              have HB5 : Hid (Below wb5.heap.size wb5 wy) := by rw [← hwy]; exact HBI.out.alloc HBI.out.size _
              have HWY := Lib.hid hwy
              clear hwy
              go_upto_region 41 with (first | (refine wpList_load_atA rfl 53 _ rfl (yd.add (j * 2)) rfl #[.int .i64 y.id, .int .u64 (y.due : Int)] _ HKY.out Try.underlying53 rfl (by kernel_rfl) ?_) | (refine wpList_store_new rfl 53 _ _ rfl wr #[.int .i64 0, .int .u64 0] #[.int .i64 y.id, .int .u64 (y.due : Int)] rfl rfl (by kernel_rfl) rfl (by simp [Value.oneCell']) ?_) | go_in)
              rw [HWY.out]
              clear HWY HKY
              generalize wr.heap.size = gy at HY5 ⊢
              obtain ⟨y0, y1⟩ := two_cells HY5.out
              obtain ⟨o0, o1, o2⟩ := three_cells HO5.out
              generalize foundD (S1.take j) id dd = fb at HFS ⊢
              cases fb
              · by_cases hyi : y.id = id
                · by_cases hyd : y.due = dd
                  · have hydi : (y.due : Int) = (dd : Int) := by omega
                    have HF2 : Hid (foundD (S1.take (j + 1)) id dd = true) := by show _ = _; rw [HFS.out, decide_eq_true hyi, decide_eq_true hyd]; rfl
                    go_wp2
                    go_roundw
                    case rel => exact ⟨j + 1, by omega, by go_num, by rw [HF2.out] <;> first | rfl | simp [*], HB5⟩
                    case measure => simp [intOf]; omega
                  · have hydi : ¬ (y.due : Int) = (dd : Int) := by omega
                    have hydb : ((y.due : Int) == (dd : Int)) = false := beq_eq_false_iff_ne.2 hydi
                    have HF2 : Hid (foundD (S1.take (j + 1)) id dd = false) := by show _ = _; rw [HFS.out, decide_eq_true hyi, decide_eq_false hyd]; rfl
                    go_wp2
                    go_roundw
                    case rel => exact ⟨j + 1, by omega, by go_num, by rw [HF2.out] <;> first | rfl | simp [*], HB5⟩
                    case measure => simp [intOf]; omega
                · have HF2 : Hid (foundD (S1.take (j + 1)) id dd = false) := by show _ = _; rw [HFS.out, decide_eq_false hyi]; rfl
                  have hyib : (y.id == id) = false := beq_eq_false_iff_ne.2 hyi
                  go_wp2
                  go_roundw
                  case rel => exact ⟨j + 1, by omega, by go_num, by rw [HF2.out] <;> first | rfl | simp [*], HB5⟩
                  case measure => simp [intOf]; omega
              · have HF2 : Hid (foundD (S1.take (j + 1)) id dd = true) := by show _ = _; rw [HFS.out, Bool.true_or]
                go_wp2
                go_roundw
                case rel => exact ⟨j + 1, by omega, by go_num, by rw [HF2.out] <;> first | rfl | simp [*], HB5⟩
                case measure => simp [intOf]; omega
            · obtain rfl : j = p := by omega
              have HTK : Hid (S1.take j = S1) := List.take_of_length_le (Nat.le_of_eq HPL.out)
              rw [HTK.out, HFD1.out]
              have Kx1_133 := Lib.hid (old_below Kx1_121.out HBI.out (row_lt Kx1_121.out))
              have Kx2_134 := Lib.hid (old_below Kx2_122.out HBI.out (row_lt Kx2_122.out))
              have Ko_135 := Lib.hid (old_below Ko_123.out HBI.out (row_lt Ko_123.out))
              have Kw_136 := Lib.hid (old_below Kw_124.out HBI.out (row_lt Kw_124.out))
              have Kn1_137 := Lib.hid (old_below Kn1_125.out HBI.out (row_lt Kn1_125.out))
              have Kn2_138 := Lib.hid (old_below Kn2_126.out HBI.out (row_lt Kn2_126.out))
              have Ts1_139 := Lib.hid (Ts1_127.out.below HBI.out)
              have Ts2_140 := Lib.hid (Ts2_128.out.below HBI.out)
              have Ts9_141 := Lib.hid (Ts9_129.out.below HBI.out)
              have Tt1_142 := Lib.hid (Tt1_130.out.below HBI.out)
              have Tt2_143 := Lib.hid (Tt2_131.out.below HBI.out)
              have B_144 := Lib.hid (B_132.out.trans ((HBI.out).mono B_132.out.size))
              clear Kx1_121 Kx2_122 Ko_123 Kw_124 Kn1_125 Kn2_126 Ts1_127 Ts2_128 Ts9_129 Tt1_130 Tt2_131 B_132
              have HOT1 := Lib.hid Tt1_142.out.one
              have HOT2 : Hid ((Value.slice A2 j c2).oneCell' = true) := rfl
              cases ff
              · have hdz : dd = 0 := HFD2.out rfl
                subst hdz
                go_upto_region 45 with (fail)
                apply wp_region_relyG [2, 3] (OldT wr 2 g1 27 #[.int .u64 (kn : Int), s1] #[.int .u64 (kn : Int), tc0] 3 g2 29 #[.int .u64 (kn : Int), s2] #[.int .u64 (kn : Int), .slice A2 j c2]) (RL [Is (.agg #[.int .u64 (kn : Int), tc0]), Is (.agg #[.int .u64 (kn : Int), .slice A2 j c2]), Any, Any]) [false, false, false, false, false, false, false, false, false, false, false, false, false, false, false, false, false, false, false, false, false, false, false, false, false, false, false, false, false, false, false, false, false, false, false, false, false, false, false, false, false, false, false, false, false, false, false, false, false, false, false, false, false, false, false, false, false, false, false, false, false, false, false, false, false, false, false, false, false, false, false, false, false, false, false, false, false, false, false, false, false, false, false, false, false, false, false, false, false, false, false, false, false, false, false, false, false, false, false, false, false, false, false, false, false, false, false, false, false, false, false, false, false, false, false, false, false, false, false, false, false, false, false, false, false, false, false, false, false, false, false, false, false, false, false, false, false, false, false, false, false, false, false, false, false, false, false, false, false, false, false, false, false, false, false, false, false, false, false, false, false, false, false, false, false, false, false, false, false, false, false, false, false, false, false, false, false, false, false, false, false, false, false, false, false, false, true, true, false]
                · kernel_rfl
                · kernel_rfl
                · kernel_rfl
                · refine ⟨?_, ?_, ?_, ?_, trivial⟩
                  · intro L ev w' hC hL hx K hK
                    have e10 : ev (.tmp 10) = _ := hx.base 10 (by kernel_rfl)
                    have HK := Lib.hid hK
                    have HC := Lib.hid hC
                    have HL := Lib.hid hL
                    have HX := Lib.hid hx
                    have hc := hx.cst
                    skip
                    clear hx hK hC hL
                    have q1 : ev (.tmp 10) = .pointer (some ⟨gn1, 0, none⟩) := e10
                    have hld := run_loadVar_row (P := Try.prog) w' gn1 27 27 #[.int .u64 (kn : Int), tc0] (0, 0) _ (HC.out.keep Kn1_137.out (Ne.symm NE_x1_n1.out) (Ne.symm NE_x2_n1.out)) Try.underlying27 rfl (by kernel_rfl)
                    unfold Run
                    rw [rely_load 27 _ rfl q1 hld]
                    exact HK.out _ _ (.inl ⟨Below.refl _ _, by decide⟩) rfl
                  · intro L ev w' hC hL hx K hK
                    have e11 : ev (.tmp 11) = _ := hx.base 11 (by kernel_rfl)
                    have HK := Lib.hid hK
                    have HC := Lib.hid hC
                    have HL := Lib.hid hL
                    have HX := Lib.hid hx
                    have hc := hx.cst
                    skip
                    clear hx hK hC hL
                    have q1 : ev (.tmp 11) = .pointer (some ⟨gn2, 0, none⟩) := e11
                    have hld := run_loadVar_row (P := Try.prog) w' gn2 29 29 #[.int .u64 (kn : Int), .slice A2 j c2] (0, 0) _ (HC.out.keep Kn2_138.out (Ne.symm NE_x1_n2.out) (Ne.symm NE_x2_n2.out)) Try.underlying29 rfl (by kernel_rfl)
                    unfold Run
                    rw [rely_load 29 _ rfl q1 hld]
                    exact HK.out _ _ (.inl ⟨Below.refl _ _, by decide⟩) rfl
                  · intro L ev w' hC hL hx K hK
                    have e5 : ev (.tmp 5) = _ := hx.base 5 (by kernel_rfl)
                    have e186 := hx.held 0 _ rfl (by kernel_rfl)
                    change ev (.tmp 186) = _ at e186
                    have HK := Lib.hid hK
                    have HC := Lib.hid hC
                    have HL := Lib.hid hL
                    have HX := Lib.hid hx
                    have hc := hx.cst
                    skip
                    clear hx hK hC hL
                    have qv : ev (.tmp 186) = .agg #[.int .u64 (kn : Int), tc0] := e186
                    have nst : L 2 = false := HL.out
                    have qp : ev (.tmp 5) = .pointer (some ⟨g1, 0, none⟩) := e5
                    have hgh := HC.out.old1 nst
                    have hnv := HC.out.store1 nst rfl NE_x1_x2.out (by decide)
                    have hst := run_storeVar_row (P := Try.prog) w' g1 27 27 #[.int .u64 (kn : Int), s1] #[.int .u64 (kn : Int), tc0] hgh (by kernel_rfl) rfl (wh_one HOT1.out)
                    unfold Run
                    rw [rely_store 27 _ _ rfl qp qv hst]
                    refine HK.out _ _ (.inr ⟨hnv, fun j hj hlj u hr => ?_⟩) trivial
                    rcases j with _ | _ | _ | _ | j
                    · exact hr
                    · exact hr
                    · exact absurd rfl hj
                    · exact trivial
                    · exact trivial
                  · intro L ev w' hC hL hx K hK
                    have e6 : ev (.tmp 6) = _ := hx.base 6 (by kernel_rfl)
                    have e187 := hx.held 1 _ rfl (by kernel_rfl)
                    change ev (.tmp 187) = _ at e187
                    have HK := Lib.hid hK
                    have HC := Lib.hid hC
                    have HL := Lib.hid hL
                    have HX := Lib.hid hx
                    have hc := hx.cst
                    skip
                    clear hx hK hC hL
                    have qv : ev (.tmp 187) = .agg #[.int .u64 (kn : Int), .slice A2 j c2] := e187
                    have nst : L 3 = false := HL.out
                    have qp : ev (.tmp 6) = .pointer (some ⟨g2, 0, none⟩) := e6
                    have hgh := HC.out.old2 nst
                    have hnv := HC.out.store2 nst rfl NE_x1_x2.out (by decide)
                    have hst := run_storeVar_row (P := Try.prog) w' g2 29 29 #[.int .u64 (kn : Int), s2] #[.int .u64 (kn : Int), .slice A2 j c2] hgh (by kernel_rfl) rfl (wh_one HOT2.out)
                    unfold Run
                    rw [rely_store 29 _ _ rfl qp qv hst]
                    refine HK.out _ _ (.inr ⟨hnv, fun j hj hlj u hr => ?_⟩) trivial
                    rcases j with _ | _ | _ | _ | j
                    · exact hr
                    · exact hr
                    · exact trivial
                    · exact absurd rfl hj
                    · exact trivial
                · exact rl_mono ⟨is_mono _, is_mono _, any_mono, any_mono, trivial⟩
                · exact fun L L' w' h1 hg => hg.agree (h1 2 (by simp)) (h1 3 (by simp))
                · exact fun L w' w'' hb hg => hg.below hb
                · exact OldT.start Kx1_133.out Kx2_134.out
                · simp
                intro us wr hG hH
                obtain ⟨-, -, -, -, -⟩ := hH
                simp only [fillM]
                obtain ⟨hG9, hvn1, hvn2⟩ := hG
                have HVN1 : Hid (wr.heap[g1]? = some (.cells #[.int .u64 (kn : Int), tc0] 27 (0, 0))) := hvn1
                have HVN2 : Hid (wr.heap[g2]? = some (.cells #[.int .u64 (kn : Int), .slice A2 j c2] 29 (0, 0))) := hvn2
                have HG9 := Lib.hid hG9
                clear hG9 hvn1 hvn2
                generalize us 186 = v186
                generalize us 187 = v187
                have HT1 := Lib.hid (ts_gro2 Tt1_142.out HG9.out Kx1_133.out Kx2_134.out (by decide) (by decide))
                have HT2 := Lib.hid (ts_gro2 Tt2_143.out HG9.out Kx1_133.out Kx2_134.out (by decide) (by decide))
                have HBF := Lib.hid (B_144.out.trans (HG9.out.below HGE.out B_144.out.size))
                go_wp2
                go_roundw
                case rel => exact ⟨i + 1, kn, S1, _, _, by omega, by go_num, by omega, HVN1, HVN2, HT1, HT2, HRN, HOSN, HBF⟩
                case measure => simp [intOf]; omega
              · go_upto_region 45 with (fail)
                apply wp_region_relyG [2, 3] (OldT wr 2 g1 27 #[.int .u64 (kn : Int), s1] #[.int .u64 (kn : Int), tc0] 3 g2 29 #[.int .u64 (kn : Int), s2] #[.int .u64 (kn : Int), .slice A2 j c2]) (RL [Is (.agg #[.int .u64 (kn : Int), tc0]), Is (.agg #[.int .u64 (kn : Int), .slice A2 j c2]), Any, Any]) [false, false, false, false, false, false, false, false, false, false, false, false, false, false, false, false, false, false, false, false, false, false, false, false, false, false, false, false, false, false, false, false, false, false, false, false, false, false, false, false, false, false, false, false, false, false, false, false, false, false, false, false, false, false, false, false, false, false, false, false, false, false, false, false, false, false, false, false, false, false, false, false, false, false, false, false, false, false, false, false, false, false, false, false, false, false, false, false, false, false, false, false, false, false, false, false, false, false, false, false, false, false, false, false, false, false, false, false, false, false, false, false, false, false, false, false, false, false, false, false, false, false, false, false, false, false, false, false, false, false, false, false, false, false, false, false, false, false, false, false, false, false, false, false, false, false, false, false, false, false, false, false, false, false, false, false, false, false, false, false, false, false, false, false, false, false, false, false, false, false, false, false, false, false, false, false, false, false, false, false, false, false, false, false, false, false, true, true, false]
                · kernel_rfl
                · kernel_rfl
                · kernel_rfl
                · refine ⟨?_, ?_, ?_, ?_, trivial⟩
                  · intro L ev w' hC hL hx K hK
                    have e10 : ev (.tmp 10) = _ := hx.base 10 (by kernel_rfl)
                    have HK := Lib.hid hK
                    have HC := Lib.hid hC
                    have HL := Lib.hid hL
                    have HX := Lib.hid hx
                    have hc := hx.cst
                    skip
                    clear hx hK hC hL
                    have q1 : ev (.tmp 10) = .pointer (some ⟨gn1, 0, none⟩) := e10
                    have hld := run_loadVar_row (P := Try.prog) w' gn1 27 27 #[.int .u64 (kn : Int), tc0] (0, 0) _ (HC.out.keep Kn1_137.out (Ne.symm NE_x1_n1.out) (Ne.symm NE_x2_n1.out)) Try.underlying27 rfl (by kernel_rfl)
                    unfold Run
                    rw [rely_load 27 _ rfl q1 hld]
                    exact HK.out _ _ (.inl ⟨Below.refl _ _, by decide⟩) rfl
                  · intro L ev w' hC hL hx K hK
                    have e11 : ev (.tmp 11) = _ := hx.base 11 (by kernel_rfl)
                    have HK := Lib.hid hK
                    have HC := Lib.hid hC
                    have HL := Lib.hid hL
                    have HX := Lib.hid hx
                    have hc := hx.cst
                    skip
                    clear hx hK hC hL
                    have q1 : ev (.tmp 11) = .pointer (some ⟨gn2, 0, none⟩) := e11
                    have hld := run_loadVar_row (P := Try.prog) w' gn2 29 29 #[.int .u64 (kn : Int), .slice A2 j c2] (0, 0) _ (HC.out.keep Kn2_138.out (Ne.symm NE_x1_n2.out) (Ne.symm NE_x2_n2.out)) Try.underlying29 rfl (by kernel_rfl)
                    unfold Run
                    rw [rely_load 29 _ rfl q1 hld]
                    exact HK.out _ _ (.inl ⟨Below.refl _ _, by decide⟩) rfl
                  · intro L ev w' hC hL hx K hK
                    have e5 : ev (.tmp 5) = _ := hx.base 5 (by kernel_rfl)
                    have e186 := hx.held 0 _ rfl (by kernel_rfl)
                    change ev (.tmp 186) = _ at e186
                    have HK := Lib.hid hK
                    have HC := Lib.hid hC
                    have HL := Lib.hid hL
                    have HX := Lib.hid hx
                    have hc := hx.cst
                    skip
                    clear hx hK hC hL
                    have qv : ev (.tmp 186) = .agg #[.int .u64 (kn : Int), tc0] := e186
                    have nst : L 2 = false := HL.out
                    have qp : ev (.tmp 5) = .pointer (some ⟨g1, 0, none⟩) := e5
                    have hgh := HC.out.old1 nst
                    have hnv := HC.out.store1 nst rfl NE_x1_x2.out (by decide)
                    have hst := run_storeVar_row (P := Try.prog) w' g1 27 27 #[.int .u64 (kn : Int), s1] #[.int .u64 (kn : Int), tc0] hgh (by kernel_rfl) rfl (wh_one HOT1.out)
                    unfold Run
                    rw [rely_store 27 _ _ rfl qp qv hst]
                    refine HK.out _ _ (.inr ⟨hnv, fun j hj hlj u hr => ?_⟩) trivial
                    rcases j with _ | _ | _ | _ | j
                    · exact hr
                    · exact hr
                    · exact absurd rfl hj
                    · exact trivial
                    · exact trivial
                  · intro L ev w' hC hL hx K hK
                    have e6 : ev (.tmp 6) = _ := hx.base 6 (by kernel_rfl)
                    have e187 := hx.held 1 _ rfl (by kernel_rfl)
                    change ev (.tmp 187) = _ at e187
                    have HK := Lib.hid hK
                    have HC := Lib.hid hC
                    have HL := Lib.hid hL
                    have HX := Lib.hid hx
                    have hc := hx.cst
                    skip
                    clear hx hK hC hL
                    have qv : ev (.tmp 187) = .agg #[.int .u64 (kn : Int), .slice A2 j c2] := e187
                    have nst : L 3 = false := HL.out
                    have qp : ev (.tmp 6) = .pointer (some ⟨g2, 0, none⟩) := e6
                    have hgh := HC.out.old2 nst
                    have hnv := HC.out.store2 nst rfl NE_x1_x2.out (by decide)
                    have hst := run_storeVar_row (P := Try.prog) w' g2 29 29 #[.int .u64 (kn : Int), s2] #[.int .u64 (kn : Int), .slice A2 j c2] hgh (by kernel_rfl) rfl (wh_one HOT2.out)
                    unfold Run
                    rw [rely_store 29 _ _ rfl qp qv hst]
                    refine HK.out _ _ (.inr ⟨hnv, fun j hj hlj u hr => ?_⟩) trivial
                    rcases j with _ | _ | _ | _ | j
                    · exact hr
                    · exact hr
                    · exact trivial
                    · exact absurd rfl hj
                    · exact trivial
                · exact rl_mono ⟨is_mono _, is_mono _, any_mono, any_mono, trivial⟩
                · exact fun L L' w' h1 hg => hg.agree (h1 2 (by simp)) (h1 3 (by simp))
                · exact fun L w' w'' hb hg => hg.below hb
                · exact OldT.start Kx1_133.out Kx2_134.out
                · simp
                intro us wr hG hH
                obtain ⟨-, -, -, -, -⟩ := hH
                simp only [fillM]
                obtain ⟨hG9, hvn1, hvn2⟩ := hG
                have HVN1 : Hid (wr.heap[g1]? = some (.cells #[.int .u64 (kn : Int), tc0] 27 (0, 0))) := hvn1
                have HVN2 : Hid (wr.heap[g2]? = some (.cells #[.int .u64 (kn : Int), .slice A2 j c2] 29 (0, 0))) := hvn2
                have HG9 := Lib.hid hG9
                clear hG9 hvn1 hvn2
                generalize us 186 = v186
                generalize us 187 = v187
                have HT1 := Lib.hid (ts_gro2 Tt1_142.out HG9.out Kx1_133.out Kx2_134.out (by decide) (by decide))
                have HT2 := Lib.hid (ts_gro2 Tt2_143.out HG9.out Kx1_133.out Kx2_134.out (by decide) (by decide))
                have HBF := Lib.hid (B_144.out.trans (HG9.out.below HGE.out B_144.out.size))
                go_wp2
                go_roundw
                case rel => exact ⟨i + 1, kn, S1, _, _, by omega, by go_num, by omega, HVN1, HVN2, HT1, HT2, HRN, HOSN, HBF⟩
                case measure => simp [intOf]; omega
      · as_aux_lemma =>
          obtain ⟨co0, co1, co2⟩ := three_cells Ko_23.out
          go_upto_region 24 with (fail)
          clear co0 co1 co2
          obtain ⟨⟨S1, z1⟩, hres⟩ : ∃ p, setD kn S id af = p := ⟨_, rfl⟩
          have HRN : Hid (rightW kn (sortT S1) = true) := by
            have := right_set (id := id) (after := af) HR.out
            rw [set_sort, hres] at this
            exact this
          have HOSN : Hid (okT S1) := by
            have := okT_set (after := af) HOS.out (Nat.le_of_lt hk62) HID.out
            rw [hres] at this
            exact this
          have HLSN : Hid (S1.length ≤ 64) := by
            have := setD_len kn S id af HLS.out
            rw [hres] at this
            exact this
          have HCA : Hid (∀ w v, WhT w v kn (sortT S) → Calls Try.prog 9 #[v, .int .i64 id, .int .u64 (af : Int)] w fun e w' => ∃ v', e = .returned (.tuple #[v', .int .i64 z1]) ∧ WhT w' v' kn (sortT S1) ∧ Below w.heap.size w w') := fun w v hv => by
            have := set_any v kn (sortT S) id af w hv.whs HR.out (okT_sort HOS.out) HID.out haf
            rw [set_sort, hres] at this
            exact this
          have HCB : Hid (∀ w v, WhT w v kn S → Calls Try.prog 10 #[v, .int .i64 id, .int .u64 (af : Int)] w fun e w' => ∃ v', e = .returned (.tuple #[v', .int .i64 z1]) ∧ WhT w' v' kn S1 ∧ Below w.heap.size w w') := fun w v hv => by
            have := refset_any v kn S id af w hv (by have := HLS.out; omega) (Nat.le_of_lt hk62) haf
            rw [hres] at this
            exact this
          clear hres
          obtain ⟨co0, co1, co2⟩ := three_cells Ko_23.out
          go_wp2_with (refine wpList_load_row rfl 27 _ rfl g1 rfl 27 #[.int .u64 (kn : Int), s1] (0, 0) _ Kx1_21.out Try.underlying27 rfl (by kernel_rfl) ?_)
          refine (HCA.out _ _ ⟨_, rfl, Ts1_25.out⟩).mono ?_
          rintro e wc0 ⟨vc0, rfl, hv, hb⟩
          obtain ⟨tc0, rfl, ho, ht⟩ := hv.form
          have HOC0 := Lib.hid ho
          have TC0 := Lib.hid ht
          clear co0 co1 co2
          have Kx1_29 := Lib.hid (old_below Kx1_21.out hb (row_lt Kx1_21.out))
          have Kx2_30 := Lib.hid (old_below Kx2_22.out hb (row_lt Kx2_22.out))
          have Ko_31 := Lib.hid (old_below Ko_23.out hb (row_lt Ko_23.out))
          have Kw_32 := Lib.hid (old_below Kw_24.out hb (row_lt Kw_24.out))
          have Kn1_33 := Lib.hid (old_below Kn1.out hb (row_lt Kn1.out))
          have Kn2_34 := Lib.hid (old_below Kn2.out hb (row_lt Kn2.out))
          have Ts1_35 := Lib.hid (Ts1_25.out.below hb)
          have Ts2_36 := Lib.hid (Ts2_26.out.below hb)
          have Ts9_37 := Lib.hid (Ts9_27.out.below hb)
          have B_38 := Lib.hid (B_28.out.trans ((hb).mono B_28.out.size))
          clear Kx1_21 Kx2_22 Ko_23 Kw_24 Kn1 Kn2 Ts1_25 Ts2_26 Ts9_27 B_28
          clear hv ho ht hb
          go_upto_region 25 with (first | (refine wpList_store_row rfl 27 _ _ rfl gn1 #[.int .u64 (kn : Int), tc0] rfl rfl 27 #[.int .u64 (kn : Int), s1] Kn1_33.out (by kernel_rfl) rfl (wh_one HOC0.out) ?_) | go_in)
          have Kx1_39 : Hid ((wc0.setRow gn1 #[.int .u64 (kn : Int), tc0]).heap[g1]? = some (.cells #[.int .u64 (kn : Int), s1] 27 (0, 0))) := (setRow_other _ _ _ _ NE_x1_n1.out).trans Kx1_29.out
          have Kx2_40 : Hid ((wc0.setRow gn1 #[.int .u64 (kn : Int), tc0]).heap[g2]? = some (.cells #[.int .u64 (kn : Int), s2] 29 (0, 0))) := (setRow_other _ _ _ _ NE_x2_n1.out).trans Kx2_30.out
          have Ko_41 : Hid ((wc0.setRow gn1 #[.int .u64 (kn : Int), tc0]).heap[go]? = some (.cells #[.int .i64 kd, .int .i64 id, .int .u64 (af : Int)] 31 (0, 0))) := (setRow_other _ _ _ _ NE_o_n1.out).trans Ko_31.out
          have Kw_42 : Hid ((wc0.setRow gn1 #[.int .u64 (kn : Int), tc0]).heap[gw]? = some (.cells #[.int .u64 (kn : Int), s9] 27 (0, 0))) := (setRow_other _ _ _ _ NE_w_n1.out).trans Kw_32.out
          have Kn1_43 : Hid ((wc0.setRow gn1 #[.int .u64 (kn : Int), tc0]).heap[gn1]? = some (.cells #[.int .u64 (kn : Int), tc0] 27 (0, 0))) := setRow_heap _ _ _ _ _ _ Kn1_33.out
          have Kn2_44 : Hid ((wc0.setRow gn1 #[.int .u64 (kn : Int), tc0]).heap[gn2]? = some (.cells #[.int .u64 (kn : Int), s2] 29 (0, 0))) := (setRow_other _ _ _ _ NE_n2_n1.out).trans Kn2_34.out
          have Ts1_45 : Hid (TsT (wc0.setRow gn1 #[.int .u64 (kn : Int), tc0]) s1 (sortT S)) := Ts1_35.out.setRow Kn1_33.out (by decide) _
          have Ts2_46 : Hid (TsT (wc0.setRow gn1 #[.int .u64 (kn : Int), tc0]) s2 S) := Ts2_36.out.setRow Kn1_33.out (by decide) _
          have Ts9_47 : Hid (TsT (wc0.setRow gn1 #[.int .u64 (kn : Int), tc0]) s9 (sortT S)) := Ts9_37.out.setRow Kn1_33.out (by decide) _
          have Tt1_48 : Hid (TsT (wc0.setRow gn1 #[.int .u64 (kn : Int), tc0]) tc0 (sortT S1)) := TC0.out.setRow Kn1_33.out (by decide) _
          have B_49 := Lib.hid (below_setRow B_38.out GE_n1.out #[.int .u64 (kn : Int), tc0])
          generalize (wc0.setRow gn1 #[.int .u64 (kn : Int), tc0]) = wd0 at Kx1_39 Kx2_40 Ko_41 Kw_42 Kn1_43 Kn2_44 Ts1_45 Ts2_46 Ts9_47 Tt1_48 B_49 ⊢
          clear Kx1_29 Kx2_30 Ko_31 Kw_32 Kn1_33 Kn2_34 Ts1_35 Ts2_36 Ts9_37 TC0 B_38
          obtain ⟨co0, co1, co2⟩ := three_cells Ko_41.out
          go_wp2_with (refine wpList_load_row rfl 29 _ rfl g2 rfl 29 #[.int .u64 (kn : Int), s2] (0, 0) _ Kx2_40.out Try.underlying29 rfl (by kernel_rfl) ?_)
          refine (HCB.out _ _ ⟨_, rfl, Ts2_46.out⟩).mono ?_
          rintro e wc1 ⟨vc1, rfl, hv, hb⟩
          obtain ⟨tc1, rfl, ho, ht⟩ := hv.form
          have HOC1 := Lib.hid ho
          have TC1 := Lib.hid ht
          clear co0 co1 co2
          have Kx1_50 := Lib.hid (old_below Kx1_39.out hb (row_lt Kx1_39.out))
          have Kx2_51 := Lib.hid (old_below Kx2_40.out hb (row_lt Kx2_40.out))
          have Ko_52 := Lib.hid (old_below Ko_41.out hb (row_lt Ko_41.out))
          have Kw_53 := Lib.hid (old_below Kw_42.out hb (row_lt Kw_42.out))
          have Kn1_54 := Lib.hid (old_below Kn1_43.out hb (row_lt Kn1_43.out))
          have Kn2_55 := Lib.hid (old_below Kn2_44.out hb (row_lt Kn2_44.out))
          have Ts1_56 := Lib.hid (Ts1_45.out.below hb)
          have Ts2_57 := Lib.hid (Ts2_46.out.below hb)
          have Ts9_58 := Lib.hid (Ts9_47.out.below hb)
          have Tt1_59 := Lib.hid (Tt1_48.out.below hb)
          have B_60 := Lib.hid (B_49.out.trans ((hb).mono B_49.out.size))
          clear Kx1_39 Kx2_40 Ko_41 Kw_42 Kn1_43 Kn2_44 Ts1_45 Ts2_46 Ts9_47 Tt1_48 B_49
          clear hv ho ht hb
          go_upto_region 26 with (first | (refine wpList_store_row rfl 29 _ _ rfl gn2 #[.int .u64 (kn : Int), tc1] rfl rfl 29 #[.int .u64 (kn : Int), s2] Kn2_55.out (by kernel_rfl) rfl (wh_one HOC1.out) ?_) | go_in)
          have Kx1_61 : Hid ((wc1.setRow gn2 #[.int .u64 (kn : Int), tc1]).heap[g1]? = some (.cells #[.int .u64 (kn : Int), s1] 27 (0, 0))) := (setRow_other _ _ _ _ NE_x1_n2.out).trans Kx1_50.out
          have Kx2_62 : Hid ((wc1.setRow gn2 #[.int .u64 (kn : Int), tc1]).heap[g2]? = some (.cells #[.int .u64 (kn : Int), s2] 29 (0, 0))) := (setRow_other _ _ _ _ NE_x2_n2.out).trans Kx2_51.out
          have Ko_63 : Hid ((wc1.setRow gn2 #[.int .u64 (kn : Int), tc1]).heap[go]? = some (.cells #[.int .i64 kd, .int .i64 id, .int .u64 (af : Int)] 31 (0, 0))) := (setRow_other _ _ _ _ NE_o_n2.out).trans Ko_52.out
          have Kw_64 : Hid ((wc1.setRow gn2 #[.int .u64 (kn : Int), tc1]).heap[gw]? = some (.cells #[.int .u64 (kn : Int), s9] 27 (0, 0))) := (setRow_other _ _ _ _ NE_w_n2.out).trans Kw_53.out
          have Kn1_65 : Hid ((wc1.setRow gn2 #[.int .u64 (kn : Int), tc1]).heap[gn1]? = some (.cells #[.int .u64 (kn : Int), tc0] 27 (0, 0))) := (setRow_other _ _ _ _ NE_n1_n2.out).trans Kn1_54.out
          have Kn2_66 : Hid ((wc1.setRow gn2 #[.int .u64 (kn : Int), tc1]).heap[gn2]? = some (.cells #[.int .u64 (kn : Int), tc1] 29 (0, 0))) := setRow_heap _ _ _ _ _ _ Kn2_55.out
          have Ts1_67 : Hid (TsT (wc1.setRow gn2 #[.int .u64 (kn : Int), tc1]) s1 (sortT S)) := Ts1_56.out.setRow Kn2_55.out (by decide) _
          have Ts2_68 : Hid (TsT (wc1.setRow gn2 #[.int .u64 (kn : Int), tc1]) s2 S) := Ts2_57.out.setRow Kn2_55.out (by decide) _
          have Ts9_69 : Hid (TsT (wc1.setRow gn2 #[.int .u64 (kn : Int), tc1]) s9 (sortT S)) := Ts9_58.out.setRow Kn2_55.out (by decide) _
          have Tt1_70 : Hid (TsT (wc1.setRow gn2 #[.int .u64 (kn : Int), tc1]) tc0 (sortT S1)) := Tt1_59.out.setRow Kn2_55.out (by decide) _
          have Tt2_71 : Hid (TsT (wc1.setRow gn2 #[.int .u64 (kn : Int), tc1]) tc1 S1) := TC1.out.setRow Kn2_55.out (by decide) _
          have B_72 := Lib.hid (below_setRow B_60.out GE_n2.out #[.int .u64 (kn : Int), tc1])
          generalize (wc1.setRow gn2 #[.int .u64 (kn : Int), tc1]) = wd1 at Kx1_61 Kx2_62 Ko_63 Kw_64 Kn1_65 Kn2_66 Ts1_67 Ts2_68 Ts9_69 Tt1_70 Tt2_71 B_72 ⊢
          clear Kx1_50 Kx2_51 Ko_52 Kw_53 Kn1_54 Kn2_55 Ts1_56 Ts2_57 Ts9_58 Tt1_59 TC1 B_60
          have HLK1 := Lib.hid (likeT (kn) S1 (by have := HLSN.out; omega))
          have HLK0 := Lib.hid (likeT kn S (by have := HLS.out; omega))
          have HRI : Hid (∀ w v, WhT w v (kn) (sortT S1) → Calls Try.prog 16 #[v] w fun e w' => e = .returned (.bool true) ∧ Below w.heap.size w w') := fun w v hv => by
            have := right_any v (kn) (sortT S1) w hv.whs (by omega) (okT_sort HOSN.out) (by rw [sort_len]; have := HLSN.out; omega)
            rw [HRN.out] at this
            exact this
          have HDU : Hid (∀ w v, WhT w v (kn) (sortT S1) → Calls Try.prog 17 #[v, .int .i64 id] w fun e w' => e = .returned (.tuple #[.int .u64 ((dueC (sortT S1) id).1 : Int), .bool (dueC (sortT S1) id).2]) ∧ Below w.heap.size w w') := fun w v hv => due_any v (kn) (sortT S1) id w hv.whs HRN.out (okT_sort HOSN.out) HID.out
          obtain ⟨hfd1, hfd2⟩ := due_found S1 id
          obtain ⟨dd, hdd⟩ : ∃ dd, (dueC (sortT S1) id).1 = dd := ⟨_, rfl⟩
          obtain ⟨ff, hff⟩ : ∃ ff, (dueC (sortT S1) id).2 = ff := ⟨_, rfl⟩
          rw [hdd, hff] at HDU hfd1 hfd2
          have HFD1 := Lib.hid hfd1
          have HFD2 := Lib.hid hfd2
          clear hfd1 hfd2 hdd hff
          obtain ⟨cn10, cn11⟩ := two_cells Kn1_65.out
          obtain ⟨cn20, cn21⟩ := two_cells Kn2_66.out
          go_wp2_with fail
          refine (HLK1.out _ _ _ ⟨_, rfl, Tt2_71.out⟩ ⟨_, rfl, Tt1_70.out⟩).mono ?_
          rintro e wb1 ⟨rfl, hb⟩
          clear cn10 cn11 cn20 cn21
          have Kx1_73 := Lib.hid (old_below Kx1_61.out hb (row_lt Kx1_61.out))
          have Kx2_74 := Lib.hid (old_below Kx2_62.out hb (row_lt Kx2_62.out))
          have Ko_75 := Lib.hid (old_below Ko_63.out hb (row_lt Ko_63.out))
          have Kw_76 := Lib.hid (old_below Kw_64.out hb (row_lt Kw_64.out))
          have Kn1_77 := Lib.hid (old_below Kn1_65.out hb (row_lt Kn1_65.out))
          have Kn2_78 := Lib.hid (old_below Kn2_66.out hb (row_lt Kn2_66.out))
          have Ts1_79 := Lib.hid (Ts1_67.out.below hb)
          have Ts2_80 := Lib.hid (Ts2_68.out.below hb)
          have Ts9_81 := Lib.hid (Ts9_69.out.below hb)
          have Tt1_82 := Lib.hid (Tt1_70.out.below hb)
          have Tt2_83 := Lib.hid (Tt2_71.out.below hb)
          have B_84 := Lib.hid (B_72.out.trans ((hb).mono B_72.out.size))
          clear Kx1_61 Kx2_62 Ko_63 Kw_64 Kn1_65 Kn2_66 Ts1_67 Ts2_68 Ts9_69 Tt1_70 Tt2_71 B_72
          clear hb
          obtain ⟨cn10, cn11⟩ := two_cells Kn1_77.out
          go_wp2_with fail
          refine (HRI.out _ _ ⟨_, rfl, Tt1_82.out⟩).mono ?_
          rintro e wb2 ⟨rfl, hb⟩
          clear cn10 cn11
          have Kx1_85 := Lib.hid (old_below Kx1_73.out hb (row_lt Kx1_73.out))
          have Kx2_86 := Lib.hid (old_below Kx2_74.out hb (row_lt Kx2_74.out))
          have Ko_87 := Lib.hid (old_below Ko_75.out hb (row_lt Ko_75.out))
          have Kw_88 := Lib.hid (old_below Kw_76.out hb (row_lt Kw_76.out))
          have Kn1_89 := Lib.hid (old_below Kn1_77.out hb (row_lt Kn1_77.out))
          have Kn2_90 := Lib.hid (old_below Kn2_78.out hb (row_lt Kn2_78.out))
          have Ts1_91 := Lib.hid (Ts1_79.out.below hb)
          have Ts2_92 := Lib.hid (Ts2_80.out.below hb)
          have Ts9_93 := Lib.hid (Ts9_81.out.below hb)
          have Tt1_94 := Lib.hid (Tt1_82.out.below hb)
          have Tt2_95 := Lib.hid (Tt2_83.out.below hb)
          have B_96 := Lib.hid (B_84.out.trans ((hb).mono B_84.out.size))
          clear Kx1_73 Kx2_74 Ko_75 Kw_76 Kn1_77 Kn2_78 Ts1_79 Ts2_80 Ts9_81 Tt1_82 Tt2_83 B_84
          clear hb
          obtain ⟨cx10, cx11⟩ := two_cells Kx1_85.out
          obtain ⟨cx20, cx21⟩ := two_cells Kx2_86.out
          go_wp2_with fail
          refine (HLK0.out _ _ _ ⟨_, rfl, Ts2_92.out⟩ ⟨_, rfl, Ts1_91.out⟩).mono ?_
          rintro e wb3 ⟨rfl, hb⟩
          clear cx10 cx11 cx20 cx21
          have Kx1_97 := Lib.hid (old_below Kx1_85.out hb (row_lt Kx1_85.out))
          have Kx2_98 := Lib.hid (old_below Kx2_86.out hb (row_lt Kx2_86.out))
          have Ko_99 := Lib.hid (old_below Ko_87.out hb (row_lt Ko_87.out))
          have Kw_100 := Lib.hid (old_below Kw_88.out hb (row_lt Kw_88.out))
          have Kn1_101 := Lib.hid (old_below Kn1_89.out hb (row_lt Kn1_89.out))
          have Kn2_102 := Lib.hid (old_below Kn2_90.out hb (row_lt Kn2_90.out))
          have Ts1_103 := Lib.hid (Ts1_91.out.below hb)
          have Ts2_104 := Lib.hid (Ts2_92.out.below hb)
          have Ts9_105 := Lib.hid (Ts9_93.out.below hb)
          have Tt1_106 := Lib.hid (Tt1_94.out.below hb)
          have Tt2_107 := Lib.hid (Tt2_95.out.below hb)
          have B_108 := Lib.hid (B_96.out.trans ((hb).mono B_96.out.size))
          clear Kx1_85 Kx2_86 Ko_87 Kw_88 Kn1_89 Kn2_90 Ts1_91 Ts2_92 Ts9_93 Tt1_94 Tt2_95 B_96
          clear hb
          obtain ⟨cx20, cx21⟩ := two_cells Kx2_98.out
          obtain ⟨cw0, cw1⟩ := two_cells Kw_100.out
          go_wp2_with fail
          refine (HLK0.out _ _ _ ⟨_, rfl, Ts2_104.out⟩ ⟨_, rfl, Ts9_105.out⟩).mono ?_
          rintro e wb4 ⟨rfl, hb⟩
          clear cx20 cx21 cw0 cw1
          have Kx1_109 := Lib.hid (old_below Kx1_97.out hb (row_lt Kx1_97.out))
          have Kx2_110 := Lib.hid (old_below Kx2_98.out hb (row_lt Kx2_98.out))
          have Ko_111 := Lib.hid (old_below Ko_99.out hb (row_lt Ko_99.out))
          have Kw_112 := Lib.hid (old_below Kw_100.out hb (row_lt Kw_100.out))
          have Kn1_113 := Lib.hid (old_below Kn1_101.out hb (row_lt Kn1_101.out))
          have Kn2_114 := Lib.hid (old_below Kn2_102.out hb (row_lt Kn2_102.out))
          have Ts1_115 := Lib.hid (Ts1_103.out.below hb)
          have Ts2_116 := Lib.hid (Ts2_104.out.below hb)
          have Ts9_117 := Lib.hid (Ts9_105.out.below hb)
          have Tt1_118 := Lib.hid (Tt1_106.out.below hb)
          have Tt2_119 := Lib.hid (Tt2_107.out.below hb)
          have B_120 := Lib.hid (B_108.out.trans ((hb).mono B_108.out.size))
          clear Kx1_97 Kx2_98 Ko_99 Kw_100 Kn1_101 Kn2_102 Ts1_103 Ts2_104 Ts9_105 Tt1_106 Tt2_107 B_108
          clear hb
          obtain ⟨cn10, cn11⟩ := two_cells Kn1_113.out
          obtain ⟨co0, co1, co2⟩ := three_cells Ko_111.out
          go_wp2_with fail
          refine (HDU.out _ _ ⟨_, rfl, Tt1_118.out⟩).mono ?_
          rintro e wb5 ⟨rfl, hb⟩
          clear cn10 cn11 co0 co1 co2
          have Kx1_121 := Lib.hid (old_below Kx1_109.out hb (row_lt Kx1_109.out))
          have Kx2_122 := Lib.hid (old_below Kx2_110.out hb (row_lt Kx2_110.out))
          have Ko_123 := Lib.hid (old_below Ko_111.out hb (row_lt Ko_111.out))
          have Kw_124 := Lib.hid (old_below Kw_112.out hb (row_lt Kw_112.out))
          have Kn1_125 := Lib.hid (old_below Kn1_113.out hb (row_lt Kn1_113.out))
          have Kn2_126 := Lib.hid (old_below Kn2_114.out hb (row_lt Kn2_114.out))
          have Ts1_127 := Lib.hid (Ts1_115.out.below hb)
          have Ts2_128 := Lib.hid (Ts2_116.out.below hb)
          have Ts9_129 := Lib.hid (Ts9_117.out.below hb)
          have Tt1_130 := Lib.hid (Tt1_118.out.below hb)
          have Tt2_131 := Lib.hid (Tt2_119.out.below hb)
          have B_132 := Lib.hid (B_120.out.trans ((hb).mono B_120.out.size))
          clear Kx1_109 Kx2_110 Ko_111 Kw_112 Kn1_113 Kn2_114 Ts1_115 Ts2_116 Ts9_117 Tt1_118 Tt2_119 B_120
          clear hb
          obtain ⟨p, hp⟩ : ∃ p, S1.length = p := ⟨_, rfl⟩
          have HPL := Lib.hid hp
          obtain ⟨A2, c2, ht2, hr2, -, hl2, hc2⟩ := Tt2_131.out
          rw [hp] at ht2 hl2
          subst ht2
          have HR2 := Lib.hid hr2.rd
          have hc2b : c2 ≤ 9223372036854775807 := by unfold maxLen at hc2; omega
          clear hp hr2 hc2
          obtain ⟨cn20, cn21⟩ := two_cells Kn2_126.out
          go_wp2
          clear cn20 cn21
          go_loopw [21, 156] (fun t21 t156 wr => ∃ j : Nat, j ≤ p ∧ t156 = .int .i64 (j : Int) ∧ t21 = .bool (foundD (S1.take j) id dd) ∧ Hid (Below wb5.heap.size wb5 wr)) (fun _ t156 _ => p - (intOf t156).toNat)
          case atStart => exact ⟨0, Nat.zero_le _, rfl, rfl, Lib.hid (Below.refl _ _)⟩
          case round =>
            obtain ⟨j, hj, rfl, rfl, HBI⟩ := hrel
            by_cases hlt2 : j < p
            · obtain ⟨y, hy⟩ : ∃ y, S1[j]? = some y := ⟨_, List.getElem?_eq_getElem (by rw [HPL.out]; exact hlt2)⟩
              obtain ⟨yd, rfl, hKY⟩ := el_all tmE (Rs.below HR2.out HBI.out (Nat.le_refl _)) (by omega) hy
              have HKY : Hid (∀ (q : Nat) v, (#[.int .i64 y.id, .int .u64 (y.due : Int)] : Array Value)[q]? = some v → wr.cell? ((yd.add (j * 2)).add q) = some v) := hKY wr (Below.refl _ _)
              have HFS := Lib.hid (found_snoc hy id dd)
              have HOI := Lib.hid (old_below Ko_123.out HBI.out (row_lt Ko_123.out))
              clear hy hKY
              obtain ⟨wy, hwy⟩ : ∃ wy, wr.alloc (.cells #[.int .i64 y.id, .int .u64 (y.due : Int)] 53) = wy := ⟨_, rfl⟩
              have HY5 : Hid (wy.heap[wr.heap.size]? = some (.cells #[.int .i64 y.id, .int .u64 (y.due : Int)] 53 (0, 0))) := by rw [← hwy]; exact heap_alloc_new wr _
              have HO5 : Hid (wy.heap[go]? = some (.cells #[.int .i64 kd, .int .i64 id, .int .u64 (af : Int)] 31 (0, 0))) := by rw [← hwy]; exact old_alloc HOI.out _
              have HB5 : Hid (Below wb5.heap.size wb5 wy) := by rw [← hwy]; exact HBI.out.alloc HBI.out.size _
              have HWY := Lib.hid hwy
              clear hwy
              go_upto_region 41 with (first | (refine wpList_load_atA rfl 53 _ rfl (yd.add (j * 2)) rfl #[.int .i64 y.id, .int .u64 (y.due : Int)] _ HKY.out Try.underlying53 rfl (by kernel_rfl) ?_) | (refine wpList_store_new rfl 53 _ _ rfl wr #[.int .i64 0, .int .u64 0] #[.int .i64 y.id, .int .u64 (y.due : Int)] rfl rfl (by kernel_rfl) rfl (by simp [Value.oneCell']) ?_) | go_in)
              rw [HWY.out]
              clear HWY HKY
              generalize wr.heap.size = gy at HY5 ⊢
              obtain ⟨y0, y1⟩ := two_cells HY5.out
              obtain ⟨o0, o1, o2⟩ := three_cells HO5.out
              generalize foundD (S1.take j) id dd = fb at HFS ⊢
              cases fb
              · by_cases hyi : y.id = id
                · by_cases hyd : y.due = dd
                  · have hydi : (y.due : Int) = (dd : Int) := by omega
                    have HF2 : Hid (foundD (S1.take (j + 1)) id dd = true) := by show _ = _; rw [HFS.out, decide_eq_true hyi, decide_eq_true hyd]; rfl
                    go_wp2
                    go_roundw
                    case rel => exact ⟨j + 1, by omega, by go_num, by rw [HF2.out] <;> first | rfl | simp [*], HB5⟩
                    case measure => simp [intOf]; omega
                  · have hydi : ¬ (y.due : Int) = (dd : Int) := by omega
                    have hydb : ((y.due : Int) == (dd : Int)) = false := beq_eq_false_iff_ne.2 hydi
                    have HF2 : Hid (foundD (S1.take (j + 1)) id dd = false) := by show _ = _; rw [HFS.out, decide_eq_true hyi, decide_eq_false hyd]; rfl
                    go_wp2
                    go_roundw
                    case rel => exact ⟨j + 1, by omega, by go_num, by rw [HF2.out] <;> first | rfl | simp [*], HB5⟩
                    case measure => simp [intOf]; omega
                · have HF2 : Hid (foundD (S1.take (j + 1)) id dd = false) := by show _ = _; rw [HFS.out, decide_eq_false hyi]; rfl
                  have hyib : (y.id == id) = false := beq_eq_false_iff_ne.2 hyi
                  go_wp2
                  go_roundw
                  case rel => exact ⟨j + 1, by omega, by go_num, by rw [HF2.out] <;> first | rfl | simp [*], HB5⟩
                  case measure => simp [intOf]; omega
              · have HF2 : Hid (foundD (S1.take (j + 1)) id dd = true) := by show _ = _; rw [HFS.out, Bool.true_or]
                go_wp2
                go_roundw
                case rel => exact ⟨j + 1, by omega, by go_num, by rw [HF2.out] <;> first | rfl | simp [*], HB5⟩
                case measure => simp [intOf]; omega
            · obtain rfl : j = p := by omega
              have HTK : Hid (S1.take j = S1) := List.take_of_length_le (Nat.le_of_eq HPL.out)
              rw [HTK.out, HFD1.out]
              have Kx1_133 := Lib.hid (old_below Kx1_121.out HBI.out (row_lt Kx1_121.out))
              have Kx2_134 := Lib.hid (old_below Kx2_122.out HBI.out (row_lt Kx2_122.out))
              have Ko_135 := Lib.hid (old_below Ko_123.out HBI.out (row_lt Ko_123.out))
              have Kw_136 := Lib.hid (old_below Kw_124.out HBI.out (row_lt Kw_124.out))
              have Kn1_137 := Lib.hid (old_below Kn1_125.out HBI.out (row_lt Kn1_125.out))
              have Kn2_138 := Lib.hid (old_below Kn2_126.out HBI.out (row_lt Kn2_126.out))
              have Ts1_139 := Lib.hid (Ts1_127.out.below HBI.out)
              have Ts2_140 := Lib.hid (Ts2_128.out.below HBI.out)
              have Ts9_141 := Lib.hid (Ts9_129.out.below HBI.out)
              have Tt1_142 := Lib.hid (Tt1_130.out.below HBI.out)
              have Tt2_143 := Lib.hid (Tt2_131.out.below HBI.out)
              have B_144 := Lib.hid (B_132.out.trans ((HBI.out).mono B_132.out.size))
              clear Kx1_121 Kx2_122 Ko_123 Kw_124 Kn1_125 Kn2_126 Ts1_127 Ts2_128 Ts9_129 Tt1_130 Tt2_131 B_132
              have HOT1 := Lib.hid Tt1_142.out.one
              have HOT2 : Hid ((Value.slice A2 j c2).oneCell' = true) := rfl
              cases ff
              · have hdz : dd = 0 := HFD2.out rfl
                subst hdz
                go_upto_region 45 with (fail)
                apply wp_region_relyG [2, 3] (OldT wr 2 g1 27 #[.int .u64 (kn : Int), s1] #[.int .u64 (kn : Int), tc0] 3 g2 29 #[.int .u64 (kn : Int), s2] #[.int .u64 (kn : Int), .slice A2 j c2]) (RL [Is (.agg #[.int .u64 (kn : Int), tc0]), Is (.agg #[.int .u64 (kn : Int), .slice A2 j c2]), Any, Any]) [false, false, false, false, false, false, false, false, false, false, false, false, false, false, false, false, false, false, false, false, false, false, false, false, false, false, false, false, false, false, false, false, false, false, false, false, false, false, false, false, false, false, false, false, false, false, false, false, false, false, false, false, false, false, false, false, false, false, false, false, false, false, false, false, false, false, false, false, false, false, false, false, false, false, false, false, false, false, false, false, false, false, false, false, false, false, false, false, false, false, false, false, false, false, false, false, false, false, false, false, false, false, false, false, false, false, false, false, false, false, false, false, false, false, false, false, false, false, false, false, false, false, false, false, false, false, false, false, false, false, false, false, false, false, false, false, false, false, false, false, false, false, false, false, false, false, false, false, false, false, false, false, false, false, false, false, false, false, false, false, false, false, false, false, false, false, false, false, false, false, false, false, false, false, false, false, false, false, false, false, false, false, false, false, false, false, true, true, false]
                · kernel_rfl
                · kernel_rfl
                · kernel_rfl
                · refine ⟨?_, ?_, ?_, ?_, trivial⟩
                  · intro L ev w' hC hL hx K hK
                    have e10 : ev (.tmp 10) = _ := hx.base 10 (by kernel_rfl)
                    have HK := Lib.hid hK
                    have HC := Lib.hid hC
                    have HL := Lib.hid hL
                    have HX := Lib.hid hx
                    have hc := hx.cst
                    skip
                    clear hx hK hC hL
                    have q1 : ev (.tmp 10) = .pointer (some ⟨gn1, 0, none⟩) := e10
                    have hld := run_loadVar_row (P := Try.prog) w' gn1 27 27 #[.int .u64 (kn : Int), tc0] (0, 0) _ (HC.out.keep Kn1_137.out (Ne.symm NE_x1_n1.out) (Ne.symm NE_x2_n1.out)) Try.underlying27 rfl (by kernel_rfl)
                    unfold Run
                    rw [rely_load 27 _ rfl q1 hld]
                    exact HK.out _ _ (.inl ⟨Below.refl _ _, by decide⟩) rfl
                  · intro L ev w' hC hL hx K hK
                    have e11 : ev (.tmp 11) = _ := hx.base 11 (by kernel_rfl)
                    have HK := Lib.hid hK
                    have HC := Lib.hid hC
                    have HL := Lib.hid hL
                    have HX := Lib.hid hx
                    have hc := hx.cst
                    skip
                    clear hx hK hC hL
                    have q1 : ev (.tmp 11) = .pointer (some ⟨gn2, 0, none⟩) := e11
                    have hld := run_loadVar_row (P := Try.prog) w' gn2 29 29 #[.int .u64 (kn : Int), .slice A2 j c2] (0, 0) _ (HC.out.keep Kn2_138.out (Ne.symm NE_x1_n2.out) (Ne.symm NE_x2_n2.out)) Try.underlying29 rfl (by kernel_rfl)
                    unfold Run
                    rw [rely_load 29 _ rfl q1 hld]
                    exact HK.out _ _ (.inl ⟨Below.refl _ _, by decide⟩) rfl
                  · intro L ev w' hC hL hx K hK
                    have e5 : ev (.tmp 5) = _ := hx.base 5 (by kernel_rfl)
                    have e186 := hx.held 0 _ rfl (by kernel_rfl)
                    change ev (.tmp 186) = _ at e186
                    have HK := Lib.hid hK
                    have HC := Lib.hid hC
                    have HL := Lib.hid hL
                    have HX := Lib.hid hx
                    have hc := hx.cst
                    skip
                    clear hx hK hC hL
                    have qv : ev (.tmp 186) = .agg #[.int .u64 (kn : Int), tc0] := e186
                    have nst : L 2 = false := HL.out
                    have qp : ev (.tmp 5) = .pointer (some ⟨g1, 0, none⟩) := e5
                    have hgh := HC.out.old1 nst
                    have hnv := HC.out.store1 nst rfl NE_x1_x2.out (by decide)
                    have hst := run_storeVar_row (P := Try.prog) w' g1 27 27 #[.int .u64 (kn : Int), s1] #[.int .u64 (kn : Int), tc0] hgh (by kernel_rfl) rfl (wh_one HOT1.out)
                    unfold Run
                    rw [rely_store 27 _ _ rfl qp qv hst]
                    refine HK.out _ _ (.inr ⟨hnv, fun j hj hlj u hr => ?_⟩) trivial
                    rcases j with _ | _ | _ | _ | j
                    · exact hr
                    · exact hr
                    · exact absurd rfl hj
                    · exact trivial
                    · exact trivial
                  · intro L ev w' hC hL hx K hK
                    have e6 : ev (.tmp 6) = _ := hx.base 6 (by kernel_rfl)
                    have e187 := hx.held 1 _ rfl (by kernel_rfl)
                    change ev (.tmp 187) = _ at e187
                    have HK := Lib.hid hK
                    have HC := Lib.hid hC
                    have HL := Lib.hid hL
                    have HX := Lib.hid hx
                    have hc := hx.cst
                    skip
                    clear hx hK hC hL
                    have qv : ev (.tmp 187) = .agg #[.int .u64 (kn : Int), .slice A2 j c2] := e187
                    have nst : L 3 = false := HL.out
                    have qp : ev (.tmp 6) = .pointer (some ⟨g2, 0, none⟩) := e6
                    have hgh := HC.out.old2 nst
                    have hnv := HC.out.store2 nst rfl NE_x1_x2.out (by decide)
                    have hst := run_storeVar_row (P := Try.prog) w' g2 29 29 #[.int .u64 (kn : Int), s2] #[.int .u64 (kn : Int), .slice A2 j c2] hgh (by kernel_rfl) rfl (wh_one HOT2.out)
                    unfold Run
                    rw [rely_store 29 _ _ rfl qp qv hst]
                    refine HK.out _ _ (.inr ⟨hnv, fun j hj hlj u hr => ?_⟩) trivial
                    rcases j with _ | _ | _ | _ | j
                    · exact hr
                    · exact hr
                    · exact trivial
                    · exact absurd rfl hj
                    · exact trivial
                · exact rl_mono ⟨is_mono _, is_mono _, any_mono, any_mono, trivial⟩
                · exact fun L L' w' h1 hg => hg.agree (h1 2 (by simp)) (h1 3 (by simp))
                · exact fun L w' w'' hb hg => hg.below hb
                · exact OldT.start Kx1_133.out Kx2_134.out
                · simp
                intro us wr hG hH
                obtain ⟨-, -, -, -, -⟩ := hH
                simp only [fillM]
                obtain ⟨hG9, hvn1, hvn2⟩ := hG
                have HVN1 : Hid (wr.heap[g1]? = some (.cells #[.int .u64 (kn : Int), tc0] 27 (0, 0))) := hvn1
                have HVN2 : Hid (wr.heap[g2]? = some (.cells #[.int .u64 (kn : Int), .slice A2 j c2] 29 (0, 0))) := hvn2
                have HG9 := Lib.hid hG9
                clear hG9 hvn1 hvn2
                generalize us 186 = v186
                generalize us 187 = v187
                have HT1 := Lib.hid (ts_gro2 Tt1_142.out HG9.out Kx1_133.out Kx2_134.out (by decide) (by decide))
                have HT2 := Lib.hid (ts_gro2 Tt2_143.out HG9.out Kx1_133.out Kx2_134.out (by decide) (by decide))
                have HBF := Lib.hid (B_144.out.trans (HG9.out.below HGE.out B_144.out.size))
                go_wp2
                go_roundw
                case rel => exact ⟨i + 1, kn, S1, _, _, by omega, by go_num, by omega, HVN1, HVN2, HT1, HT2, HRN, HOSN, HBF⟩
                case measure => simp [intOf]; omega
              · go_upto_region 45 with (fail)
                apply wp_region_relyG [2, 3] (OldT wr 2 g1 27 #[.int .u64 (kn : Int), s1] #[.int .u64 (kn : Int), tc0] 3 g2 29 #[.int .u64 (kn : Int), s2] #[.int .u64 (kn : Int), .slice A2 j c2]) (RL [Is (.agg #[.int .u64 (kn : Int), tc0]), Is (.agg #[.int .u64 (kn : Int), .slice A2 j c2]), Any, Any]) [false, false, false, false, false, false, false, false, false, false, false, false, false, false, false, false, false, false, false, false, false, false, false, false, false, false, false, false, false, false, false, false, false, false, false, false, false, false, false, false, false, false, false, false, false, false, false, false, false, false, false, false, false, false, false, false, false, false, false, false, false, false, false, false, false, false, false, false, false, false, false, false, false, false, false, false, false, false, false, false, false, false, false, false, false, false, false, false, false, false, false, false, false, false, false, false, false, false, false, false, false, false, false, false, false, false, false, false, false, false, false, false, false, false, false, false, false, false, false, false, false, false, false, false, false, false, false, false, false, false, false, false, false, false, false, false, false, false, false, false, false, false, false, false, false, false, false, false, false, false, false, false, false, false, false, false, false, false, false, false, false, false, false, false, false, false, false, false, false, false, false, false, false, false, false, false, false, false, false, false, false, false, false, false, false, false, true, true, false]
                · kernel_rfl
                · kernel_rfl
                · kernel_rfl
                · refine ⟨?_, ?_, ?_, ?_, trivial⟩
                  · intro L ev w' hC hL hx K hK
                    have e10 : ev (.tmp 10) = _ := hx.base 10 (by kernel_rfl)
                    have HK := Lib.hid hK
                    have HC := Lib.hid hC
                    have HL := Lib.hid hL
                    have HX := Lib.hid hx
                    have hc := hx.cst
                    skip
                    clear hx hK hC hL
                    have q1 : ev (.tmp 10) = .pointer (some ⟨gn1, 0, none⟩) := e10
                    have hld := run_loadVar_row (P := Try.prog) w' gn1 27 27 #[.int .u64 (kn : Int), tc0] (0, 0) _ (HC.out.keep Kn1_137.out (Ne.symm NE_x1_n1.out) (Ne.symm NE_x2_n1.out)) Try.underlying27 rfl (by kernel_rfl)
                    unfold Run
                    rw [rely_load 27 _ rfl q1 hld]
                    exact HK.out _ _ (.inl ⟨Below.refl _ _, by decide⟩) rfl
                  · intro L ev w' hC hL hx K hK
                    have e11 : ev (.tmp 11) = _ := hx.base 11 (by kernel_rfl)
                    have HK := Lib.hid hK
                    have HC := Lib.hid hC
                    have HL := Lib.hid hL
                    have HX := Lib.hid hx
                    have hc := hx.cst
                    skip
                    clear hx hK hC hL
                    have q1 : ev (.tmp 11) = .pointer (some ⟨gn2, 0, none⟩) := e11
                    have hld := run_loadVar_row (P := Try.prog) w' gn2 29 29 #[.int .u64 (kn : Int), .slice A2 j c2] (0, 0) _ (HC.out.keep Kn2_138.out (Ne.symm NE_x1_n2.out) (Ne.symm NE_x2_n2.out)) Try.underlying29 rfl (by kernel_rfl)
                    unfold Run
                    rw [rely_load 29 _ rfl q1 hld]
                    exact HK.out _ _ (.inl ⟨Below.refl _ _, by decide⟩) rfl
                  · intro L ev w' hC hL hx K hK
                    have e5 : ev (.tmp 5) = _ := hx.base 5 (by kernel_rfl)
                    have e186 := hx.held 0 _ rfl (by kernel_rfl)
                    change ev (.tmp 186) = _ at e186
                    have HK := Lib.hid hK
                    have HC := Lib.hid hC
                    have HL := Lib.hid hL
                    have HX := Lib.hid hx
                    have hc := hx.cst
                    skip
                    clear hx hK hC hL
                    have qv : ev (.tmp 186) = .agg #[.int .u64 (kn : Int), tc0] := e186
                    have nst : L 2 = false := HL.out
                    have qp : ev (.tmp 5) = .pointer (some ⟨g1, 0, none⟩) := e5
                    have hgh := HC.out.old1 nst
                    have hnv := HC.out.store1 nst rfl NE_x1_x2.out (by decide)
                    have hst := run_storeVar_row (P := Try.prog) w' g1 27 27 #[.int .u64 (kn : Int), s1] #[.int .u64 (kn : Int), tc0] hgh (by kernel_rfl) rfl (wh_one HOT1.out)
                    unfold Run
                    rw [rely_store 27 _ _ rfl qp qv hst]
                    refine HK.out _ _ (.inr ⟨hnv, fun j hj hlj u hr => ?_⟩) trivial
                    rcases j with _ | _ | _ | _ | j
                    · exact hr
                    · exact hr
                    · exact absurd rfl hj
                    · exact trivial
                    · exact trivial
                  · intro L ev w' hC hL hx K hK
                    have e6 : ev (.tmp 6) = _ := hx.base 6 (by kernel_rfl)
                    have e187 := hx.held 1 _ rfl (by kernel_rfl)
                    change ev (.tmp 187) = _ at e187
                    have HK := Lib.hid hK
                    have HC := Lib.hid hC
                    have HL := Lib.hid hL
                    have HX := Lib.hid hx
                    have hc := hx.cst
                    skip
                    clear hx hK hC hL
                    have qv : ev (.tmp 187) = .agg #[.int .u64 (kn : Int), .slice A2 j c2] := e187
                    have nst : L 3 = false := HL.out
                    have qp : ev (.tmp 6) = .pointer (some ⟨g2, 0, none⟩) := e6
                    have hgh := HC.out.old2 nst
                    have hnv := HC.out.store2 nst rfl NE_x1_x2.out (by decide)
                    have hst := run_storeVar_row (P := Try.prog) w' g2 29 29 #[.int .u64 (kn : Int), s2] #[.int .u64 (kn : Int), .slice A2 j c2] hgh (by kernel_rfl) rfl (wh_one HOT2.out)
                    unfold Run
                    rw [rely_store 29 _ _ rfl qp qv hst]
                    refine HK.out _ _ (.inr ⟨hnv, fun j hj hlj u hr => ?_⟩) trivial
                    rcases j with _ | _ | _ | _ | j
                    · exact hr
                    · exact hr
                    · exact trivial
                    · exact absurd rfl hj
                    · exact trivial
                · exact rl_mono ⟨is_mono _, is_mono _, any_mono, any_mono, trivial⟩
                · exact fun L L' w' h1 hg => hg.agree (h1 2 (by simp)) (h1 3 (by simp))
                · exact fun L w' w'' hb hg => hg.below hb
                · exact OldT.start Kx1_133.out Kx2_134.out
                · simp
                intro us wr hG hH
                obtain ⟨-, -, -, -, -⟩ := hH
                simp only [fillM]
                obtain ⟨hG9, hvn1, hvn2⟩ := hG
                have HVN1 : Hid (wr.heap[g1]? = some (.cells #[.int .u64 (kn : Int), tc0] 27 (0, 0))) := hvn1
                have HVN2 : Hid (wr.heap[g2]? = some (.cells #[.int .u64 (kn : Int), .slice A2 j c2] 29 (0, 0))) := hvn2
                have HG9 := Lib.hid hG9
                clear hG9 hvn1 hvn2
                generalize us 186 = v186
                generalize us 187 = v187
                have HT1 := Lib.hid (ts_gro2 Tt1_142.out HG9.out Kx1_133.out Kx2_134.out (by decide) (by decide))
                have HT2 := Lib.hid (ts_gro2 Tt2_143.out HG9.out Kx1_133.out Kx2_134.out (by decide) (by decide))
                have HBF := Lib.hid (B_144.out.trans (HG9.out.below HGE.out B_144.out.size))
                go_wp2
                go_roundw
                case rel => exact ⟨i + 1, kn, S1, _, _, by omega, by go_num, by omega, HVN1, HVN2, HT1, HT2, HRN, HOSN, HBF⟩
                case measure => simp [intOf]; omega
      · as_aux_lemma =>
          obtain ⟨co0, co1, co2⟩ := three_cells Ko_23.out
          go_upto_region 30 with (fail)
          clear co0 co1 co2
          have HRN : Hid (rightW kn (sortT (S.filter (notI id))) = true) := by
            have := right_stop (id := id) HR.out
            rw [sort_filter] at this
            exact this
          have HOSN : Hid (okT (S.filter (notI id))) := okT_filter HOS.out
          have HLSN : Hid ((S.filter (notI id)).length ≤ 64) := Nat.le_trans (List.length_filter_le _ _) HLS.out
          have HCA : Hid (∀ w v, WhT w v kn (sortT S) → Calls Try.prog 11 #[v, .int .i64 id] w fun e w' => ∃ v', e = .returned (.tuple #[v', .bool (someD S id)]) ∧ WhT w' v' kn (sortT (S.filter (notI id))) ∧ Below w.heap.size w w') := fun w v hv => by
            have := stop_any v kn (sortT S) id w hv.whs HR.out (okT_sort HOS.out) HID.out
            rw [sort_filter, some_sort] at this
            exact this
          have HCB : Hid (∀ w v, WhT w v kn S → Calls Try.prog 12 #[v, .int .i64 id] w fun e w' => ∃ v', e = .returned (.tuple #[v', .bool (someD S id)]) ∧ WhT w' v' kn (S.filter (notI id)) ∧ Below w.heap.size w w') := fun w v hv => refstop_any v kn S id w hv (by have := HLS.out; omega)
          obtain ⟨S1, hS1⟩ : ∃ S1, S.filter (notI id) = S1 := ⟨_, rfl⟩
          obtain ⟨z1, hz1⟩ : ∃ z1, someD S id = z1 := ⟨_, rfl⟩
          rw [hS1] at HRN HOSN HLSN HCA HCB
          rw [hz1] at HCA HCB
          clear hS1 hz1
          obtain ⟨co0, co1, co2⟩ := three_cells Ko_23.out
          go_wp2_with (refine wpList_load_row rfl 27 _ rfl g1 rfl 27 #[.int .u64 (kn : Int), s1] (0, 0) _ Kx1_21.out Try.underlying27 rfl (by kernel_rfl) ?_)
          refine (HCA.out _ _ ⟨_, rfl, Ts1_25.out⟩).mono ?_
          rintro e wc0 ⟨vc0, rfl, hv, hb⟩
          obtain ⟨tc0, rfl, ho, ht⟩ := hv.form
          have HOC0 := Lib.hid ho
          have TC0 := Lib.hid ht
          clear co0 co1 co2
          have Kx1_29 := Lib.hid (old_below Kx1_21.out hb (row_lt Kx1_21.out))
          have Kx2_30 := Lib.hid (old_below Kx2_22.out hb (row_lt Kx2_22.out))
          have Ko_31 := Lib.hid (old_below Ko_23.out hb (row_lt Ko_23.out))
          have Kw_32 := Lib.hid (old_below Kw_24.out hb (row_lt Kw_24.out))
          have Kn1_33 := Lib.hid (old_below Kn1.out hb (row_lt Kn1.out))
          have Kn2_34 := Lib.hid (old_below Kn2.out hb (row_lt Kn2.out))
          have Ts1_35 := Lib.hid (Ts1_25.out.below hb)
          have Ts2_36 := Lib.hid (Ts2_26.out.below hb)
          have Ts9_37 := Lib.hid (Ts9_27.out.below hb)
          have B_38 := Lib.hid (B_28.out.trans ((hb).mono B_28.out.size))
          clear Kx1_21 Kx2_22 Ko_23 Kw_24 Kn1 Kn2 Ts1_25 Ts2_26 Ts9_27 B_28
          clear hv ho ht hb
          go_upto_region 31 with (first | (refine wpList_store_row rfl 27 _ _ rfl gn1 #[.int .u64 (kn : Int), tc0] rfl rfl 27 #[.int .u64 (kn : Int), s1] Kn1_33.out (by kernel_rfl) rfl (wh_one HOC0.out) ?_) | go_in)
          have Kx1_39 : Hid ((wc0.setRow gn1 #[.int .u64 (kn : Int), tc0]).heap[g1]? = some (.cells #[.int .u64 (kn : Int), s1] 27 (0, 0))) := (setRow_other _ _ _ _ NE_x1_n1.out).trans Kx1_29.out
          have Kx2_40 : Hid ((wc0.setRow gn1 #[.int .u64 (kn : Int), tc0]).heap[g2]? = some (.cells #[.int .u64 (kn : Int), s2] 29 (0, 0))) := (setRow_other _ _ _ _ NE_x2_n1.out).trans Kx2_30.out
          have Ko_41 : Hid ((wc0.setRow gn1 #[.int .u64 (kn : Int), tc0]).heap[go]? = some (.cells #[.int .i64 kd, .int .i64 id, .int .u64 (af : Int)] 31 (0, 0))) := (setRow_other _ _ _ _ NE_o_n1.out).trans Ko_31.out
          have Kw_42 : Hid ((wc0.setRow gn1 #[.int .u64 (kn : Int), tc0]).heap[gw]? = some (.cells #[.int .u64 (kn : Int), s9] 27 (0, 0))) := (setRow_other _ _ _ _ NE_w_n1.out).trans Kw_32.out
          have Kn1_43 : Hid ((wc0.setRow gn1 #[.int .u64 (kn : Int), tc0]).heap[gn1]? = some (.cells #[.int .u64 (kn : Int), tc0] 27 (0, 0))) := setRow_heap _ _ _ _ _ _ Kn1_33.out
          have Kn2_44 : Hid ((wc0.setRow gn1 #[.int .u64 (kn : Int), tc0]).heap[gn2]? = some (.cells #[.int .u64 (kn : Int), s2] 29 (0, 0))) := (setRow_other _ _ _ _ NE_n2_n1.out).trans Kn2_34.out
          have Ts1_45 : Hid (TsT (wc0.setRow gn1 #[.int .u64 (kn : Int), tc0]) s1 (sortT S)) := Ts1_35.out.setRow Kn1_33.out (by decide) _
          have Ts2_46 : Hid (TsT (wc0.setRow gn1 #[.int .u64 (kn : Int), tc0]) s2 S) := Ts2_36.out.setRow Kn1_33.out (by decide) _
          have Ts9_47 : Hid (TsT (wc0.setRow gn1 #[.int .u64 (kn : Int), tc0]) s9 (sortT S)) := Ts9_37.out.setRow Kn1_33.out (by decide) _
          have Tt1_48 : Hid (TsT (wc0.setRow gn1 #[.int .u64 (kn : Int), tc0]) tc0 (sortT S1)) := TC0.out.setRow Kn1_33.out (by decide) _
          have B_49 := Lib.hid (below_setRow B_38.out GE_n1.out #[.int .u64 (kn : Int), tc0])
          generalize (wc0.setRow gn1 #[.int .u64 (kn : Int), tc0]) = wd0 at Kx1_39 Kx2_40 Ko_41 Kw_42 Kn1_43 Kn2_44 Ts1_45 Ts2_46 Ts9_47 Tt1_48 B_49 ⊢
          clear Kx1_29 Kx2_30 Ko_31 Kw_32 Kn1_33 Kn2_34 Ts1_35 Ts2_36 Ts9_37 TC0 B_38
          obtain ⟨co0, co1, co2⟩ := three_cells Ko_41.out
          go_wp2_with (refine wpList_load_row rfl 29 _ rfl g2 rfl 29 #[.int .u64 (kn : Int), s2] (0, 0) _ Kx2_40.out Try.underlying29 rfl (by kernel_rfl) ?_)
          refine (HCB.out _ _ ⟨_, rfl, Ts2_46.out⟩).mono ?_
          rintro e wc1 ⟨vc1, rfl, hv, hb⟩
          obtain ⟨tc1, rfl, ho, ht⟩ := hv.form
          have HOC1 := Lib.hid ho
          have TC1 := Lib.hid ht
          clear co0 co1 co2
          have Kx1_50 := Lib.hid (old_below Kx1_39.out hb (row_lt Kx1_39.out))
          have Kx2_51 := Lib.hid (old_below Kx2_40.out hb (row_lt Kx2_40.out))
          have Ko_52 := Lib.hid (old_below Ko_41.out hb (row_lt Ko_41.out))
          have Kw_53 := Lib.hid (old_below Kw_42.out hb (row_lt Kw_42.out))
          have Kn1_54 := Lib.hid (old_below Kn1_43.out hb (row_lt Kn1_43.out))
          have Kn2_55 := Lib.hid (old_below Kn2_44.out hb (row_lt Kn2_44.out))
          have Ts1_56 := Lib.hid (Ts1_45.out.below hb)
          have Ts2_57 := Lib.hid (Ts2_46.out.below hb)
          have Ts9_58 := Lib.hid (Ts9_47.out.below hb)
          have Tt1_59 := Lib.hid (Tt1_48.out.below hb)
          have B_60 := Lib.hid (B_49.out.trans ((hb).mono B_49.out.size))
          clear Kx1_39 Kx2_40 Ko_41 Kw_42 Kn1_43 Kn2_44 Ts1_45 Ts2_46 Ts9_47 Tt1_48 B_49
          clear hv ho ht hb
          go_upto_region 32 with (first | (refine wpList_store_row rfl 29 _ _ rfl gn2 #[.int .u64 (kn : Int), tc1] rfl rfl 29 #[.int .u64 (kn : Int), s2] Kn2_55.out (by kernel_rfl) rfl (wh_one HOC1.out) ?_) | go_in)
          have Kx1_61 : Hid ((wc1.setRow gn2 #[.int .u64 (kn : Int), tc1]).heap[g1]? = some (.cells #[.int .u64 (kn : Int), s1] 27 (0, 0))) := (setRow_other _ _ _ _ NE_x1_n2.out).trans Kx1_50.out
          have Kx2_62 : Hid ((wc1.setRow gn2 #[.int .u64 (kn : Int), tc1]).heap[g2]? = some (.cells #[.int .u64 (kn : Int), s2] 29 (0, 0))) := (setRow_other _ _ _ _ NE_x2_n2.out).trans Kx2_51.out
          have Ko_63 : Hid ((wc1.setRow gn2 #[.int .u64 (kn : Int), tc1]).heap[go]? = some (.cells #[.int .i64 kd, .int .i64 id, .int .u64 (af : Int)] 31 (0, 0))) := (setRow_other _ _ _ _ NE_o_n2.out).trans Ko_52.out
          have Kw_64 : Hid ((wc1.setRow gn2 #[.int .u64 (kn : Int), tc1]).heap[gw]? = some (.cells #[.int .u64 (kn : Int), s9] 27 (0, 0))) := (setRow_other _ _ _ _ NE_w_n2.out).trans Kw_53.out
          have Kn1_65 : Hid ((wc1.setRow gn2 #[.int .u64 (kn : Int), tc1]).heap[gn1]? = some (.cells #[.int .u64 (kn : Int), tc0] 27 (0, 0))) := (setRow_other _ _ _ _ NE_n1_n2.out).trans Kn1_54.out
          have Kn2_66 : Hid ((wc1.setRow gn2 #[.int .u64 (kn : Int), tc1]).heap[gn2]? = some (.cells #[.int .u64 (kn : Int), tc1] 29 (0, 0))) := setRow_heap _ _ _ _ _ _ Kn2_55.out
          have Ts1_67 : Hid (TsT (wc1.setRow gn2 #[.int .u64 (kn : Int), tc1]) s1 (sortT S)) := Ts1_56.out.setRow Kn2_55.out (by decide) _
          have Ts2_68 : Hid (TsT (wc1.setRow gn2 #[.int .u64 (kn : Int), tc1]) s2 S) := Ts2_57.out.setRow Kn2_55.out (by decide) _
          have Ts9_69 : Hid (TsT (wc1.setRow gn2 #[.int .u64 (kn : Int), tc1]) s9 (sortT S)) := Ts9_58.out.setRow Kn2_55.out (by decide) _
          have Tt1_70 : Hid (TsT (wc1.setRow gn2 #[.int .u64 (kn : Int), tc1]) tc0 (sortT S1)) := Tt1_59.out.setRow Kn2_55.out (by decide) _
          have Tt2_71 : Hid (TsT (wc1.setRow gn2 #[.int .u64 (kn : Int), tc1]) tc1 S1) := TC1.out.setRow Kn2_55.out (by decide) _
          have B_72 := Lib.hid (below_setRow B_60.out GE_n2.out #[.int .u64 (kn : Int), tc1])
          generalize (wc1.setRow gn2 #[.int .u64 (kn : Int), tc1]) = wd1 at Kx1_61 Kx2_62 Ko_63 Kw_64 Kn1_65 Kn2_66 Ts1_67 Ts2_68 Ts9_69 Tt1_70 Tt2_71 B_72 ⊢
          clear Kx1_50 Kx2_51 Ko_52 Kw_53 Kn1_54 Kn2_55 Ts1_56 Ts2_57 Ts9_58 Tt1_59 TC1 B_60
          have HLK1 := Lib.hid (likeT (kn) S1 (by have := HLSN.out; omega))
          have HLK0 := Lib.hid (likeT kn S (by have := HLS.out; omega))
          have HRI : Hid (∀ w v, WhT w v (kn) (sortT S1) → Calls Try.prog 16 #[v] w fun e w' => e = .returned (.bool true) ∧ Below w.heap.size w w') := fun w v hv => by
            have := right_any v (kn) (sortT S1) w hv.whs (by omega) (okT_sort HOSN.out) (by rw [sort_len]; have := HLSN.out; omega)
            rw [HRN.out] at this
            exact this
          have HDU : Hid (∀ w v, WhT w v (kn) (sortT S1) → Calls Try.prog 17 #[v, .int .i64 id] w fun e w' => e = .returned (.tuple #[.int .u64 ((dueC (sortT S1) id).1 : Int), .bool (dueC (sortT S1) id).2]) ∧ Below w.heap.size w w') := fun w v hv => due_any v (kn) (sortT S1) id w hv.whs HRN.out (okT_sort HOSN.out) HID.out
          obtain ⟨hfd1, hfd2⟩ := due_found S1 id
          obtain ⟨dd, hdd⟩ : ∃ dd, (dueC (sortT S1) id).1 = dd := ⟨_, rfl⟩
          obtain ⟨ff, hff⟩ : ∃ ff, (dueC (sortT S1) id).2 = ff := ⟨_, rfl⟩
          rw [hdd, hff] at HDU hfd1 hfd2
          have HFD1 := Lib.hid hfd1
          have HFD2 := Lib.hid hfd2
          clear hfd1 hfd2 hdd hff
          obtain ⟨cn10, cn11⟩ := two_cells Kn1_65.out
          obtain ⟨cn20, cn21⟩ := two_cells Kn2_66.out
          go_wp2_with fail
          refine (HLK1.out _ _ _ ⟨_, rfl, Tt2_71.out⟩ ⟨_, rfl, Tt1_70.out⟩).mono ?_
          rintro e wb1 ⟨rfl, hb⟩
          clear cn10 cn11 cn20 cn21
          have Kx1_73 := Lib.hid (old_below Kx1_61.out hb (row_lt Kx1_61.out))
          have Kx2_74 := Lib.hid (old_below Kx2_62.out hb (row_lt Kx2_62.out))
          have Ko_75 := Lib.hid (old_below Ko_63.out hb (row_lt Ko_63.out))
          have Kw_76 := Lib.hid (old_below Kw_64.out hb (row_lt Kw_64.out))
          have Kn1_77 := Lib.hid (old_below Kn1_65.out hb (row_lt Kn1_65.out))
          have Kn2_78 := Lib.hid (old_below Kn2_66.out hb (row_lt Kn2_66.out))
          have Ts1_79 := Lib.hid (Ts1_67.out.below hb)
          have Ts2_80 := Lib.hid (Ts2_68.out.below hb)
          have Ts9_81 := Lib.hid (Ts9_69.out.below hb)
          have Tt1_82 := Lib.hid (Tt1_70.out.below hb)
          have Tt2_83 := Lib.hid (Tt2_71.out.below hb)
          have B_84 := Lib.hid (B_72.out.trans ((hb).mono B_72.out.size))
          clear Kx1_61 Kx2_62 Ko_63 Kw_64 Kn1_65 Kn2_66 Ts1_67 Ts2_68 Ts9_69 Tt1_70 Tt2_71 B_72
          clear hb
          obtain ⟨cn10, cn11⟩ := two_cells Kn1_77.out
          go_wp2_with fail
          refine (HRI.out _ _ ⟨_, rfl, Tt1_82.out⟩).mono ?_
          rintro e wb2 ⟨rfl, hb⟩
          clear cn10 cn11
          have Kx1_85 := Lib.hid (old_below Kx1_73.out hb (row_lt Kx1_73.out))
          have Kx2_86 := Lib.hid (old_below Kx2_74.out hb (row_lt Kx2_74.out))
          have Ko_87 := Lib.hid (old_below Ko_75.out hb (row_lt Ko_75.out))
          have Kw_88 := Lib.hid (old_below Kw_76.out hb (row_lt Kw_76.out))
          have Kn1_89 := Lib.hid (old_below Kn1_77.out hb (row_lt Kn1_77.out))
          have Kn2_90 := Lib.hid (old_below Kn2_78.out hb (row_lt Kn2_78.out))
          have Ts1_91 := Lib.hid (Ts1_79.out.below hb)
          have Ts2_92 := Lib.hid (Ts2_80.out.below hb)
          have Ts9_93 := Lib.hid (Ts9_81.out.below hb)
          have Tt1_94 := Lib.hid (Tt1_82.out.below hb)
          have Tt2_95 := Lib.hid (Tt2_83.out.below hb)
          have B_96 := Lib.hid (B_84.out.trans ((hb).mono B_84.out.size))
          clear Kx1_73 Kx2_74 Ko_75 Kw_76 Kn1_77 Kn2_78 Ts1_79 Ts2_80 Ts9_81 Tt1_82 Tt2_83 B_84
          clear hb
          obtain ⟨cx10, cx11⟩ := two_cells Kx1_85.out
          obtain ⟨cx20, cx21⟩ := two_cells Kx2_86.out
          go_wp2_with fail
          refine (HLK0.out _ _ _ ⟨_, rfl, Ts2_92.out⟩ ⟨_, rfl, Ts1_91.out⟩).mono ?_
          rintro e wb3 ⟨rfl, hb⟩
          clear cx10 cx11 cx20 cx21
          have Kx1_97 := Lib.hid (old_below Kx1_85.out hb (row_lt Kx1_85.out))
          have Kx2_98 := Lib.hid (old_below Kx2_86.out hb (row_lt Kx2_86.out))
          have Ko_99 := Lib.hid (old_below Ko_87.out hb (row_lt Ko_87.out))
          have Kw_100 := Lib.hid (old_below Kw_88.out hb (row_lt Kw_88.out))
          have Kn1_101 := Lib.hid (old_below Kn1_89.out hb (row_lt Kn1_89.out))
          have Kn2_102 := Lib.hid (old_below Kn2_90.out hb (row_lt Kn2_90.out))
          have Ts1_103 := Lib.hid (Ts1_91.out.below hb)
          have Ts2_104 := Lib.hid (Ts2_92.out.below hb)
          have Ts9_105 := Lib.hid (Ts9_93.out.below hb)
          have Tt1_106 := Lib.hid (Tt1_94.out.below hb)
          have Tt2_107 := Lib.hid (Tt2_95.out.below hb)
          have B_108 := Lib.hid (B_96.out.trans ((hb).mono B_96.out.size))
          clear Kx1_85 Kx2_86 Ko_87 Kw_88 Kn1_89 Kn2_90 Ts1_91 Ts2_92 Ts9_93 Tt1_94 Tt2_95 B_96
          clear hb
          obtain ⟨cx20, cx21⟩ := two_cells Kx2_98.out
          obtain ⟨cw0, cw1⟩ := two_cells Kw_100.out
          go_wp2_with fail
          refine (HLK0.out _ _ _ ⟨_, rfl, Ts2_104.out⟩ ⟨_, rfl, Ts9_105.out⟩).mono ?_
          rintro e wb4 ⟨rfl, hb⟩
          clear cx20 cx21 cw0 cw1
          have Kx1_109 := Lib.hid (old_below Kx1_97.out hb (row_lt Kx1_97.out))
          have Kx2_110 := Lib.hid (old_below Kx2_98.out hb (row_lt Kx2_98.out))
          have Ko_111 := Lib.hid (old_below Ko_99.out hb (row_lt Ko_99.out))
          have Kw_112 := Lib.hid (old_below Kw_100.out hb (row_lt Kw_100.out))
          have Kn1_113 := Lib.hid (old_below Kn1_101.out hb (row_lt Kn1_101.out))
          have Kn2_114 := Lib.hid (old_below Kn2_102.out hb (row_lt Kn2_102.out))
          have Ts1_115 := Lib.hid (Ts1_103.out.below hb)
          have Ts2_116 := Lib.hid (Ts2_104.out.below hb)
          have Ts9_117 := Lib.hid (Ts9_105.out.below hb)
          have Tt1_118 := Lib.hid (Tt1_106.out.below hb)
          have Tt2_119 := Lib.hid (Tt2_107.out.below hb)
          have B_120 := Lib.hid (B_108.out.trans ((hb).mono B_108.out.size))
          clear Kx1_97 Kx2_98 Ko_99 Kw_100 Kn1_101 Kn2_102 Ts1_103 Ts2_104 Ts9_105 Tt1_106 Tt2_107 B_108
          clear hb
          obtain ⟨cn10, cn11⟩ := two_cells Kn1_113.out
          obtain ⟨co0, co1, co2⟩ := three_cells Ko_111.out
          go_wp2_with fail
          refine (HDU.out _ _ ⟨_, rfl, Tt1_118.out⟩).mono ?_
          rintro e wb5 ⟨rfl, hb⟩
          clear cn10 cn11 co0 co1 co2
          have Kx1_121 := Lib.hid (old_below Kx1_109.out hb (row_lt Kx1_109.out))
          have Kx2_122 := Lib.hid (old_below Kx2_110.out hb (row_lt Kx2_110.out))
          have Ko_123 := Lib.hid (old_below Ko_111.out hb (row_lt Ko_111.out))
          have Kw_124 := Lib.hid (old_below Kw_112.out hb (row_lt Kw_112.out))
          have Kn1_125 := Lib.hid (old_below Kn1_113.out hb (row_lt Kn1_113.out))
          have Kn2_126 := Lib.hid (old_below Kn2_114.out hb (row_lt Kn2_114.out))
          have Ts1_127 := Lib.hid (Ts1_115.out.below hb)
          have Ts2_128 := Lib.hid (Ts2_116.out.below hb)
          have Ts9_129 := Lib.hid (Ts9_117.out.below hb)
          have Tt1_130 := Lib.hid (Tt1_118.out.below hb)
          have Tt2_131 := Lib.hid (Tt2_119.out.below hb)
          have B_132 := Lib.hid (B_120.out.trans ((hb).mono B_120.out.size))
          clear Kx1_109 Kx2_110 Ko_111 Kw_112 Kn1_113 Kn2_114 Ts1_115 Ts2_116 Ts9_117 Tt1_118 Tt2_119 B_120
          clear hb
          obtain ⟨p, hp⟩ : ∃ p, S1.length = p := ⟨_, rfl⟩
          have HPL := Lib.hid hp
          obtain ⟨A2, c2, ht2, hr2, -, hl2, hc2⟩ := Tt2_131.out
          rw [hp] at ht2 hl2
          subst ht2
          have HR2 := Lib.hid hr2.rd
          have hc2b : c2 ≤ 9223372036854775807 := by unfold maxLen at hc2; omega
          clear hp hr2 hc2
          obtain ⟨cn20, cn21⟩ := two_cells Kn2_126.out
          go_wp2
          clear cn20 cn21
          go_loopw [21, 156] (fun t21 t156 wr => ∃ j : Nat, j ≤ p ∧ t156 = .int .i64 (j : Int) ∧ t21 = .bool (foundD (S1.take j) id dd) ∧ Hid (Below wb5.heap.size wb5 wr)) (fun _ t156 _ => p - (intOf t156).toNat)
          case atStart => exact ⟨0, Nat.zero_le _, rfl, rfl, Lib.hid (Below.refl _ _)⟩
          case round =>
            obtain ⟨j, hj, rfl, rfl, HBI⟩ := hrel
            by_cases hlt2 : j < p
            · obtain ⟨y, hy⟩ : ∃ y, S1[j]? = some y := ⟨_, List.getElem?_eq_getElem (by rw [HPL.out]; exact hlt2)⟩
              obtain ⟨yd, rfl, hKY⟩ := el_all tmE (Rs.below HR2.out HBI.out (Nat.le_refl _)) (by omega) hy
              have HKY : Hid (∀ (q : Nat) v, (#[.int .i64 y.id, .int .u64 (y.due : Int)] : Array Value)[q]? = some v → wr.cell? ((yd.add (j * 2)).add q) = some v) := hKY wr (Below.refl _ _)
              have HFS := Lib.hid (found_snoc hy id dd)
              have HOI := Lib.hid (old_below Ko_123.out HBI.out (row_lt Ko_123.out))
              clear hy hKY
              obtain ⟨wy, hwy⟩ : ∃ wy, wr.alloc (.cells #[.int .i64 y.id, .int .u64 (y.due : Int)] 53) = wy := ⟨_, rfl⟩
              have HY5 : Hid (wy.heap[wr.heap.size]? = some (.cells #[.int .i64 y.id, .int .u64 (y.due : Int)] 53 (0, 0))) := by rw [← hwy]; exact heap_alloc_new wr _
              have HO5 : Hid (wy.heap[go]? = some (.cells #[.int .i64 kd, .int .i64 id, .int .u64 (af : Int)] 31 (0, 0))) := by rw [← hwy]; exact old_alloc HOI.out _
              have HB5 : Hid (Below wb5.heap.size wb5 wy) := by rw [← hwy]; exact HBI.out.alloc HBI.out.size _
              have HWY := Lib.hid hwy
              clear hwy
              go_upto_region 41 with (first | (refine wpList_load_atA rfl 53 _ rfl (yd.add (j * 2)) rfl #[.int .i64 y.id, .int .u64 (y.due : Int)] _ HKY.out Try.underlying53 rfl (by kernel_rfl) ?_) | (refine wpList_store_new rfl 53 _ _ rfl wr #[.int .i64 0, .int .u64 0] #[.int .i64 y.id, .int .u64 (y.due : Int)] rfl rfl (by kernel_rfl) rfl (by simp [Value.oneCell']) ?_) | go_in)
              rw [HWY.out]
              clear HWY HKY
              generalize wr.heap.size = gy at HY5 ⊢
              obtain ⟨y0, y1⟩ := two_cells HY5.out
              obtain ⟨o0, o1, o2⟩ := three_cells HO5.out
              generalize foundD (S1.take j) id dd = fb at HFS ⊢
              cases fb
              · by_cases hyi : y.id = id
                · by_cases hyd : y.due = dd
                  · have hydi : (y.due : Int) = (dd : Int) := by omega
                    have HF2 : Hid (foundD (S1.take (j + 1)) id dd = true) := by show _ = _; rw [HFS.out, decide_eq_true hyi, decide_eq_true hyd]; rfl
                    go_wp2
                    go_roundw
                    case rel => exact ⟨j + 1, by omega, by go_num, by rw [HF2.out] <;> first | rfl | simp [*], HB5⟩
                    case measure => simp [intOf]; omega
                  · have hydi : ¬ (y.due : Int) = (dd : Int) := by omega
                    have hydb : ((y.due : Int) == (dd : Int)) = false := beq_eq_false_iff_ne.2 hydi
                    have HF2 : Hid (foundD (S1.take (j + 1)) id dd = false) := by show _ = _; rw [HFS.out, decide_eq_true hyi, decide_eq_false hyd]; rfl
                    go_wp2
                    go_roundw
                    case rel => exact ⟨j + 1, by omega, by go_num, by rw [HF2.out] <;> first | rfl | simp [*], HB5⟩
                    case measure => simp [intOf]; omega
                · have HF2 : Hid (foundD (S1.take (j + 1)) id dd = false) := by show _ = _; rw [HFS.out, decide_eq_false hyi]; rfl
                  have hyib : (y.id == id) = false := beq_eq_false_iff_ne.2 hyi
                  go_wp2
                  go_roundw
                  case rel => exact ⟨j + 1, by omega, by go_num, by rw [HF2.out] <;> first | rfl | simp [*], HB5⟩
                  case measure => simp [intOf]; omega
              · have HF2 : Hid (foundD (S1.take (j + 1)) id dd = true) := by show _ = _; rw [HFS.out, Bool.true_or]
                go_wp2
                go_roundw
                case rel => exact ⟨j + 1, by omega, by go_num, by rw [HF2.out] <;> first | rfl | simp [*], HB5⟩
                case measure => simp [intOf]; omega
            · obtain rfl : j = p := by omega
              have HTK : Hid (S1.take j = S1) := List.take_of_length_le (Nat.le_of_eq HPL.out)
              rw [HTK.out, HFD1.out]
              have Kx1_133 := Lib.hid (old_below Kx1_121.out HBI.out (row_lt Kx1_121.out))
              have Kx2_134 := Lib.hid (old_below Kx2_122.out HBI.out (row_lt Kx2_122.out))
              have Ko_135 := Lib.hid (old_below Ko_123.out HBI.out (row_lt Ko_123.out))
              have Kw_136 := Lib.hid (old_below Kw_124.out HBI.out (row_lt Kw_124.out))
              have Kn1_137 := Lib.hid (old_below Kn1_125.out HBI.out (row_lt Kn1_125.out))
              have Kn2_138 := Lib.hid (old_below Kn2_126.out HBI.out (row_lt Kn2_126.out))
              have Ts1_139 := Lib.hid (Ts1_127.out.below HBI.out)
              have Ts2_140 := Lib.hid (Ts2_128.out.below HBI.out)
              have Ts9_141 := Lib.hid (Ts9_129.out.below HBI.out)
              have Tt1_142 := Lib.hid (Tt1_130.out.below HBI.out)
              have Tt2_143 := Lib.hid (Tt2_131.out.below HBI.out)
              have B_144 := Lib.hid (B_132.out.trans ((HBI.out).mono B_132.out.size))
              clear Kx1_121 Kx2_122 Ko_123 Kw_124 Kn1_125 Kn2_126 Ts1_127 Ts2_128 Ts9_129 Tt1_130 Tt2_131 B_132
              have HOT1 := Lib.hid Tt1_142.out.one
              have HOT2 : Hid ((Value.slice A2 j c2).oneCell' = true) := rfl
              cases ff
              · have hdz : dd = 0 := HFD2.out rfl
                subst hdz
                go_upto_region 45 with (fail)
                apply wp_region_relyG [2, 3] (OldT wr 2 g1 27 #[.int .u64 (kn : Int), s1] #[.int .u64 (kn : Int), tc0] 3 g2 29 #[.int .u64 (kn : Int), s2] #[.int .u64 (kn : Int), .slice A2 j c2]) (RL [Is (.agg #[.int .u64 (kn : Int), tc0]), Is (.agg #[.int .u64 (kn : Int), .slice A2 j c2]), Any, Any]) [false, false, false, false, false, false, false, false, false, false, false, false, false, false, false, false, false, false, false, false, false, false, false, false, false, false, false, false, false, false, false, false, false, false, false, false, false, false, false, false, false, false, false, false, false, false, false, false, false, false, false, false, false, false, false, false, false, false, false, false, false, false, false, false, false, false, false, false, false, false, false, false, false, false, false, false, false, false, false, false, false, false, false, false, false, false, false, false, false, false, false, false, false, false, false, false, false, false, false, false, false, false, false, false, false, false, false, false, false, false, false, false, false, false, false, false, false, false, false, false, false, false, false, false, false, false, false, false, false, false, false, false, false, false, false, false, false, false, false, false, false, false, false, false, false, false, false, false, false, false, false, false, false, false, false, false, false, false, false, false, false, false, false, false, false, false, false, false, false, false, false, false, false, false, false, false, false, false, false, false, false, false, false, false, false, false, true, true, false]
                · kernel_rfl
                · kernel_rfl
                · kernel_rfl
                · refine ⟨?_, ?_, ?_, ?_, trivial⟩
                  · intro L ev w' hC hL hx K hK
                    have e10 : ev (.tmp 10) = _ := hx.base 10 (by kernel_rfl)
                    have HK := Lib.hid hK
                    have HC := Lib.hid hC
                    have HL := Lib.hid hL
                    have HX := Lib.hid hx
                    have hc := hx.cst
                    skip
                    clear hx hK hC hL
                    have q1 : ev (.tmp 10) = .pointer (some ⟨gn1, 0, none⟩) := e10
                    have hld := run_loadVar_row (P := Try.prog) w' gn1 27 27 #[.int .u64 (kn : Int), tc0] (0, 0) _ (HC.out.keep Kn1_137.out (Ne.symm NE_x1_n1.out) (Ne.symm NE_x2_n1.out)) Try.underlying27 rfl (by kernel_rfl)
                    unfold Run
                    rw [rely_load 27 _ rfl q1 hld]
                    exact HK.out _ _ (.inl ⟨Below.refl _ _, by decide⟩) rfl
                  · intro L ev w' hC hL hx K hK
                    have e11 : ev (.tmp 11) = _ := hx.base 11 (by kernel_rfl)
                    have HK := Lib.hid hK
                    have HC := Lib.hid hC
                    have HL := Lib.hid hL
                    have HX := Lib.hid hx
                    have hc := hx.cst
                    skip
                    clear hx hK hC hL
                    have q1 : ev (.tmp 11) = .pointer (some ⟨gn2, 0, none⟩) := e11
                    have hld := run_loadVar_row (P := Try.prog) w' gn2 29 29 #[.int .u64 (kn : Int), .slice A2 j c2] (0, 0) _ (HC.out.keep Kn2_138.out (Ne.symm NE_x1_n2.out) (Ne.symm NE_x2_n2.out)) Try.underlying29 rfl (by kernel_rfl)
                    unfold Run
                    rw [rely_load 29 _ rfl q1 hld]
                    exact HK.out _ _ (.inl ⟨Below.refl _ _, by decide⟩) rfl
                  · intro L ev w' hC hL hx K hK
                    have e5 : ev (.tmp 5) = _ := hx.base 5 (by kernel_rfl)
                    have e186 := hx.held 0 _ rfl (by kernel_rfl)
                    change ev (.tmp 186) = _ at e186
                    have HK := Lib.hid hK
                    have HC := Lib.hid hC
                    have HL := Lib.hid hL
                    have HX := Lib.hid hx
                    have hc := hx.cst
                    skip
                    clear hx hK hC hL
                    have qv : ev (.tmp 186) = .agg #[.int .u64 (kn : Int), tc0] := e186
                    have nst : L 2 = false := HL.out
                    have qp : ev (.tmp 5) = .pointer (some ⟨g1, 0, none⟩) := e5
                    have hgh := HC.out.old1 nst
                    have hnv := HC.out.store1 nst rfl NE_x1_x2.out (by decide)
                    have hst := run_storeVar_row (P := Try.prog) w' g1 27 27 #[.int .u64 (kn : Int), s1] #[.int .u64 (kn : Int), tc0] hgh (by kernel_rfl) rfl (wh_one HOT1.out)
                    unfold Run
                    rw [rely_store 27 _ _ rfl qp qv hst]
                    refine HK.out _ _ (.inr ⟨hnv, fun j hj hlj u hr => ?_⟩) trivial
                    rcases j with _ | _ | _ | _ | j
                    · exact hr
                    · exact hr
                    · exact absurd rfl hj
                    · exact trivial
                    · exact trivial
                  · intro L ev w' hC hL hx K hK
                    have e6 : ev (.tmp 6) = _ := hx.base 6 (by kernel_rfl)
                    have e187 := hx.held 1 _ rfl (by kernel_rfl)
                    change ev (.tmp 187) = _ at e187
                    have HK := Lib.hid hK
                    have HC := Lib.hid hC
                    have HL := Lib.hid hL
                    have HX := Lib.hid hx
                    have hc := hx.cst
                    skip
                    clear hx hK hC hL
                    have qv : ev (.tmp 187) = .agg #[.int .u64 (kn : Int), .slice A2 j c2] := e187
                    have nst : L 3 = false := HL.out
                    have qp : ev (.tmp 6) = .pointer (some ⟨g2, 0, none⟩) := e6
                    have hgh := HC.out.old2 nst
                    have hnv := HC.out.store2 nst rfl NE_x1_x2.out (by decide)
                    have hst := run_storeVar_row (P := Try.prog) w' g2 29 29 #[.int .u64 (kn : Int), s2] #[.int .u64 (kn : Int), .slice A2 j c2] hgh (by kernel_rfl) rfl (wh_one HOT2.out)
                    unfold Run
                    rw [rely_store 29 _ _ rfl qp qv hst]
                    refine HK.out _ _ (.inr ⟨hnv, fun j hj hlj u hr => ?_⟩) trivial
                    rcases j with _ | _ | _ | _ | j
                    · exact hr
                    · exact hr
                    · exact trivial
                    · exact absurd rfl hj
                    · exact trivial
                · exact rl_mono ⟨is_mono _, is_mono _, any_mono, any_mono, trivial⟩
                · exact fun L L' w' h1 hg => hg.agree (h1 2 (by simp)) (h1 3 (by simp))
                · exact fun L w' w'' hb hg => hg.below hb
                · exact OldT.start Kx1_133.out Kx2_134.out
                · simp
                intro us wr hG hH
                obtain ⟨-, -, -, -, -⟩ := hH
                simp only [fillM]
                obtain ⟨hG9, hvn1, hvn2⟩ := hG
                have HVN1 : Hid (wr.heap[g1]? = some (.cells #[.int .u64 (kn : Int), tc0] 27 (0, 0))) := hvn1
                have HVN2 : Hid (wr.heap[g2]? = some (.cells #[.int .u64 (kn : Int), .slice A2 j c2] 29 (0, 0))) := hvn2
                have HG9 := Lib.hid hG9
                clear hG9 hvn1 hvn2
                generalize us 186 = v186
                generalize us 187 = v187
                have HT1 := Lib.hid (ts_gro2 Tt1_142.out HG9.out Kx1_133.out Kx2_134.out (by decide) (by decide))
                have HT2 := Lib.hid (ts_gro2 Tt2_143.out HG9.out Kx1_133.out Kx2_134.out (by decide) (by decide))
                have HBF := Lib.hid (B_144.out.trans (HG9.out.below HGE.out B_144.out.size))
                go_wp2
                go_roundw
                case rel => exact ⟨i + 1, kn, S1, _, _, by omega, by go_num, by omega, HVN1, HVN2, HT1, HT2, HRN, HOSN, HBF⟩
                case measure => simp [intOf]; omega
              · go_upto_region 45 with (fail)
                apply wp_region_relyG [2, 3] (OldT wr 2 g1 27 #[.int .u64 (kn : Int), s1] #[.int .u64 (kn : Int), tc0] 3 g2 29 #[.int .u64 (kn : Int), s2] #[.int .u64 (kn : Int), .slice A2 j c2]) (RL [Is (.agg #[.int .u64 (kn : Int), tc0]), Is (.agg #[.int .u64 (kn : Int), .slice A2 j c2]), Any, Any]) [false, false, false, false, false, false, false, false, false, false, false, false, false, false, false, false, false, false, false, false, false, false, false, false, false, false, false, false, false, false, false, false, false, false, false, false, false, false, false, false, false, false, false, false, false, false, false, false, false, false, false, false, false, false, false, false, false, false, false, false, false, false, false, false, false, false, false, false, false, false, false, false, false, false, false, false, false, false, false, false, false, false, false, false, false, false, false, false, false, false, false, false, false, false, false, false, false, false, false, false, false, false, false, false, false, false, false, false, false, false, false, false, false, false, false, false, false, false, false, false, false, false, false, false, false, false, false, false, false, false, false, false, false, false, false, false, false, false, false, false, false, false, false, false, false, false, false, false, false, false, false, false, false, false, false, false, false, false, false, false, false, false, false, false, false, false, false, false, false, false, false, false, false, false, false, false, false, false, false, false, false, false, false, false, false, false, true, true, false]
                · kernel_rfl
                · kernel_rfl
                · kernel_rfl
                · refine ⟨?_, ?_, ?_, ?_, trivial⟩
                  · intro L ev w' hC hL hx K hK
                    have e10 : ev (.tmp 10) = _ := hx.base 10 (by kernel_rfl)
                    have HK := Lib.hid hK
                    have HC := Lib.hid hC
                    have HL := Lib.hid hL
                    have HX := Lib.hid hx
                    have hc := hx.cst
                    skip
                    clear hx hK hC hL
                    have q1 : ev (.tmp 10) = .pointer (some ⟨gn1, 0, none⟩) := e10
                    have hld := run_loadVar_row (P := Try.prog) w' gn1 27 27 #[.int .u64 (kn : Int), tc0] (0, 0) _ (HC.out.keep Kn1_137.out (Ne.symm NE_x1_n1.out) (Ne.symm NE_x2_n1.out)) Try.underlying27 rfl (by kernel_rfl)
                    unfold Run
                    rw [rely_load 27 _ rfl q1 hld]
                    exact HK.out _ _ (.inl ⟨Below.refl _ _, by decide⟩) rfl
                  · intro L ev w' hC hL hx K hK
                    have e11 : ev (.tmp 11) = _ := hx.base 11 (by kernel_rfl)
                    have HK := Lib.hid hK
                    have HC := Lib.hid hC
                    have HL := Lib.hid hL
                    have HX := Lib.hid hx
                    have hc := hx.cst
                    skip
                    clear hx hK hC hL
                    have q1 : ev (.tmp 11) = .pointer (some ⟨gn2, 0, none⟩) := e11
                    have hld := run_loadVar_row (P := Try.prog) w' gn2 29 29 #[.int .u64 (kn : Int), .slice A2 j c2] (0, 0) _ (HC.out.keep Kn2_138.out (Ne.symm NE_x1_n2.out) (Ne.symm NE_x2_n2.out)) Try.underlying29 rfl (by kernel_rfl)
                    unfold Run
                    rw [rely_load 29 _ rfl q1 hld]
                    exact HK.out _ _ (.inl ⟨Below.refl _ _, by decide⟩) rfl
                  · intro L ev w' hC hL hx K hK
                    have e5 : ev (.tmp 5) = _ := hx.base 5 (by kernel_rfl)
                    have e186 := hx.held 0 _ rfl (by kernel_rfl)
                    change ev (.tmp 186) = _ at e186
                    have HK := Lib.hid hK
                    have HC := Lib.hid hC
                    have HL := Lib.hid hL
                    have HX := Lib.hid hx
                    have hc := hx.cst
                    skip
                    clear hx hK hC hL
                    have qv : ev (.tmp 186) = .agg #[.int .u64 (kn : Int), tc0] := e186
                    have nst : L 2 = false := HL.out
                    have qp : ev (.tmp 5) = .pointer (some ⟨g1, 0, none⟩) := e5
                    have hgh := HC.out.old1 nst
                    have hnv := HC.out.store1 nst rfl NE_x1_x2.out (by decide)
                    have hst := run_storeVar_row (P := Try.prog) w' g1 27 27 #[.int .u64 (kn : Int), s1] #[.int .u64 (kn : Int), tc0] hgh (by kernel_rfl) rfl (wh_one HOT1.out)
                    unfold Run
                    rw [rely_store 27 _ _ rfl qp qv hst]
                    refine HK.out _ _ (.inr ⟨hnv, fun j hj hlj u hr => ?_⟩) trivial
                    rcases j with _ | _ | _ | _ | j
                    · exact hr
                    · exact hr
                    · exact absurd rfl hj
                    · exact trivial
                    · exact trivial
                  · intro L ev w' hC hL hx K hK
                    have e6 : ev (.tmp 6) = _ := hx.base 6 (by kernel_rfl)
                    have e187 := hx.held 1 _ rfl (by kernel_rfl)
                    change ev (.tmp 187) = _ at e187
                    have HK := Lib.hid hK
                    have HC := Lib.hid hC
                    have HL := Lib.hid hL
                    have HX := Lib.hid hx
                    have hc := hx.cst
                    skip
                    clear hx hK hC hL
                    have qv : ev (.tmp 187) = .agg #[.int .u64 (kn : Int), .slice A2 j c2] := e187
                    have nst : L 3 = false := HL.out
                    have qp : ev (.tmp 6) = .pointer (some ⟨g2, 0, none⟩) := e6
                    have hgh := HC.out.old2 nst
                    have hnv := HC.out.store2 nst rfl NE_x1_x2.out (by decide)
                    have hst := run_storeVar_row (P := Try.prog) w' g2 29 29 #[.int .u64 (kn : Int), s2] #[.int .u64 (kn : Int), .slice A2 j c2] hgh (by kernel_rfl) rfl (wh_one HOT2.out)
                    unfold Run
                    rw [rely_store 29 _ _ rfl qp qv hst]
                    refine HK.out _ _ (.inr ⟨hnv, fun j hj hlj u hr => ?_⟩) trivial
                    rcases j with _ | _ | _ | _ | j
                    · exact hr
                    · exact hr
                    · exact trivial
                    · exact absurd rfl hj
                    · exact trivial
                · exact rl_mono ⟨is_mono _, is_mono _, any_mono, any_mono, trivial⟩
                · exact fun L L' w' h1 hg => hg.agree (h1 2 (by simp)) (h1 3 (by simp))
                · exact fun L w' w'' hb hg => hg.below hb
                · exact OldT.start Kx1_133.out Kx2_134.out
                · simp
                intro us wr hG hH
                obtain ⟨-, -, -, -, -⟩ := hH
                simp only [fillM]
                obtain ⟨hG9, hvn1, hvn2⟩ := hG
                have HVN1 : Hid (wr.heap[g1]? = some (.cells #[.int .u64 (kn : Int), tc0] 27 (0, 0))) := hvn1
                have HVN2 : Hid (wr.heap[g2]? = some (.cells #[.int .u64 (kn : Int), .slice A2 j c2] 29 (0, 0))) := hvn2
                have HG9 := Lib.hid hG9
                clear hG9 hvn1 hvn2
                generalize us 186 = v186
                generalize us 187 = v187
                have HT1 := Lib.hid (ts_gro2 Tt1_142.out HG9.out Kx1_133.out Kx2_134.out (by decide) (by decide))
                have HT2 := Lib.hid (ts_gro2 Tt2_143.out HG9.out Kx1_133.out Kx2_134.out (by decide) (by decide))
                have HBF := Lib.hid (B_144.out.trans (HG9.out.below HGE.out B_144.out.size))
                go_wp2
                go_roundw
                case rel => exact ⟨i + 1, kn, S1, _, _, by omega, by go_num, by omega, HVN1, HVN2, HT1, HT2, HRN, HOSN, HBF⟩
                case measure => simp [intOf]; omega
      · as_aux_lemma =>
          obtain ⟨co0, co1, co2⟩ := three_cells Ko_23.out
          go_upto_region 11 with (fail)
          clear co0 co1 co2
          have HRN : Hid (rightW (kn + 1) (sortT (S.filter (notDue (kn + 1)))) = true) := by
            have := right_tick HR.out hk62
            rw [sort_filter] at this
            exact this
          have HOSN : Hid (okT (S.filter (notDue (kn + 1)))) := okT_filter HOS.out
          have HLSN : Hid ((S.filter (notDue (kn + 1))).length ≤ 64) := Nat.le_trans (List.length_filter_le _ _) HLS.out
          have HCA : Hid (∀ w v, WhT w v kn (sortT S) → Calls Try.prog 13 #[v] w fun e w' => ∃ v' u', e = .returned (.tuple #[v', u']) ∧ WhT w' v' (kn + 1) (sortT (S.filter (notDue (kn + 1)))) ∧ InT w' u' (dueX (kn + 1) S) ∧ Below w.heap.size w w') := fun w v hv => by
            have := tick_any v kn (sortT S) w hv.whs HR.out (okT_sort HOS.out) hk62
            rw [sort_filter, due_sort] at this
            exact this
          have HCB : Hid (∀ w v, WhT w v kn S → Calls Try.prog 14 #[v] w fun e w' => ∃ v' u', e = .returned (.tuple #[v', u']) ∧ WhT w' v' (kn + 1) (S.filter (notDue (kn + 1))) ∧ InT w' u' (dueX (kn + 1) S) ∧ Below w.heap.size w w') := fun w v hv => reftick_any v kn S w hv (by have := HLS.out; omega) (by omega)
          obtain ⟨S1, hS1⟩ : ∃ S1, S.filter (notDue (kn + 1)) = S1 := ⟨_, rfl⟩
          obtain ⟨D, hD⟩ : ∃ D, dueX (kn + 1) S = D := ⟨_, rfl⟩
          rw [hS1] at HRN HOSN HLSN HCA HCB
          rw [hD] at HCA HCB
          clear hS1 hD
          obtain ⟨co0, co1, co2⟩ := three_cells Ko_23.out
          go_wp2_with (refine wpList_load_row rfl 27 _ rfl g1 rfl 27 #[.int .u64 (kn : Int), s1] (0, 0) _ Kx1_21.out Try.underlying27 rfl (by kernel_rfl) ?_)
          refine (HCA.out _ _ ⟨_, rfl, Ts1_25.out⟩).mono ?_
          rintro e wc0 ⟨vc0, u0, rfl, hv, hu, hb⟩
          obtain ⟨tc0, rfl, ho, ht⟩ := hv.form
          have HOC0 := Lib.hid ho
          have TC0 := Lib.hid ht
          clear co0 co1 co2
          have Kx1_29 := Lib.hid (old_below Kx1_21.out hb (row_lt Kx1_21.out))
          have Kx2_30 := Lib.hid (old_below Kx2_22.out hb (row_lt Kx2_22.out))
          have Ko_31 := Lib.hid (old_below Ko_23.out hb (row_lt Ko_23.out))
          have Kw_32 := Lib.hid (old_below Kw_24.out hb (row_lt Kw_24.out))
          have Kn1_33 := Lib.hid (old_below Kn1.out hb (row_lt Kn1.out))
          have Kn2_34 := Lib.hid (old_below Kn2.out hb (row_lt Kn2.out))
          have Ts1_35 := Lib.hid (Ts1_25.out.below hb)
          have Ts2_36 := Lib.hid (Ts2_26.out.below hb)
          have Ts9_37 := Lib.hid (Ts9_27.out.below hb)
          have B_38 := Lib.hid (B_28.out.trans ((hb).mono B_28.out.size))
          clear Kx1_21 Kx2_22 Ko_23 Kw_24 Kn1 Kn2 Ts1_25 Ts2_26 Ts9_27 B_28
          have U0 := Lib.hid hu
          clear hv ho ht hb hu
          go_upto_region 12 with (first | (refine wpList_store_row rfl 27 _ _ rfl gn1 #[.int .u64 ((kn : Int) + 1), tc0] rfl rfl 27 #[.int .u64 (kn : Int), s1] Kn1_33.out (by kernel_rfl) rfl (wh_one HOC0.out) ?_) | go_in)
          have U0b : Hid (InT (wc0.setRow gn1 #[.int .u64 ((kn : Int) + 1), tc0]) u0 D) := U0.out.setRow Kn1_33.out (by decide) _
          have Kx1_39 : Hid ((wc0.setRow gn1 #[.int .u64 ((kn : Int) + 1), tc0]).heap[g1]? = some (.cells #[.int .u64 (kn : Int), s1] 27 (0, 0))) := (setRow_other _ _ _ _ NE_x1_n1.out).trans Kx1_29.out
          have Kx2_40 : Hid ((wc0.setRow gn1 #[.int .u64 ((kn : Int) + 1), tc0]).heap[g2]? = some (.cells #[.int .u64 (kn : Int), s2] 29 (0, 0))) := (setRow_other _ _ _ _ NE_x2_n1.out).trans Kx2_30.out
          have Ko_41 : Hid ((wc0.setRow gn1 #[.int .u64 ((kn : Int) + 1), tc0]).heap[go]? = some (.cells #[.int .i64 kd, .int .i64 id, .int .u64 (af : Int)] 31 (0, 0))) := (setRow_other _ _ _ _ NE_o_n1.out).trans Ko_31.out
          have Kw_42 : Hid ((wc0.setRow gn1 #[.int .u64 ((kn : Int) + 1), tc0]).heap[gw]? = some (.cells #[.int .u64 (kn : Int), s9] 27 (0, 0))) := (setRow_other _ _ _ _ NE_w_n1.out).trans Kw_32.out
          have Kn1_43 : Hid ((wc0.setRow gn1 #[.int .u64 ((kn : Int) + 1), tc0]).heap[gn1]? = some (.cells #[.int .u64 ((kn : Int) + 1), tc0] 27 (0, 0))) := setRow_heap _ _ _ _ _ _ Kn1_33.out
          have Kn2_44 : Hid ((wc0.setRow gn1 #[.int .u64 ((kn : Int) + 1), tc0]).heap[gn2]? = some (.cells #[.int .u64 (kn : Int), s2] 29 (0, 0))) := (setRow_other _ _ _ _ NE_n2_n1.out).trans Kn2_34.out
          have Ts1_45 : Hid (TsT (wc0.setRow gn1 #[.int .u64 ((kn : Int) + 1), tc0]) s1 (sortT S)) := Ts1_35.out.setRow Kn1_33.out (by decide) _
          have Ts2_46 : Hid (TsT (wc0.setRow gn1 #[.int .u64 ((kn : Int) + 1), tc0]) s2 S) := Ts2_36.out.setRow Kn1_33.out (by decide) _
          have Ts9_47 : Hid (TsT (wc0.setRow gn1 #[.int .u64 ((kn : Int) + 1), tc0]) s9 (sortT S)) := Ts9_37.out.setRow Kn1_33.out (by decide) _
          have Tt1_48 : Hid (TsT (wc0.setRow gn1 #[.int .u64 ((kn : Int) + 1), tc0]) tc0 (sortT S1)) := TC0.out.setRow Kn1_33.out (by decide) _
          have B_49 := Lib.hid (below_setRow B_38.out GE_n1.out #[.int .u64 ((kn : Int) + 1), tc0])
          generalize (wc0.setRow gn1 #[.int .u64 ((kn : Int) + 1), tc0]) = wd0 at Kx1_39 Kx2_40 Ko_41 Kw_42 Kn1_43 Kn2_44 Ts1_45 Ts2_46 Ts9_47 Tt1_48 B_49 U0b ⊢
          clear Kx1_29 Kx2_30 Ko_31 Kw_32 Kn1_33 Kn2_34 Ts1_35 Ts2_36 Ts9_37 TC0 B_38
          go_wp2_with (refine wpList_load_row rfl 29 _ rfl g2 rfl 29 #[.int .u64 (kn : Int), s2] (0, 0) _ Kx2_40.out Try.underlying29 rfl (by kernel_rfl) ?_)
          refine (HCB.out _ _ ⟨_, rfl, Ts2_46.out⟩).mono ?_
          rintro e wc1 ⟨vc1, u1, rfl, hv, hu, hb⟩
          obtain ⟨tc1, rfl, ho, ht⟩ := hv.form
          have HOC1 := Lib.hid ho
          have TC1 := Lib.hid ht
          have Kx1_50 := Lib.hid (old_below Kx1_39.out hb (row_lt Kx1_39.out))
          have Kx2_51 := Lib.hid (old_below Kx2_40.out hb (row_lt Kx2_40.out))
          have Ko_52 := Lib.hid (old_below Ko_41.out hb (row_lt Ko_41.out))
          have Kw_53 := Lib.hid (old_below Kw_42.out hb (row_lt Kw_42.out))
          have Kn1_54 := Lib.hid (old_below Kn1_43.out hb (row_lt Kn1_43.out))
          have Kn2_55 := Lib.hid (old_below Kn2_44.out hb (row_lt Kn2_44.out))
          have Ts1_56 := Lib.hid (Ts1_45.out.below hb)
          have Ts2_57 := Lib.hid (Ts2_46.out.below hb)
          have Ts9_58 := Lib.hid (Ts9_47.out.below hb)
          have Tt1_59 := Lib.hid (Tt1_48.out.below hb)
          have B_60 := Lib.hid (B_49.out.trans ((hb).mono B_49.out.size))
          clear Kx1_39 Kx2_40 Ko_41 Kw_42 Kn1_43 Kn2_44 Ts1_45 Ts2_46 Ts9_47 Tt1_48 B_49
          have U1 := Lib.hid hu
          have U0c := Lib.hid (U0b.out.below hb)
          clear hv ho ht hb hu
          go_upto_region 13 with (first | (refine wpList_store_row rfl 29 _ _ rfl gn2 #[.int .u64 ((kn : Int) + 1), tc1] rfl rfl 29 #[.int .u64 (kn : Int), s2] Kn2_55.out (by kernel_rfl) rfl (wh_one HOC1.out) ?_) | go_in)
          have U0d : Hid (InT (wc1.setRow gn2 #[.int .u64 ((kn : Int) + 1), tc1]) u0 D) := U0c.out.setRow Kn2_55.out (by decide) _
          have U1b : Hid (InT (wc1.setRow gn2 #[.int .u64 ((kn : Int) + 1), tc1]) u1 D) := U1.out.setRow Kn2_55.out (by decide) _
          have Kx1_61 : Hid ((wc1.setRow gn2 #[.int .u64 ((kn : Int) + 1), tc1]).heap[g1]? = some (.cells #[.int .u64 (kn : Int), s1] 27 (0, 0))) := (setRow_other _ _ _ _ NE_x1_n2.out).trans Kx1_50.out
          have Kx2_62 : Hid ((wc1.setRow gn2 #[.int .u64 ((kn : Int) + 1), tc1]).heap[g2]? = some (.cells #[.int .u64 (kn : Int), s2] 29 (0, 0))) := (setRow_other _ _ _ _ NE_x2_n2.out).trans Kx2_51.out
          have Ko_63 : Hid ((wc1.setRow gn2 #[.int .u64 ((kn : Int) + 1), tc1]).heap[go]? = some (.cells #[.int .i64 kd, .int .i64 id, .int .u64 (af : Int)] 31 (0, 0))) := (setRow_other _ _ _ _ NE_o_n2.out).trans Ko_52.out
          have Kw_64 : Hid ((wc1.setRow gn2 #[.int .u64 ((kn : Int) + 1), tc1]).heap[gw]? = some (.cells #[.int .u64 (kn : Int), s9] 27 (0, 0))) := (setRow_other _ _ _ _ NE_w_n2.out).trans Kw_53.out
          have Kn1_65 : Hid ((wc1.setRow gn2 #[.int .u64 ((kn : Int) + 1), tc1]).heap[gn1]? = some (.cells #[.int .u64 ((kn : Int) + 1), tc0] 27 (0, 0))) := (setRow_other _ _ _ _ NE_n1_n2.out).trans Kn1_54.out
          have Kn2_66 : Hid ((wc1.setRow gn2 #[.int .u64 ((kn : Int) + 1), tc1]).heap[gn2]? = some (.cells #[.int .u64 ((kn : Int) + 1), tc1] 29 (0, 0))) := setRow_heap _ _ _ _ _ _ Kn2_55.out
          have Ts1_67 : Hid (TsT (wc1.setRow gn2 #[.int .u64 ((kn : Int) + 1), tc1]) s1 (sortT S)) := Ts1_56.out.setRow Kn2_55.out (by decide) _
          have Ts2_68 : Hid (TsT (wc1.setRow gn2 #[.int .u64 ((kn : Int) + 1), tc1]) s2 S) := Ts2_57.out.setRow Kn2_55.out (by decide) _
          have Ts9_69 : Hid (TsT (wc1.setRow gn2 #[.int .u64 ((kn : Int) + 1), tc1]) s9 (sortT S)) := Ts9_58.out.setRow Kn2_55.out (by decide) _
          have Tt1_70 : Hid (TsT (wc1.setRow gn2 #[.int .u64 ((kn : Int) + 1), tc1]) tc0 (sortT S1)) := Tt1_59.out.setRow Kn2_55.out (by decide) _
          have Tt2_71 : Hid (TsT (wc1.setRow gn2 #[.int .u64 ((kn : Int) + 1), tc1]) tc1 S1) := TC1.out.setRow Kn2_55.out (by decide) _
          have B_72 := Lib.hid (below_setRow B_60.out GE_n2.out #[.int .u64 ((kn : Int) + 1), tc1])
          generalize (wc1.setRow gn2 #[.int .u64 ((kn : Int) + 1), tc1]) = wd1 at Kx1_61 Kx2_62 Ko_63 Kw_64 Kn1_65 Kn2_66 Ts1_67 Ts2_68 Ts9_69 Tt1_70 Tt2_71 B_72 U0d U1b ⊢
          clear Kx1_50 Kx2_51 Ko_52 Kw_53 Kn1_54 Kn2_55 Ts1_56 Ts2_57 Ts9_58 Tt1_59 TC1 B_60
          obtain ⟨Au, cu, rfl, hru, -, hlu, hcu⟩ := U0d.out
          obtain ⟨Av, cv, rfl, hrv, -, hlv, hcv⟩ := U1b.out
          obtain ⟨du, hdu⟩ : ∃ du, D.length = du := ⟨_, rfl⟩
          have HDL := Lib.hid hdu
          rw [hdu] at hlu hlv ⊢
          have hcu2 : cu ≤ 9223372036854775807 := by unfold maxLen at hcu; omega
          have hcv2 : cv ≤ 9223372036854775807 := by unfold maxLen at hcv; omega
          have HRU := Lib.hid hru.rd
          have HRV := Lib.hid hrv.rd
          clear hru hrv hcu hcv hdu U0 U0b U0c U0d U1 U1b
          go_wp2
          go_loopw [69] (fun t69 wr => ∃ j : Nat, j ≤ du ∧ t69 = .int .i64 (j : Int) ∧ Hid (Below wd1.heap.size wd1 wr)) (fun t69 _ => du - (intOf t69).toNat)
          case atStart => exact ⟨0, Nat.zero_le _, rfl, Lib.hid (Below.refl _ _)⟩
          case round =>
            obtain ⟨j, hj, rfl, HBI⟩ := hrel
            by_cases hltj : j < du
            · obtain ⟨z, hz⟩ : ∃ z, D[j]? = some z := ⟨_, List.getElem?_eq_getElem (by rw [HDL.out]; exact hltj)⟩
              obtain ⟨ua, rfl, hua⟩ := el_one1 inE (Rs.below HRU.out HBI.out (Nat.le_refl _)) hz (v := .int .i64 z) rfl
              obtain ⟨ub, rfl, hub⟩ := el_one1 inE (Rs.below HRV.out HBI.out (Nat.le_refl _)) hz (v := .int .i64 z) rfl
              have KU0 : Hid (∀ w', Reg wr w' → w'.cell? (ua.add j) = some (.int .i64 z)) := fun w' hr => hua w' (reg_below hr)
              have KU1 : Hid (∀ w', Reg wr w' → w'.cell? (ub.add j) = some (.int .i64 z)) := fun w' hr => hub w' (reg_below hr)
              clear hz hua hub
              go_upto_region 18 with (fail)
              refine wp_region_quiet_below (by kernel_rfl) (by kernel_rfl) ?_
              (first | go_big_quiet_step (fail) | quiet_step (fail))
              (first | go_big_quiet_step (fail) | quiet_step (fail))
              (first | go_big_quiet_step (fail) | quiet_step (fail))
              (refine wpQuiet_step (fun K hK => ?_); refine quiet_load_cell (by kernel_rfl) 3 _ rfl (ua.add j) (by first | rfl | (simp [Act.eval, Addr.add_mid])) (.int .i64 z) _ KU0.out Try.underlying3 rfl ?_; refine hK _ ?_; clear hK K; go_frame)
              (first | go_big_quiet_step (fail) | quiet_step (fail))
              (first | go_big_quiet_step (fail) | quiet_step (fail))
              (first | go_big_quiet_step (fail) | quiet_step (fail))
              (refine wpQuiet_step (fun K hK => ?_); refine quiet_load_cell (by kernel_rfl) 3 _ rfl (ub.add j) (by first | rfl | (simp [Act.eval, Addr.add_mid])) (.int .i64 z) _ KU1.out Try.underlying3 rfl ?_; refine hK _ ?_; clear hK K; go_frame)
              (first | go_big_quiet_step (fail) | quiet_step (fail))
              refine wpQuiet_nil ?_
              intro w9 hw9
              obtain ⟨⟨dq, osq⟩, rfl⟩ := hw9
              have HB9 := Lib.hid ((HBI.out).trans ((below_regrown wr dq osq).mono (HBI.out).size))
              generalize Sort.grow (redrawn wr dq) osq = w9b at *
              go_wp2
              go_roundw
              case rel => exact ⟨j + 1, by omega, by go_num, HB9⟩
              case measure => simp [intOf]; omega
            · obtain rfl : j = du := by omega
              have Kx1_73 := Lib.hid (old_below Kx1_61.out HBI.out (row_lt Kx1_61.out))
              have Kx2_74 := Lib.hid (old_below Kx2_62.out HBI.out (row_lt Kx2_62.out))
              have Ko_75 := Lib.hid (old_below Ko_63.out HBI.out (row_lt Ko_63.out))
              have Kw_76 := Lib.hid (old_below Kw_64.out HBI.out (row_lt Kw_64.out))
              have Kn1_77 := Lib.hid (old_below Kn1_65.out HBI.out (row_lt Kn1_65.out))
              have Kn2_78 := Lib.hid (old_below Kn2_66.out HBI.out (row_lt Kn2_66.out))
              have Ts1_79 := Lib.hid (Ts1_67.out.below HBI.out)
              have Ts2_80 := Lib.hid (Ts2_68.out.below HBI.out)
              have Ts9_81 := Lib.hid (Ts9_69.out.below HBI.out)
              have Tt1_82 := Lib.hid (Tt1_70.out.below HBI.out)
              have Tt2_83 := Lib.hid (Tt2_71.out.below HBI.out)
              have B_84 := Lib.hid (B_72.out.trans ((HBI.out).mono B_72.out.size))
              clear Kx1_61 Kx2_62 Ko_63 Kw_64 Kn1_65 Kn2_66 Ts1_67 Ts2_68 Ts9_69 Tt1_70 Tt2_71 B_72
              rename World => wz
              have HLK1 := Lib.hid (likeT (kn + 1) S1 (by have := HLSN.out; omega))
              have HLK0 := Lib.hid (likeT kn S (by have := HLS.out; omega))
              have HRI : Hid (∀ w v, WhT w v (kn + 1) (sortT S1) → Calls Try.prog 16 #[v] w fun e w' => e = .returned (.bool true) ∧ Below w.heap.size w w') := fun w v hv => by
                have := right_any v (kn + 1) (sortT S1) w hv.whs (by omega) (okT_sort HOSN.out) (by rw [sort_len]; have := HLSN.out; omega)
                rw [HRN.out] at this
                exact this
              have HDU : Hid (∀ w v, WhT w v (kn + 1) (sortT S1) → Calls Try.prog 17 #[v, .int .i64 id] w fun e w' => e = .returned (.tuple #[.int .u64 ((dueC (sortT S1) id).1 : Int), .bool (dueC (sortT S1) id).2]) ∧ Below w.heap.size w w') := fun w v hv => due_any v (kn + 1) (sortT S1) id w hv.whs HRN.out (okT_sort HOSN.out) HID.out
              obtain ⟨hfd1, hfd2⟩ := due_found S1 id
              obtain ⟨dd, hdd⟩ : ∃ dd, (dueC (sortT S1) id).1 = dd := ⟨_, rfl⟩
              obtain ⟨ff, hff⟩ : ∃ ff, (dueC (sortT S1) id).2 = ff := ⟨_, rfl⟩
              rw [hdd, hff] at HDU hfd1 hfd2
              have HFD1 := Lib.hid hfd1
              have HFD2 := Lib.hid hfd2
              clear hfd1 hfd2 hdd hff
              obtain ⟨cn10, cn11⟩ := two_cells Kn1_77.out
              obtain ⟨cn20, cn21⟩ := two_cells Kn2_78.out
              go_wp2_with fail
              refine (HLK1.out _ _ _ ⟨_, rfl, Tt2_83.out⟩ ⟨_, rfl, Tt1_82.out⟩).mono ?_
              rintro e wb1 ⟨rfl, hb⟩
              clear cn10 cn11 cn20 cn21
              have Kx1_85 := Lib.hid (old_below Kx1_73.out hb (row_lt Kx1_73.out))
              have Kx2_86 := Lib.hid (old_below Kx2_74.out hb (row_lt Kx2_74.out))
              have Ko_87 := Lib.hid (old_below Ko_75.out hb (row_lt Ko_75.out))
              have Kw_88 := Lib.hid (old_below Kw_76.out hb (row_lt Kw_76.out))
              have Kn1_89 := Lib.hid (old_below Kn1_77.out hb (row_lt Kn1_77.out))
              have Kn2_90 := Lib.hid (old_below Kn2_78.out hb (row_lt Kn2_78.out))
              have Ts1_91 := Lib.hid (Ts1_79.out.below hb)
              have Ts2_92 := Lib.hid (Ts2_80.out.below hb)
              have Ts9_93 := Lib.hid (Ts9_81.out.below hb)
              have Tt1_94 := Lib.hid (Tt1_82.out.below hb)
              have Tt2_95 := Lib.hid (Tt2_83.out.below hb)
              have B_96 := Lib.hid (B_84.out.trans ((hb).mono B_84.out.size))
              clear Kx1_73 Kx2_74 Ko_75 Kw_76 Kn1_77 Kn2_78 Ts1_79 Ts2_80 Ts9_81 Tt1_82 Tt2_83 B_84
              clear hb
              obtain ⟨cn10, cn11⟩ := two_cells Kn1_89.out
              go_wp2_with fail
              refine (HRI.out _ _ ⟨_, rfl, Tt1_94.out⟩).mono ?_
              rintro e wb2 ⟨rfl, hb⟩
              clear cn10 cn11
              have Kx1_97 := Lib.hid (old_below Kx1_85.out hb (row_lt Kx1_85.out))
              have Kx2_98 := Lib.hid (old_below Kx2_86.out hb (row_lt Kx2_86.out))
              have Ko_99 := Lib.hid (old_below Ko_87.out hb (row_lt Ko_87.out))
              have Kw_100 := Lib.hid (old_below Kw_88.out hb (row_lt Kw_88.out))
              have Kn1_101 := Lib.hid (old_below Kn1_89.out hb (row_lt Kn1_89.out))
              have Kn2_102 := Lib.hid (old_below Kn2_90.out hb (row_lt Kn2_90.out))
              have Ts1_103 := Lib.hid (Ts1_91.out.below hb)
              have Ts2_104 := Lib.hid (Ts2_92.out.below hb)
              have Ts9_105 := Lib.hid (Ts9_93.out.below hb)
              have Tt1_106 := Lib.hid (Tt1_94.out.below hb)
              have Tt2_107 := Lib.hid (Tt2_95.out.below hb)
              have B_108 := Lib.hid (B_96.out.trans ((hb).mono B_96.out.size))
              clear Kx1_85 Kx2_86 Ko_87 Kw_88 Kn1_89 Kn2_90 Ts1_91 Ts2_92 Ts9_93 Tt1_94 Tt2_95 B_96
              clear hb
              obtain ⟨cx10, cx11⟩ := two_cells Kx1_97.out
              obtain ⟨cx20, cx21⟩ := two_cells Kx2_98.out
              go_wp2_with fail
              refine (HLK0.out _ _ _ ⟨_, rfl, Ts2_104.out⟩ ⟨_, rfl, Ts1_103.out⟩).mono ?_
              rintro e wb3 ⟨rfl, hb⟩
              clear cx10 cx11 cx20 cx21
              have Kx1_109 := Lib.hid (old_below Kx1_97.out hb (row_lt Kx1_97.out))
              have Kx2_110 := Lib.hid (old_below Kx2_98.out hb (row_lt Kx2_98.out))
              have Ko_111 := Lib.hid (old_below Ko_99.out hb (row_lt Ko_99.out))
              have Kw_112 := Lib.hid (old_below Kw_100.out hb (row_lt Kw_100.out))
              have Kn1_113 := Lib.hid (old_below Kn1_101.out hb (row_lt Kn1_101.out))
              have Kn2_114 := Lib.hid (old_below Kn2_102.out hb (row_lt Kn2_102.out))
              have Ts1_115 := Lib.hid (Ts1_103.out.below hb)
              have Ts2_116 := Lib.hid (Ts2_104.out.below hb)
              have Ts9_117 := Lib.hid (Ts9_105.out.below hb)
              have Tt1_118 := Lib.hid (Tt1_106.out.below hb)
              have Tt2_119 := Lib.hid (Tt2_107.out.below hb)
              have B_120 := Lib.hid (B_108.out.trans ((hb).mono B_108.out.size))
              clear Kx1_97 Kx2_98 Ko_99 Kw_100 Kn1_101 Kn2_102 Ts1_103 Ts2_104 Ts9_105 Tt1_106 Tt2_107 B_108
              clear hb
              obtain ⟨cx20, cx21⟩ := two_cells Kx2_110.out
              obtain ⟨cw0, cw1⟩ := two_cells Kw_112.out
              go_wp2_with fail
              refine (HLK0.out _ _ _ ⟨_, rfl, Ts2_116.out⟩ ⟨_, rfl, Ts9_117.out⟩).mono ?_
              rintro e wb4 ⟨rfl, hb⟩
              clear cx20 cx21 cw0 cw1
              have Kx1_121 := Lib.hid (old_below Kx1_109.out hb (row_lt Kx1_109.out))
              have Kx2_122 := Lib.hid (old_below Kx2_110.out hb (row_lt Kx2_110.out))
              have Ko_123 := Lib.hid (old_below Ko_111.out hb (row_lt Ko_111.out))
              have Kw_124 := Lib.hid (old_below Kw_112.out hb (row_lt Kw_112.out))
              have Kn1_125 := Lib.hid (old_below Kn1_113.out hb (row_lt Kn1_113.out))
              have Kn2_126 := Lib.hid (old_below Kn2_114.out hb (row_lt Kn2_114.out))
              have Ts1_127 := Lib.hid (Ts1_115.out.below hb)
              have Ts2_128 := Lib.hid (Ts2_116.out.below hb)
              have Ts9_129 := Lib.hid (Ts9_117.out.below hb)
              have Tt1_130 := Lib.hid (Tt1_118.out.below hb)
              have Tt2_131 := Lib.hid (Tt2_119.out.below hb)
              have B_132 := Lib.hid (B_120.out.trans ((hb).mono B_120.out.size))
              clear Kx1_109 Kx2_110 Ko_111 Kw_112 Kn1_113 Kn2_114 Ts1_115 Ts2_116 Ts9_117 Tt1_118 Tt2_119 B_120
              clear hb
              obtain ⟨cn10, cn11⟩ := two_cells Kn1_125.out
              obtain ⟨co0, co1, co2⟩ := three_cells Ko_123.out
              go_wp2_with fail
              refine (HDU.out _ _ ⟨_, rfl, Tt1_130.out⟩).mono ?_
              rintro e wb5 ⟨rfl, hb⟩
              clear cn10 cn11 co0 co1 co2
              have Kx1_133 := Lib.hid (old_below Kx1_121.out hb (row_lt Kx1_121.out))
              have Kx2_134 := Lib.hid (old_below Kx2_122.out hb (row_lt Kx2_122.out))
              have Ko_135 := Lib.hid (old_below Ko_123.out hb (row_lt Ko_123.out))
              have Kw_136 := Lib.hid (old_below Kw_124.out hb (row_lt Kw_124.out))
              have Kn1_137 := Lib.hid (old_below Kn1_125.out hb (row_lt Kn1_125.out))
              have Kn2_138 := Lib.hid (old_below Kn2_126.out hb (row_lt Kn2_126.out))
              have Ts1_139 := Lib.hid (Ts1_127.out.below hb)
              have Ts2_140 := Lib.hid (Ts2_128.out.below hb)
              have Ts9_141 := Lib.hid (Ts9_129.out.below hb)
              have Tt1_142 := Lib.hid (Tt1_130.out.below hb)
              have Tt2_143 := Lib.hid (Tt2_131.out.below hb)
              have B_144 := Lib.hid (B_132.out.trans ((hb).mono B_132.out.size))
              clear Kx1_121 Kx2_122 Ko_123 Kw_124 Kn1_125 Kn2_126 Ts1_127 Ts2_128 Ts9_129 Tt1_130 Tt2_131 B_132
              clear hb
              obtain ⟨p, hp⟩ : ∃ p, S1.length = p := ⟨_, rfl⟩
              have HPL := Lib.hid hp
              obtain ⟨A2, c2, ht2, hr2, -, hl2, hc2⟩ := Tt2_143.out
              rw [hp] at ht2 hl2
              subst ht2
              have HR2 := Lib.hid hr2.rd
              have hc2b : c2 ≤ 9223372036854775807 := by unfold maxLen at hc2; omega
              clear hp hr2 hc2
              obtain ⟨cn20, cn21⟩ := two_cells Kn2_138.out
              go_wp2
              clear cn20 cn21
              go_loopw [21, 156] (fun t21 t156 wr => ∃ j : Nat, j ≤ p ∧ t156 = .int .i64 (j : Int) ∧ t21 = .bool (foundD (S1.take j) id dd) ∧ Hid (Below wb5.heap.size wb5 wr)) (fun _ t156 _ => p - (intOf t156).toNat)
              case atStart => exact ⟨0, Nat.zero_le _, rfl, rfl, Lib.hid (Below.refl _ _)⟩
              case round =>
                obtain ⟨j, hj, rfl, rfl, HBI⟩ := hrel
                by_cases hlt2 : j < p
                · obtain ⟨y, hy⟩ : ∃ y, S1[j]? = some y := ⟨_, List.getElem?_eq_getElem (by rw [HPL.out]; exact hlt2)⟩
                  obtain ⟨yd, rfl, hKY⟩ := el_all tmE (Rs.below HR2.out HBI.out (Nat.le_refl _)) (by omega) hy
                  have HKY : Hid (∀ (q : Nat) v, (#[.int .i64 y.id, .int .u64 (y.due : Int)] : Array Value)[q]? = some v → wr.cell? ((yd.add (j * 2)).add q) = some v) := hKY wr (Below.refl _ _)
                  have HFS := Lib.hid (found_snoc hy id dd)
                  have HOI := Lib.hid (old_below Ko_135.out HBI.out (row_lt Ko_135.out))
                  clear hy hKY
                  obtain ⟨wy, hwy⟩ : ∃ wy, wr.alloc (.cells #[.int .i64 y.id, .int .u64 (y.due : Int)] 53) = wy := ⟨_, rfl⟩
                  have HY5 : Hid (wy.heap[wr.heap.size]? = some (.cells #[.int .i64 y.id, .int .u64 (y.due : Int)] 53 (0, 0))) := by rw [← hwy]; exact heap_alloc_new wr _
                  have HO5 : Hid (wy.heap[go]? = some (.cells #[.int .i64 kd, .int .i64 id, .int .u64 (af : Int)] 31 (0, 0))) := by rw [← hwy]; exact old_alloc HOI.out _
                  have HB5 : Hid (Below wb5.heap.size wb5 wy) := by rw [← hwy]; exact HBI.out.alloc HBI.out.size _
                  have HWY := Lib.hid hwy
                  clear hwy
                  go_upto_region 41 with (first | (refine wpList_load_atA rfl 53 _ rfl (yd.add (j * 2)) rfl #[.int .i64 y.id, .int .u64 (y.due : Int)] _ HKY.out Try.underlying53 rfl (by kernel_rfl) ?_) | (refine wpList_store_new rfl 53 _ _ rfl wr #[.int .i64 0, .int .u64 0] #[.int .i64 y.id, .int .u64 (y.due : Int)] rfl rfl (by kernel_rfl) rfl (by simp [Value.oneCell']) ?_) | go_in)
                  rw [HWY.out]
                  clear HWY HKY
                  generalize wr.heap.size = gy at HY5 ⊢
                  obtain ⟨y0, y1⟩ := two_cells HY5.out
                  obtain ⟨o0, o1, o2⟩ := three_cells HO5.out
                  generalize foundD (S1.take j) id dd = fb at HFS ⊢
                  cases fb
                  · by_cases hyi : y.id = id
                    · by_cases hyd : y.due = dd
                      · have hydi : (y.due : Int) = (dd : Int) := by omega
                        have HF2 : Hid (foundD (S1.take (j + 1)) id dd = true) := by show _ = _; rw [HFS.out, decide_eq_true hyi, decide_eq_true hyd]; rfl
                        go_wp2
                        go_roundw
                        case rel => exact ⟨j + 1, by omega, by go_num, by rw [HF2.out] <;> first | rfl | simp [*], HB5⟩
                        case measure => simp [intOf]; omega
                      · have hydi : ¬ (y.due : Int) = (dd : Int) := by omega
                        have hydb : ((y.due : Int) == (dd : Int)) = false := beq_eq_false_iff_ne.2 hydi
                        have HF2 : Hid (foundD (S1.take (j + 1)) id dd = false) := by show _ = _; rw [HFS.out, decide_eq_true hyi, decide_eq_false hyd]; rfl
                        go_wp2
                        go_roundw
                        case rel => exact ⟨j + 1, by omega, by go_num, by rw [HF2.out] <;> first | rfl | simp [*], HB5⟩
                        case measure => simp [intOf]; omega
                    · have HF2 : Hid (foundD (S1.take (j + 1)) id dd = false) := by show _ = _; rw [HFS.out, decide_eq_false hyi]; rfl
                      have hyib : (y.id == id) = false := beq_eq_false_iff_ne.2 hyi
                      go_wp2
                      go_roundw
                      case rel => exact ⟨j + 1, by omega, by go_num, by rw [HF2.out] <;> first | rfl | simp [*], HB5⟩
                      case measure => simp [intOf]; omega
                  · have HF2 : Hid (foundD (S1.take (j + 1)) id dd = true) := by show _ = _; rw [HFS.out, Bool.true_or]
                    go_wp2
                    go_roundw
                    case rel => exact ⟨j + 1, by omega, by go_num, by rw [HF2.out] <;> first | rfl | simp [*], HB5⟩
                    case measure => simp [intOf]; omega
                · obtain rfl : j = p := by omega
                  have HTK : Hid (S1.take j = S1) := List.take_of_length_le (Nat.le_of_eq HPL.out)
                  rw [HTK.out, HFD1.out]
                  have Kx1_145 := Lib.hid (old_below Kx1_133.out HBI.out (row_lt Kx1_133.out))
                  have Kx2_146 := Lib.hid (old_below Kx2_134.out HBI.out (row_lt Kx2_134.out))
                  have Ko_147 := Lib.hid (old_below Ko_135.out HBI.out (row_lt Ko_135.out))
                  have Kw_148 := Lib.hid (old_below Kw_136.out HBI.out (row_lt Kw_136.out))
                  have Kn1_149 := Lib.hid (old_below Kn1_137.out HBI.out (row_lt Kn1_137.out))
                  have Kn2_150 := Lib.hid (old_below Kn2_138.out HBI.out (row_lt Kn2_138.out))
                  have Ts1_151 := Lib.hid (Ts1_139.out.below HBI.out)
                  have Ts2_152 := Lib.hid (Ts2_140.out.below HBI.out)
                  have Ts9_153 := Lib.hid (Ts9_141.out.below HBI.out)
                  have Tt1_154 := Lib.hid (Tt1_142.out.below HBI.out)
                  have Tt2_155 := Lib.hid (Tt2_143.out.below HBI.out)
                  have B_156 := Lib.hid (B_144.out.trans ((HBI.out).mono B_144.out.size))
                  clear Kx1_133 Kx2_134 Ko_135 Kw_136 Kn1_137 Kn2_138 Ts1_139 Ts2_140 Ts9_141 Tt1_142 Tt2_143 B_144
                  have HOT1 := Lib.hid Tt1_154.out.one
                  have HOT2 : Hid ((Value.slice A2 j c2).oneCell' = true) := rfl
                  cases ff
                  · have hdz : dd = 0 := HFD2.out rfl
                    subst hdz
                    go_upto_region 45 with (fail)
                    apply wp_region_relyG [2, 3] (OldT wr 2 g1 27 #[.int .u64 (kn : Int), s1] #[.int .u64 ((kn : Int) + 1), tc0] 3 g2 29 #[.int .u64 (kn : Int), s2] #[.int .u64 ((kn : Int) + 1), .slice A2 j c2]) (RL [Is (.agg #[.int .u64 ((kn : Int) + 1), tc0]), Is (.agg #[.int .u64 ((kn : Int) + 1), .slice A2 j c2]), Any, Any]) [false, false, false, false, false, false, false, false, false, false, false, false, false, false, false, false, false, false, false, false, false, false, false, false, false, false, false, false, false, false, false, false, false, false, false, false, false, false, false, false, false, false, false, false, false, false, false, false, false, false, false, false, false, false, false, false, false, false, false, false, false, false, false, false, false, false, false, false, false, false, false, false, false, false, false, false, false, false, false, false, false, false, false, false, false, false, false, false, false, false, false, false, false, false, false, false, false, false, false, false, false, false, false, false, false, false, false, false, false, false, false, false, false, false, false, false, false, false, false, false, false, false, false, false, false, false, false, false, false, false, false, false, false, false, false, false, false, false, false, false, false, false, false, false, false, false, false, false, false, false, false, false, false, false, false, false, false, false, false, false, false, false, false, false, false, false, false, false, false, false, false, false, false, false, false, false, false, false, false, false, false, false, false, false, false, false, true, true, false]
                    · kernel_rfl
                    · kernel_rfl
                    · kernel_rfl
                    · refine ⟨?_, ?_, ?_, ?_, trivial⟩
                      · intro L ev w' hC hL hx K hK
                        have e10 : ev (.tmp 10) = _ := hx.base 10 (by kernel_rfl)
                        have HK := Lib.hid hK
                        have HC := Lib.hid hC
                        have HL := Lib.hid hL
                        have HX := Lib.hid hx
                        have hc := hx.cst
                        skip
                        clear hx hK hC hL
                        have q1 : ev (.tmp 10) = .pointer (some ⟨gn1, 0, none⟩) := e10
                        have hld := run_loadVar_row (P := Try.prog) w' gn1 27 27 #[.int .u64 ((kn : Int) + 1), tc0] (0, 0) _ (HC.out.keep Kn1_149.out (Ne.symm NE_x1_n1.out) (Ne.symm NE_x2_n1.out)) Try.underlying27 rfl (by kernel_rfl)
                        unfold Run
                        rw [rely_load 27 _ rfl q1 hld]
                        exact HK.out _ _ (.inl ⟨Below.refl _ _, by decide⟩) rfl
                      · intro L ev w' hC hL hx K hK
                        have e11 : ev (.tmp 11) = _ := hx.base 11 (by kernel_rfl)
                        have HK := Lib.hid hK
                        have HC := Lib.hid hC
                        have HL := Lib.hid hL
                        have HX := Lib.hid hx
                        have hc := hx.cst
                        skip
                        clear hx hK hC hL
                        have q1 : ev (.tmp 11) = .pointer (some ⟨gn2, 0, none⟩) := e11
                        have hld := run_loadVar_row (P := Try.prog) w' gn2 29 29 #[.int .u64 ((kn : Int) + 1), .slice A2 j c2] (0, 0) _ (HC.out.keep Kn2_150.out (Ne.symm NE_x1_n2.out) (Ne.symm NE_x2_n2.out)) Try.underlying29 rfl (by kernel_rfl)
                        unfold Run
                        rw [rely_load 29 _ rfl q1 hld]
                        exact HK.out _ _ (.inl ⟨Below.refl _ _, by decide⟩) rfl
                      · intro L ev w' hC hL hx K hK
                        have e5 : ev (.tmp 5) = _ := hx.base 5 (by kernel_rfl)
                        have e186 := hx.held 0 _ rfl (by kernel_rfl)
                        change ev (.tmp 186) = _ at e186
                        have HK := Lib.hid hK
                        have HC := Lib.hid hC
                        have HL := Lib.hid hL
                        have HX := Lib.hid hx
                        have hc := hx.cst
                        skip
                        clear hx hK hC hL
                        have qv : ev (.tmp 186) = .agg #[.int .u64 ((kn : Int) + 1), tc0] := e186
                        have nst : L 2 = false := HL.out
                        have qp : ev (.tmp 5) = .pointer (some ⟨g1, 0, none⟩) := e5
                        have hgh := HC.out.old1 nst
                        have hnv := HC.out.store1 nst rfl NE_x1_x2.out (by decide)
                        have hst := run_storeVar_row (P := Try.prog) w' g1 27 27 #[.int .u64 (kn : Int), s1] #[.int .u64 ((kn : Int) + 1), tc0] hgh (by kernel_rfl) rfl (wh_one HOT1.out)
                        unfold Run
                        rw [rely_store 27 _ _ rfl qp qv hst]
                        refine HK.out _ _ (.inr ⟨hnv, fun j hj hlj u hr => ?_⟩) trivial
                        rcases j with _ | _ | _ | _ | j
                        · exact hr
                        · exact hr
                        · exact absurd rfl hj
                        · exact trivial
                        · exact trivial
                      · intro L ev w' hC hL hx K hK
                        have e6 : ev (.tmp 6) = _ := hx.base 6 (by kernel_rfl)
                        have e187 := hx.held 1 _ rfl (by kernel_rfl)
                        change ev (.tmp 187) = _ at e187
                        have HK := Lib.hid hK
                        have HC := Lib.hid hC
                        have HL := Lib.hid hL
                        have HX := Lib.hid hx
                        have hc := hx.cst
                        skip
                        clear hx hK hC hL
                        have qv : ev (.tmp 187) = .agg #[.int .u64 ((kn : Int) + 1), .slice A2 j c2] := e187
                        have nst : L 3 = false := HL.out
                        have qp : ev (.tmp 6) = .pointer (some ⟨g2, 0, none⟩) := e6
                        have hgh := HC.out.old2 nst
                        have hnv := HC.out.store2 nst rfl NE_x1_x2.out (by decide)
                        have hst := run_storeVar_row (P := Try.prog) w' g2 29 29 #[.int .u64 (kn : Int), s2] #[.int .u64 ((kn : Int) + 1), .slice A2 j c2] hgh (by kernel_rfl) rfl (wh_one HOT2.out)
                        unfold Run
                        rw [rely_store 29 _ _ rfl qp qv hst]
                        refine HK.out _ _ (.inr ⟨hnv, fun j hj hlj u hr => ?_⟩) trivial
                        rcases j with _ | _ | _ | _ | j
                        · exact hr
                        · exact hr
                        · exact trivial
                        · exact absurd rfl hj
                        · exact trivial
                    · exact rl_mono ⟨is_mono _, is_mono _, any_mono, any_mono, trivial⟩
                    · exact fun L L' w' h1 hg => hg.agree (h1 2 (by simp)) (h1 3 (by simp))
                    · exact fun L w' w'' hb hg => hg.below hb
                    · exact OldT.start Kx1_145.out Kx2_146.out
                    · simp
                    intro us wr hG hH
                    obtain ⟨-, -, -, -, -⟩ := hH
                    simp only [fillM]
                    obtain ⟨hG9, hvn1, hvn2⟩ := hG
                    have HVN1 : Hid (wr.heap[g1]? = some (.cells #[.int .u64 ((kn : Int) + 1), tc0] 27 (0, 0))) := hvn1
                    have HVN2 : Hid (wr.heap[g2]? = some (.cells #[.int .u64 ((kn : Int) + 1), .slice A2 j c2] 29 (0, 0))) := hvn2
                    have HG9 := Lib.hid hG9
                    clear hG9 hvn1 hvn2
                    generalize us 186 = v186
                    generalize us 187 = v187
                    have HT1 := Lib.hid (ts_gro2 Tt1_154.out HG9.out Kx1_145.out Kx2_146.out (by decide) (by decide))
                    have HT2 := Lib.hid (ts_gro2 Tt2_155.out HG9.out Kx1_145.out Kx2_146.out (by decide) (by decide))
                    have HBF := Lib.hid (B_156.out.trans (HG9.out.below HGE.out B_156.out.size))
                    go_wp2
                    go_roundw
                    case rel => exact ⟨i + 1, kn + 1, S1, _, _, by omega, by go_num, by omega, HVN1, HVN2, HT1, HT2, HRN, HOSN, HBF⟩
                    case measure => simp [intOf]; omega
                  · go_upto_region 45 with (fail)
                    apply wp_region_relyG [2, 3] (OldT wr 2 g1 27 #[.int .u64 (kn : Int), s1] #[.int .u64 ((kn : Int) + 1), tc0] 3 g2 29 #[.int .u64 (kn : Int), s2] #[.int .u64 ((kn : Int) + 1), .slice A2 j c2]) (RL [Is (.agg #[.int .u64 ((kn : Int) + 1), tc0]), Is (.agg #[.int .u64 ((kn : Int) + 1), .slice A2 j c2]), Any, Any]) [false, false, false, false, false, false, false, false, false, false, false, false, false, false, false, false, false, false, false, false, false, false, false, false, false, false, false, false, false, false, false, false, false, false, false, false, false, false, false, false, false, false, false, false, false, false, false, false, false, false, false, false, false, false, false, false, false, false, false, false, false, false, false, false, false, false, false, false, false, false, false, false, false, false, false, false, false, false, false, false, false, false, false, false, false, false, false, false, false, false, false, false, false, false, false, false, false, false, false, false, false, false, false, false, false, false, false, false, false, false, false, false, false, false, false, false, false, false, false, false, false, false, false, false, false, false, false, false, false, false, false, false, false, false, false, false, false, false, false, false, false, false, false, false, false, false, false, false, false, false, false, false, false, false, false, false, false, false, false, false, false, false, false, false, false, false, false, false, false, false, false, false, false, false, false, false, false, false, false, false, false, false, false, false, false, false, true, true, false]
                    · kernel_rfl
                    · kernel_rfl
                    · kernel_rfl
                    · refine ⟨?_, ?_, ?_, ?_, trivial⟩
                      · intro L ev w' hC hL hx K hK
                        have e10 : ev (.tmp 10) = _ := hx.base 10 (by kernel_rfl)
                        have HK := Lib.hid hK
                        have HC := Lib.hid hC
                        have HL := Lib.hid hL
                        have HX := Lib.hid hx
                        have hc := hx.cst
                        skip
                        clear hx hK hC hL
                        have q1 : ev (.tmp 10) = .pointer (some ⟨gn1, 0, none⟩) := e10
                        have hld := run_loadVar_row (P := Try.prog) w' gn1 27 27 #[.int .u64 ((kn : Int) + 1), tc0] (0, 0) _ (HC.out.keep Kn1_149.out (Ne.symm NE_x1_n1.out) (Ne.symm NE_x2_n1.out)) Try.underlying27 rfl (by kernel_rfl)
                        unfold Run
                        rw [rely_load 27 _ rfl q1 hld]
                        exact HK.out _ _ (.inl ⟨Below.refl _ _, by decide⟩) rfl
                      · intro L ev w' hC hL hx K hK
                        have e11 : ev (.tmp 11) = _ := hx.base 11 (by kernel_rfl)
                        have HK := Lib.hid hK
                        have HC := Lib.hid hC
                        have HL := Lib.hid hL
                        have HX := Lib.hid hx
                        have hc := hx.cst
                        skip
                        clear hx hK hC hL
                        have q1 : ev (.tmp 11) = .pointer (some ⟨gn2, 0, none⟩) := e11
                        have hld := run_loadVar_row (P := Try.prog) w' gn2 29 29 #[.int .u64 ((kn : Int) + 1), .slice A2 j c2] (0, 0) _ (HC.out.keep Kn2_150.out (Ne.symm NE_x1_n2.out) (Ne.symm NE_x2_n2.out)) Try.underlying29 rfl (by kernel_rfl)
                        unfold Run
                        rw [rely_load 29 _ rfl q1 hld]
                        exact HK.out _ _ (.inl ⟨Below.refl _ _, by decide⟩) rfl
                      · intro L ev w' hC hL hx K hK
                        have e5 : ev (.tmp 5) = _ := hx.base 5 (by kernel_rfl)
                        have e186 := hx.held 0 _ rfl (by kernel_rfl)
                        change ev (.tmp 186) = _ at e186
                        have HK := Lib.hid hK
                        have HC := Lib.hid hC
                        have HL := Lib.hid hL
                        have HX := Lib.hid hx
                        have hc := hx.cst
                        skip
                        clear hx hK hC hL
                        have qv : ev (.tmp 186) = .agg #[.int .u64 ((kn : Int) + 1), tc0] := e186
                        have nst : L 2 = false := HL.out
                        have qp : ev (.tmp 5) = .pointer (some ⟨g1, 0, none⟩) := e5
                        have hgh := HC.out.old1 nst
                        have hnv := HC.out.store1 nst rfl NE_x1_x2.out (by decide)
                        have hst := run_storeVar_row (P := Try.prog) w' g1 27 27 #[.int .u64 (kn : Int), s1] #[.int .u64 ((kn : Int) + 1), tc0] hgh (by kernel_rfl) rfl (wh_one HOT1.out)
                        unfold Run
                        rw [rely_store 27 _ _ rfl qp qv hst]
                        refine HK.out _ _ (.inr ⟨hnv, fun j hj hlj u hr => ?_⟩) trivial
                        rcases j with _ | _ | _ | _ | j
                        · exact hr
                        · exact hr
                        · exact absurd rfl hj
                        · exact trivial
                        · exact trivial
                      · intro L ev w' hC hL hx K hK
                        have e6 : ev (.tmp 6) = _ := hx.base 6 (by kernel_rfl)
                        have e187 := hx.held 1 _ rfl (by kernel_rfl)
                        change ev (.tmp 187) = _ at e187
                        have HK := Lib.hid hK
                        have HC := Lib.hid hC
                        have HL := Lib.hid hL
                        have HX := Lib.hid hx
                        have hc := hx.cst
                        skip
                        clear hx hK hC hL
                        have qv : ev (.tmp 187) = .agg #[.int .u64 ((kn : Int) + 1), .slice A2 j c2] := e187
                        have nst : L 3 = false := HL.out
                        have qp : ev (.tmp 6) = .pointer (some ⟨g2, 0, none⟩) := e6
                        have hgh := HC.out.old2 nst
                        have hnv := HC.out.store2 nst rfl NE_x1_x2.out (by decide)
                        have hst := run_storeVar_row (P := Try.prog) w' g2 29 29 #[.int .u64 (kn : Int), s2] #[.int .u64 ((kn : Int) + 1), .slice A2 j c2] hgh (by kernel_rfl) rfl (wh_one HOT2.out)
                        unfold Run
                        rw [rely_store 29 _ _ rfl qp qv hst]
                        refine HK.out _ _ (.inr ⟨hnv, fun j hj hlj u hr => ?_⟩) trivial
                        rcases j with _ | _ | _ | _ | j
                        · exact hr
                        · exact hr
                        · exact trivial
                        · exact absurd rfl hj
                        · exact trivial
                    · exact rl_mono ⟨is_mono _, is_mono _, any_mono, any_mono, trivial⟩
                    · exact fun L L' w' h1 hg => hg.agree (h1 2 (by simp)) (h1 3 (by simp))
                    · exact fun L w' w'' hb hg => hg.below hb
                    · exact OldT.start Kx1_145.out Kx2_146.out
                    · simp
                    intro us wr hG hH
                    obtain ⟨-, -, -, -, -⟩ := hH
                    simp only [fillM]
                    obtain ⟨hG9, hvn1, hvn2⟩ := hG
                    have HVN1 : Hid (wr.heap[g1]? = some (.cells #[.int .u64 ((kn : Int) + 1), tc0] 27 (0, 0))) := hvn1
                    have HVN2 : Hid (wr.heap[g2]? = some (.cells #[.int .u64 ((kn : Int) + 1), .slice A2 j c2] 29 (0, 0))) := hvn2
                    have HG9 := Lib.hid hG9
                    clear hG9 hvn1 hvn2
                    generalize us 186 = v186
                    generalize us 187 = v187
                    have HT1 := Lib.hid (ts_gro2 Tt1_154.out HG9.out Kx1_145.out Kx2_146.out (by decide) (by decide))
                    have HT2 := Lib.hid (ts_gro2 Tt2_155.out HG9.out Kx1_145.out Kx2_146.out (by decide) (by decide))
                    have HBF := Lib.hid (B_156.out.trans (HG9.out.below HGE.out B_156.out.size))
                    go_wp2
                    go_roundw
                    case rel => exact ⟨i + 1, kn + 1, S1, _, _, by omega, by go_num, by omega, HVN1, HVN2, HT1, HT2, HRN, HOSN, HBF⟩
                    case measure => simp [intOf]; omega
      · as_aux_lemma =>
          obtain ⟨co0, co1, co2⟩ := three_cells Ko_23.out
          go_upto_region 11 with (fail)
          clear co0 co1 co2
          have HRN : Hid (rightW (kn + 1) (sortT (S.filter (notDue (kn + 1)))) = true) := by
            have := right_tick HR.out hk62
            rw [sort_filter] at this
            exact this
          have HOSN : Hid (okT (S.filter (notDue (kn + 1)))) := okT_filter HOS.out
          have HLSN : Hid ((S.filter (notDue (kn + 1))).length ≤ 64) := Nat.le_trans (List.length_filter_le _ _) HLS.out
          have HCA : Hid (∀ w v, WhT w v kn (sortT S) → Calls Try.prog 13 #[v] w fun e w' => ∃ v' u', e = .returned (.tuple #[v', u']) ∧ WhT w' v' (kn + 1) (sortT (S.filter (notDue (kn + 1)))) ∧ InT w' u' (dueX (kn + 1) S) ∧ Below w.heap.size w w') := fun w v hv => by
            have := tick_any v kn (sortT S) w hv.whs HR.out (okT_sort HOS.out) hk62
            rw [sort_filter, due_sort] at this
            exact this
          have HCB : Hid (∀ w v, WhT w v kn S → Calls Try.prog 14 #[v] w fun e w' => ∃ v' u', e = .returned (.tuple #[v', u']) ∧ WhT w' v' (kn + 1) (S.filter (notDue (kn + 1))) ∧ InT w' u' (dueX (kn + 1) S) ∧ Below w.heap.size w w') := fun w v hv => reftick_any v kn S w hv (by have := HLS.out; omega) (by omega)
          obtain ⟨S1, hS1⟩ : ∃ S1, S.filter (notDue (kn + 1)) = S1 := ⟨_, rfl⟩
          obtain ⟨D, hD⟩ : ∃ D, dueX (kn + 1) S = D := ⟨_, rfl⟩
          rw [hS1] at HRN HOSN HLSN HCA HCB
          rw [hD] at HCA HCB
          clear hS1 hD
          obtain ⟨co0, co1, co2⟩ := three_cells Ko_23.out
          go_wp2_with (refine wpList_load_row rfl 27 _ rfl g1 rfl 27 #[.int .u64 (kn : Int), s1] (0, 0) _ Kx1_21.out Try.underlying27 rfl (by kernel_rfl) ?_)
          refine (HCA.out _ _ ⟨_, rfl, Ts1_25.out⟩).mono ?_
          rintro e wc0 ⟨vc0, u0, rfl, hv, hu, hb⟩
          obtain ⟨tc0, rfl, ho, ht⟩ := hv.form
          have HOC0 := Lib.hid ho
          have TC0 := Lib.hid ht
          clear co0 co1 co2
          have Kx1_29 := Lib.hid (old_below Kx1_21.out hb (row_lt Kx1_21.out))
          have Kx2_30 := Lib.hid (old_below Kx2_22.out hb (row_lt Kx2_22.out))
          have Ko_31 := Lib.hid (old_below Ko_23.out hb (row_lt Ko_23.out))
          have Kw_32 := Lib.hid (old_below Kw_24.out hb (row_lt Kw_24.out))
          have Kn1_33 := Lib.hid (old_below Kn1.out hb (row_lt Kn1.out))
          have Kn2_34 := Lib.hid (old_below Kn2.out hb (row_lt Kn2.out))
          have Ts1_35 := Lib.hid (Ts1_25.out.below hb)
          have Ts2_36 := Lib.hid (Ts2_26.out.below hb)
          have Ts9_37 := Lib.hid (Ts9_27.out.below hb)
          have B_38 := Lib.hid (B_28.out.trans ((hb).mono B_28.out.size))
          clear Kx1_21 Kx2_22 Ko_23 Kw_24 Kn1 Kn2 Ts1_25 Ts2_26 Ts9_27 B_28
          have U0 := Lib.hid hu
          clear hv ho ht hb hu
          go_upto_region 12 with (first | (refine wpList_store_row rfl 27 _ _ rfl gn1 #[.int .u64 ((kn : Int) + 1), tc0] rfl rfl 27 #[.int .u64 (kn : Int), s1] Kn1_33.out (by kernel_rfl) rfl (wh_one HOC0.out) ?_) | go_in)
          have U0b : Hid (InT (wc0.setRow gn1 #[.int .u64 ((kn : Int) + 1), tc0]) u0 D) := U0.out.setRow Kn1_33.out (by decide) _
          have Kx1_39 : Hid ((wc0.setRow gn1 #[.int .u64 ((kn : Int) + 1), tc0]).heap[g1]? = some (.cells #[.int .u64 (kn : Int), s1] 27 (0, 0))) := (setRow_other _ _ _ _ NE_x1_n1.out).trans Kx1_29.out
          have Kx2_40 : Hid ((wc0.setRow gn1 #[.int .u64 ((kn : Int) + 1), tc0]).heap[g2]? = some (.cells #[.int .u64 (kn : Int), s2] 29 (0, 0))) := (setRow_other _ _ _ _ NE_x2_n1.out).trans Kx2_30.out
          have Ko_41 : Hid ((wc0.setRow gn1 #[.int .u64 ((kn : Int) + 1), tc0]).heap[go]? = some (.cells #[.int .i64 kd, .int .i64 id, .int .u64 (af : Int)] 31 (0, 0))) := (setRow_other _ _ _ _ NE_o_n1.out).trans Ko_31.out
          have Kw_42 : Hid ((wc0.setRow gn1 #[.int .u64 ((kn : Int) + 1), tc0]).heap[gw]? = some (.cells #[.int .u64 (kn : Int), s9] 27 (0, 0))) := (setRow_other _ _ _ _ NE_w_n1.out).trans Kw_32.out
          have Kn1_43 : Hid ((wc0.setRow gn1 #[.int .u64 ((kn : Int) + 1), tc0]).heap[gn1]? = some (.cells #[.int .u64 ((kn : Int) + 1), tc0] 27 (0, 0))) := setRow_heap _ _ _ _ _ _ Kn1_33.out
          have Kn2_44 : Hid ((wc0.setRow gn1 #[.int .u64 ((kn : Int) + 1), tc0]).heap[gn2]? = some (.cells #[.int .u64 (kn : Int), s2] 29 (0, 0))) := (setRow_other _ _ _ _ NE_n2_n1.out).trans Kn2_34.out
          have Ts1_45 : Hid (TsT (wc0.setRow gn1 #[.int .u64 ((kn : Int) + 1), tc0]) s1 (sortT S)) := Ts1_35.out.setRow Kn1_33.out (by decide) _
          have Ts2_46 : Hid (TsT (wc0.setRow gn1 #[.int .u64 ((kn : Int) + 1), tc0]) s2 S) := Ts2_36.out.setRow Kn1_33.out (by decide) _
          have Ts9_47 : Hid (TsT (wc0.setRow gn1 #[.int .u64 ((kn : Int) + 1), tc0]) s9 (sortT S)) := Ts9_37.out.setRow Kn1_33.out (by decide) _
          have Tt1_48 : Hid (TsT (wc0.setRow gn1 #[.int .u64 ((kn : Int) + 1), tc0]) tc0 (sortT S1)) := TC0.out.setRow Kn1_33.out (by decide) _
          have B_49 := Lib.hid (below_setRow B_38.out GE_n1.out #[.int .u64 ((kn : Int) + 1), tc0])
          generalize (wc0.setRow gn1 #[.int .u64 ((kn : Int) + 1), tc0]) = wd0 at Kx1_39 Kx2_40 Ko_41 Kw_42 Kn1_43 Kn2_44 Ts1_45 Ts2_46 Ts9_47 Tt1_48 B_49 U0b ⊢
          clear Kx1_29 Kx2_30 Ko_31 Kw_32 Kn1_33 Kn2_34 Ts1_35 Ts2_36 Ts9_37 TC0 B_38
          go_wp2_with (refine wpList_load_row rfl 29 _ rfl g2 rfl 29 #[.int .u64 (kn : Int), s2] (0, 0) _ Kx2_40.out Try.underlying29 rfl (by kernel_rfl) ?_)
          refine (HCB.out _ _ ⟨_, rfl, Ts2_46.out⟩).mono ?_
          rintro e wc1 ⟨vc1, u1, rfl, hv, hu, hb⟩
          obtain ⟨tc1, rfl, ho, ht⟩ := hv.form
          have HOC1 := Lib.hid ho
          have TC1 := Lib.hid ht
          have Kx1_50 := Lib.hid (old_below Kx1_39.out hb (row_lt Kx1_39.out))
          have Kx2_51 := Lib.hid (old_below Kx2_40.out hb (row_lt Kx2_40.out))
          have Ko_52 := Lib.hid (old_below Ko_41.out hb (row_lt Ko_41.out))
          have Kw_53 := Lib.hid (old_below Kw_42.out hb (row_lt Kw_42.out))
          have Kn1_54 := Lib.hid (old_below Kn1_43.out hb (row_lt Kn1_43.out))
          have Kn2_55 := Lib.hid (old_below Kn2_44.out hb (row_lt Kn2_44.out))
          have Ts1_56 := Lib.hid (Ts1_45.out.below hb)
          have Ts2_57 := Lib.hid (Ts2_46.out.below hb)
          have Ts9_58 := Lib.hid (Ts9_47.out.below hb)
          have Tt1_59 := Lib.hid (Tt1_48.out.below hb)
          have B_60 := Lib.hid (B_49.out.trans ((hb).mono B_49.out.size))
          clear Kx1_39 Kx2_40 Ko_41 Kw_42 Kn1_43 Kn2_44 Ts1_45 Ts2_46 Ts9_47 Tt1_48 B_49
          have U1 := Lib.hid hu
          have U0c := Lib.hid (U0b.out.below hb)
          clear hv ho ht hb hu
          go_upto_region 13 with (first | (refine wpList_store_row rfl 29 _ _ rfl gn2 #[.int .u64 ((kn : Int) + 1), tc1] rfl rfl 29 #[.int .u64 (kn : Int), s2] Kn2_55.out (by kernel_rfl) rfl (wh_one HOC1.out) ?_) | go_in)
          have U0d : Hid (InT (wc1.setRow gn2 #[.int .u64 ((kn : Int) + 1), tc1]) u0 D) := U0c.out.setRow Kn2_55.out (by decide) _
          have U1b : Hid (InT (wc1.setRow gn2 #[.int .u64 ((kn : Int) + 1), tc1]) u1 D) := U1.out.setRow Kn2_55.out (by decide) _
          have Kx1_61 : Hid ((wc1.setRow gn2 #[.int .u64 ((kn : Int) + 1), tc1]).heap[g1]? = some (.cells #[.int .u64 (kn : Int), s1] 27 (0, 0))) := (setRow_other _ _ _ _ NE_x1_n2.out).trans Kx1_50.out
          have Kx2_62 : Hid ((wc1.setRow gn2 #[.int .u64 ((kn : Int) + 1), tc1]).heap[g2]? = some (.cells #[.int .u64 (kn : Int), s2] 29 (0, 0))) := (setRow_other _ _ _ _ NE_x2_n2.out).trans Kx2_51.out
          have Ko_63 : Hid ((wc1.setRow gn2 #[.int .u64 ((kn : Int) + 1), tc1]).heap[go]? = some (.cells #[.int .i64 kd, .int .i64 id, .int .u64 (af : Int)] 31 (0, 0))) := (setRow_other _ _ _ _ NE_o_n2.out).trans Ko_52.out
          have Kw_64 : Hid ((wc1.setRow gn2 #[.int .u64 ((kn : Int) + 1), tc1]).heap[gw]? = some (.cells #[.int .u64 (kn : Int), s9] 27 (0, 0))) := (setRow_other _ _ _ _ NE_w_n2.out).trans Kw_53.out
          have Kn1_65 : Hid ((wc1.setRow gn2 #[.int .u64 ((kn : Int) + 1), tc1]).heap[gn1]? = some (.cells #[.int .u64 ((kn : Int) + 1), tc0] 27 (0, 0))) := (setRow_other _ _ _ _ NE_n1_n2.out).trans Kn1_54.out
          have Kn2_66 : Hid ((wc1.setRow gn2 #[.int .u64 ((kn : Int) + 1), tc1]).heap[gn2]? = some (.cells #[.int .u64 ((kn : Int) + 1), tc1] 29 (0, 0))) := setRow_heap _ _ _ _ _ _ Kn2_55.out
          have Ts1_67 : Hid (TsT (wc1.setRow gn2 #[.int .u64 ((kn : Int) + 1), tc1]) s1 (sortT S)) := Ts1_56.out.setRow Kn2_55.out (by decide) _
          have Ts2_68 : Hid (TsT (wc1.setRow gn2 #[.int .u64 ((kn : Int) + 1), tc1]) s2 S) := Ts2_57.out.setRow Kn2_55.out (by decide) _
          have Ts9_69 : Hid (TsT (wc1.setRow gn2 #[.int .u64 ((kn : Int) + 1), tc1]) s9 (sortT S)) := Ts9_58.out.setRow Kn2_55.out (by decide) _
          have Tt1_70 : Hid (TsT (wc1.setRow gn2 #[.int .u64 ((kn : Int) + 1), tc1]) tc0 (sortT S1)) := Tt1_59.out.setRow Kn2_55.out (by decide) _
          have Tt2_71 : Hid (TsT (wc1.setRow gn2 #[.int .u64 ((kn : Int) + 1), tc1]) tc1 S1) := TC1.out.setRow Kn2_55.out (by decide) _
          have B_72 := Lib.hid (below_setRow B_60.out GE_n2.out #[.int .u64 ((kn : Int) + 1), tc1])
          generalize (wc1.setRow gn2 #[.int .u64 ((kn : Int) + 1), tc1]) = wd1 at Kx1_61 Kx2_62 Ko_63 Kw_64 Kn1_65 Kn2_66 Ts1_67 Ts2_68 Ts9_69 Tt1_70 Tt2_71 B_72 U0d U1b ⊢
          clear Kx1_50 Kx2_51 Ko_52 Kw_53 Kn1_54 Kn2_55 Ts1_56 Ts2_57 Ts9_58 Tt1_59 TC1 B_60
          obtain ⟨Au, cu, rfl, hru, -, hlu, hcu⟩ := U0d.out
          obtain ⟨Av, cv, rfl, hrv, -, hlv, hcv⟩ := U1b.out
          obtain ⟨du, hdu⟩ : ∃ du, D.length = du := ⟨_, rfl⟩
          have HDL := Lib.hid hdu
          rw [hdu] at hlu hlv ⊢
          have hcu2 : cu ≤ 9223372036854775807 := by unfold maxLen at hcu; omega
          have hcv2 : cv ≤ 9223372036854775807 := by unfold maxLen at hcv; omega
          have HRU := Lib.hid hru.rd
          have HRV := Lib.hid hrv.rd
          clear hru hrv hcu hcv hdu U0 U0b U0c U0d U1 U1b
          go_wp2
          go_loopw [69] (fun t69 wr => ∃ j : Nat, j ≤ du ∧ t69 = .int .i64 (j : Int) ∧ Hid (Below wd1.heap.size wd1 wr)) (fun t69 _ => du - (intOf t69).toNat)
          case atStart => exact ⟨0, Nat.zero_le _, rfl, Lib.hid (Below.refl _ _)⟩
          case round =>
            obtain ⟨j, hj, rfl, HBI⟩ := hrel
            by_cases hltj : j < du
            · obtain ⟨z, hz⟩ : ∃ z, D[j]? = some z := ⟨_, List.getElem?_eq_getElem (by rw [HDL.out]; exact hltj)⟩
              obtain ⟨ua, rfl, hua⟩ := el_one1 inE (Rs.below HRU.out HBI.out (Nat.le_refl _)) hz (v := .int .i64 z) rfl
              obtain ⟨ub, rfl, hub⟩ := el_one1 inE (Rs.below HRV.out HBI.out (Nat.le_refl _)) hz (v := .int .i64 z) rfl
              have KU0 : Hid (∀ w', Reg wr w' → w'.cell? (ua.add j) = some (.int .i64 z)) := fun w' hr => hua w' (reg_below hr)
              have KU1 : Hid (∀ w', Reg wr w' → w'.cell? (ub.add j) = some (.int .i64 z)) := fun w' hr => hub w' (reg_below hr)
              clear hz hua hub
              go_upto_region 18 with (fail)
              refine wp_region_quiet_below (by kernel_rfl) (by kernel_rfl) ?_
              (first | go_big_quiet_step (fail) | quiet_step (fail))
              (first | go_big_quiet_step (fail) | quiet_step (fail))
              (first | go_big_quiet_step (fail) | quiet_step (fail))
              (refine wpQuiet_step (fun K hK => ?_); refine quiet_load_cell (by kernel_rfl) 3 _ rfl (ua.add j) (by first | rfl | (simp [Act.eval, Addr.add_mid])) (.int .i64 z) _ KU0.out Try.underlying3 rfl ?_; refine hK _ ?_; clear hK K; go_frame)
              (first | go_big_quiet_step (fail) | quiet_step (fail))
              (first | go_big_quiet_step (fail) | quiet_step (fail))
              (first | go_big_quiet_step (fail) | quiet_step (fail))
              (refine wpQuiet_step (fun K hK => ?_); refine quiet_load_cell (by kernel_rfl) 3 _ rfl (ub.add j) (by first | rfl | (simp [Act.eval, Addr.add_mid])) (.int .i64 z) _ KU1.out Try.underlying3 rfl ?_; refine hK _ ?_; clear hK K; go_frame)
              (first | go_big_quiet_step (fail) | quiet_step (fail))
              refine wpQuiet_nil ?_
              intro w9 hw9
              obtain ⟨⟨dq, osq⟩, rfl⟩ := hw9
              have HB9 := Lib.hid ((HBI.out).trans ((below_regrown wr dq osq).mono (HBI.out).size))
              generalize Sort.grow (redrawn wr dq) osq = w9b at *
              go_wp2
              go_roundw
              case rel => exact ⟨j + 1, by omega, by go_num, HB9⟩
              case measure => simp [intOf]; omega
            · obtain rfl : j = du := by omega
              have Kx1_73 := Lib.hid (old_below Kx1_61.out HBI.out (row_lt Kx1_61.out))
              have Kx2_74 := Lib.hid (old_below Kx2_62.out HBI.out (row_lt Kx2_62.out))
              have Ko_75 := Lib.hid (old_below Ko_63.out HBI.out (row_lt Ko_63.out))
              have Kw_76 := Lib.hid (old_below Kw_64.out HBI.out (row_lt Kw_64.out))
              have Kn1_77 := Lib.hid (old_below Kn1_65.out HBI.out (row_lt Kn1_65.out))
              have Kn2_78 := Lib.hid (old_below Kn2_66.out HBI.out (row_lt Kn2_66.out))
              have Ts1_79 := Lib.hid (Ts1_67.out.below HBI.out)
              have Ts2_80 := Lib.hid (Ts2_68.out.below HBI.out)
              have Ts9_81 := Lib.hid (Ts9_69.out.below HBI.out)
              have Tt1_82 := Lib.hid (Tt1_70.out.below HBI.out)
              have Tt2_83 := Lib.hid (Tt2_71.out.below HBI.out)
              have B_84 := Lib.hid (B_72.out.trans ((HBI.out).mono B_72.out.size))
              clear Kx1_61 Kx2_62 Ko_63 Kw_64 Kn1_65 Kn2_66 Ts1_67 Ts2_68 Ts9_69 Tt1_70 Tt2_71 B_72
              rename World => wz
              have HLK1 := Lib.hid (likeT (kn + 1) S1 (by have := HLSN.out; omega))
              have HLK0 := Lib.hid (likeT kn S (by have := HLS.out; omega))
              have HRI : Hid (∀ w v, WhT w v (kn + 1) (sortT S1) → Calls Try.prog 16 #[v] w fun e w' => e = .returned (.bool true) ∧ Below w.heap.size w w') := fun w v hv => by
                have := right_any v (kn + 1) (sortT S1) w hv.whs (by omega) (okT_sort HOSN.out) (by rw [sort_len]; have := HLSN.out; omega)
                rw [HRN.out] at this
                exact this
              have HDU : Hid (∀ w v, WhT w v (kn + 1) (sortT S1) → Calls Try.prog 17 #[v, .int .i64 id] w fun e w' => e = .returned (.tuple #[.int .u64 ((dueC (sortT S1) id).1 : Int), .bool (dueC (sortT S1) id).2]) ∧ Below w.heap.size w w') := fun w v hv => due_any v (kn + 1) (sortT S1) id w hv.whs HRN.out (okT_sort HOSN.out) HID.out
              obtain ⟨hfd1, hfd2⟩ := due_found S1 id
              obtain ⟨dd, hdd⟩ : ∃ dd, (dueC (sortT S1) id).1 = dd := ⟨_, rfl⟩
              obtain ⟨ff, hff⟩ : ∃ ff, (dueC (sortT S1) id).2 = ff := ⟨_, rfl⟩
              rw [hdd, hff] at HDU hfd1 hfd2
              have HFD1 := Lib.hid hfd1
              have HFD2 := Lib.hid hfd2
              clear hfd1 hfd2 hdd hff
              obtain ⟨cn10, cn11⟩ := two_cells Kn1_77.out
              obtain ⟨cn20, cn21⟩ := two_cells Kn2_78.out
              go_wp2_with fail
              refine (HLK1.out _ _ _ ⟨_, rfl, Tt2_83.out⟩ ⟨_, rfl, Tt1_82.out⟩).mono ?_
              rintro e wb1 ⟨rfl, hb⟩
              clear cn10 cn11 cn20 cn21
              have Kx1_85 := Lib.hid (old_below Kx1_73.out hb (row_lt Kx1_73.out))
              have Kx2_86 := Lib.hid (old_below Kx2_74.out hb (row_lt Kx2_74.out))
              have Ko_87 := Lib.hid (old_below Ko_75.out hb (row_lt Ko_75.out))
              have Kw_88 := Lib.hid (old_below Kw_76.out hb (row_lt Kw_76.out))
              have Kn1_89 := Lib.hid (old_below Kn1_77.out hb (row_lt Kn1_77.out))
              have Kn2_90 := Lib.hid (old_below Kn2_78.out hb (row_lt Kn2_78.out))
              have Ts1_91 := Lib.hid (Ts1_79.out.below hb)
              have Ts2_92 := Lib.hid (Ts2_80.out.below hb)
              have Ts9_93 := Lib.hid (Ts9_81.out.below hb)
              have Tt1_94 := Lib.hid (Tt1_82.out.below hb)
              have Tt2_95 := Lib.hid (Tt2_83.out.below hb)
              have B_96 := Lib.hid (B_84.out.trans ((hb).mono B_84.out.size))
              clear Kx1_73 Kx2_74 Ko_75 Kw_76 Kn1_77 Kn2_78 Ts1_79 Ts2_80 Ts9_81 Tt1_82 Tt2_83 B_84
              clear hb
              obtain ⟨cn10, cn11⟩ := two_cells Kn1_89.out
              go_wp2_with fail
              refine (HRI.out _ _ ⟨_, rfl, Tt1_94.out⟩).mono ?_
              rintro e wb2 ⟨rfl, hb⟩
              clear cn10 cn11
              have Kx1_97 := Lib.hid (old_below Kx1_85.out hb (row_lt Kx1_85.out))
              have Kx2_98 := Lib.hid (old_below Kx2_86.out hb (row_lt Kx2_86.out))
              have Ko_99 := Lib.hid (old_below Ko_87.out hb (row_lt Ko_87.out))
              have Kw_100 := Lib.hid (old_below Kw_88.out hb (row_lt Kw_88.out))
              have Kn1_101 := Lib.hid (old_below Kn1_89.out hb (row_lt Kn1_89.out))
              have Kn2_102 := Lib.hid (old_below Kn2_90.out hb (row_lt Kn2_90.out))
              have Ts1_103 := Lib.hid (Ts1_91.out.below hb)
              have Ts2_104 := Lib.hid (Ts2_92.out.below hb)
              have Ts9_105 := Lib.hid (Ts9_93.out.below hb)
              have Tt1_106 := Lib.hid (Tt1_94.out.below hb)
              have Tt2_107 := Lib.hid (Tt2_95.out.below hb)
              have B_108 := Lib.hid (B_96.out.trans ((hb).mono B_96.out.size))
              clear Kx1_85 Kx2_86 Ko_87 Kw_88 Kn1_89 Kn2_90 Ts1_91 Ts2_92 Ts9_93 Tt1_94 Tt2_95 B_96
              clear hb
              obtain ⟨cx10, cx11⟩ := two_cells Kx1_97.out
              obtain ⟨cx20, cx21⟩ := two_cells Kx2_98.out
              go_wp2_with fail
              refine (HLK0.out _ _ _ ⟨_, rfl, Ts2_104.out⟩ ⟨_, rfl, Ts1_103.out⟩).mono ?_
              rintro e wb3 ⟨rfl, hb⟩
              clear cx10 cx11 cx20 cx21
              have Kx1_109 := Lib.hid (old_below Kx1_97.out hb (row_lt Kx1_97.out))
              have Kx2_110 := Lib.hid (old_below Kx2_98.out hb (row_lt Kx2_98.out))
              have Ko_111 := Lib.hid (old_below Ko_99.out hb (row_lt Ko_99.out))
              have Kw_112 := Lib.hid (old_below Kw_100.out hb (row_lt Kw_100.out))
              have Kn1_113 := Lib.hid (old_below Kn1_101.out hb (row_lt Kn1_101.out))
              have Kn2_114 := Lib.hid (old_below Kn2_102.out hb (row_lt Kn2_102.out))
              have Ts1_115 := Lib.hid (Ts1_103.out.below hb)
              have Ts2_116 := Lib.hid (Ts2_104.out.below hb)
              have Ts9_117 := Lib.hid (Ts9_105.out.below hb)
              have Tt1_118 := Lib.hid (Tt1_106.out.below hb)
              have Tt2_119 := Lib.hid (Tt2_107.out.below hb)
              have B_120 := Lib.hid (B_108.out.trans ((hb).mono B_108.out.size))
              clear Kx1_97 Kx2_98 Ko_99 Kw_100 Kn1_101 Kn2_102 Ts1_103 Ts2_104 Ts9_105 Tt1_106 Tt2_107 B_108
              clear hb
              obtain ⟨cx20, cx21⟩ := two_cells Kx2_110.out
              obtain ⟨cw0, cw1⟩ := two_cells Kw_112.out
              go_wp2_with fail
              refine (HLK0.out _ _ _ ⟨_, rfl, Ts2_116.out⟩ ⟨_, rfl, Ts9_117.out⟩).mono ?_
              rintro e wb4 ⟨rfl, hb⟩
              clear cx20 cx21 cw0 cw1
              have Kx1_121 := Lib.hid (old_below Kx1_109.out hb (row_lt Kx1_109.out))
              have Kx2_122 := Lib.hid (old_below Kx2_110.out hb (row_lt Kx2_110.out))
              have Ko_123 := Lib.hid (old_below Ko_111.out hb (row_lt Ko_111.out))
              have Kw_124 := Lib.hid (old_below Kw_112.out hb (row_lt Kw_112.out))
              have Kn1_125 := Lib.hid (old_below Kn1_113.out hb (row_lt Kn1_113.out))
              have Kn2_126 := Lib.hid (old_below Kn2_114.out hb (row_lt Kn2_114.out))
              have Ts1_127 := Lib.hid (Ts1_115.out.below hb)
              have Ts2_128 := Lib.hid (Ts2_116.out.below hb)
              have Ts9_129 := Lib.hid (Ts9_117.out.below hb)
              have Tt1_130 := Lib.hid (Tt1_118.out.below hb)
              have Tt2_131 := Lib.hid (Tt2_119.out.below hb)
              have B_132 := Lib.hid (B_120.out.trans ((hb).mono B_120.out.size))
              clear Kx1_109 Kx2_110 Ko_111 Kw_112 Kn1_113 Kn2_114 Ts1_115 Ts2_116 Ts9_117 Tt1_118 Tt2_119 B_120
              clear hb
              obtain ⟨cn10, cn11⟩ := two_cells Kn1_125.out
              obtain ⟨co0, co1, co2⟩ := three_cells Ko_123.out
              go_wp2_with fail
              refine (HDU.out _ _ ⟨_, rfl, Tt1_130.out⟩).mono ?_
              rintro e wb5 ⟨rfl, hb⟩
              clear cn10 cn11 co0 co1 co2
              have Kx1_133 := Lib.hid (old_below Kx1_121.out hb (row_lt Kx1_121.out))
              have Kx2_134 := Lib.hid (old_below Kx2_122.out hb (row_lt Kx2_122.out))
              have Ko_135 := Lib.hid (old_below Ko_123.out hb (row_lt Ko_123.out))
              have Kw_136 := Lib.hid (old_below Kw_124.out hb (row_lt Kw_124.out))
              have Kn1_137 := Lib.hid (old_below Kn1_125.out hb (row_lt Kn1_125.out))
              have Kn2_138 := Lib.hid (old_below Kn2_126.out hb (row_lt Kn2_126.out))
              have Ts1_139 := Lib.hid (Ts1_127.out.below hb)
              have Ts2_140 := Lib.hid (Ts2_128.out.below hb)
              have Ts9_141 := Lib.hid (Ts9_129.out.below hb)
              have Tt1_142 := Lib.hid (Tt1_130.out.below hb)
              have Tt2_143 := Lib.hid (Tt2_131.out.below hb)
              have B_144 := Lib.hid (B_132.out.trans ((hb).mono B_132.out.size))
              clear Kx1_121 Kx2_122 Ko_123 Kw_124 Kn1_125 Kn2_126 Ts1_127 Ts2_128 Ts9_129 Tt1_130 Tt2_131 B_132
              clear hb
              obtain ⟨p, hp⟩ : ∃ p, S1.length = p := ⟨_, rfl⟩
              have HPL := Lib.hid hp
              obtain ⟨A2, c2, ht2, hr2, -, hl2, hc2⟩ := Tt2_143.out
              rw [hp] at ht2 hl2
              subst ht2
              have HR2 := Lib.hid hr2.rd
              have hc2b : c2 ≤ 9223372036854775807 := by unfold maxLen at hc2; omega
              clear hp hr2 hc2
              obtain ⟨cn20, cn21⟩ := two_cells Kn2_138.out
              go_wp2
              clear cn20 cn21
              go_loopw [21, 156] (fun t21 t156 wr => ∃ j : Nat, j ≤ p ∧ t156 = .int .i64 (j : Int) ∧ t21 = .bool (foundD (S1.take j) id dd) ∧ Hid (Below wb5.heap.size wb5 wr)) (fun _ t156 _ => p - (intOf t156).toNat)
              case atStart => exact ⟨0, Nat.zero_le _, rfl, rfl, Lib.hid (Below.refl _ _)⟩
              case round =>
                obtain ⟨j, hj, rfl, rfl, HBI⟩ := hrel
                by_cases hlt2 : j < p
                · obtain ⟨y, hy⟩ : ∃ y, S1[j]? = some y := ⟨_, List.getElem?_eq_getElem (by rw [HPL.out]; exact hlt2)⟩
                  obtain ⟨yd, rfl, hKY⟩ := el_all tmE (Rs.below HR2.out HBI.out (Nat.le_refl _)) (by omega) hy
                  have HKY : Hid (∀ (q : Nat) v, (#[.int .i64 y.id, .int .u64 (y.due : Int)] : Array Value)[q]? = some v → wr.cell? ((yd.add (j * 2)).add q) = some v) := hKY wr (Below.refl _ _)
                  have HFS := Lib.hid (found_snoc hy id dd)
                  have HOI := Lib.hid (old_below Ko_135.out HBI.out (row_lt Ko_135.out))
                  clear hy hKY
                  obtain ⟨wy, hwy⟩ : ∃ wy, wr.alloc (.cells #[.int .i64 y.id, .int .u64 (y.due : Int)] 53) = wy := ⟨_, rfl⟩
                  have HY5 : Hid (wy.heap[wr.heap.size]? = some (.cells #[.int .i64 y.id, .int .u64 (y.due : Int)] 53 (0, 0))) := by rw [← hwy]; exact heap_alloc_new wr _
                  have HO5 : Hid (wy.heap[go]? = some (.cells #[.int .i64 kd, .int .i64 id, .int .u64 (af : Int)] 31 (0, 0))) := by rw [← hwy]; exact old_alloc HOI.out _
                  have HB5 : Hid (Below wb5.heap.size wb5 wy) := by rw [← hwy]; exact HBI.out.alloc HBI.out.size _
                  have HWY := Lib.hid hwy
                  clear hwy
                  go_upto_region 41 with (first | (refine wpList_load_atA rfl 53 _ rfl (yd.add (j * 2)) rfl #[.int .i64 y.id, .int .u64 (y.due : Int)] _ HKY.out Try.underlying53 rfl (by kernel_rfl) ?_) | (refine wpList_store_new rfl 53 _ _ rfl wr #[.int .i64 0, .int .u64 0] #[.int .i64 y.id, .int .u64 (y.due : Int)] rfl rfl (by kernel_rfl) rfl (by simp [Value.oneCell']) ?_) | go_in)
                  rw [HWY.out]
                  clear HWY HKY
                  generalize wr.heap.size = gy at HY5 ⊢
                  obtain ⟨y0, y1⟩ := two_cells HY5.out
                  obtain ⟨o0, o1, o2⟩ := three_cells HO5.out
                  generalize foundD (S1.take j) id dd = fb at HFS ⊢
                  cases fb
                  · by_cases hyi : y.id = id
                    · by_cases hyd : y.due = dd
                      · have hydi : (y.due : Int) = (dd : Int) := by omega
                        have HF2 : Hid (foundD (S1.take (j + 1)) id dd = true) := by show _ = _; rw [HFS.out, decide_eq_true hyi, decide_eq_true hyd]; rfl
                        go_wp2
                        go_roundw
                        case rel => exact ⟨j + 1, by omega, by go_num, by rw [HF2.out] <;> first | rfl | simp [*], HB5⟩
                        case measure => simp [intOf]; omega
                      · have hydi : ¬ (y.due : Int) = (dd : Int) := by omega
                        have hydb : ((y.due : Int) == (dd : Int)) = false := beq_eq_false_iff_ne.2 hydi
                        have HF2 : Hid (foundD (S1.take (j + 1)) id dd = false) := by show _ = _; rw [HFS.out, decide_eq_true hyi, decide_eq_false hyd]; rfl
                        go_wp2
                        go_roundw
                        case rel => exact ⟨j + 1, by omega, by go_num, by rw [HF2.out] <;> first | rfl | simp [*], HB5⟩
                        case measure => simp [intOf]; omega
                    · have HF2 : Hid (foundD (S1.take (j + 1)) id dd = false) := by show _ = _; rw [HFS.out, decide_eq_false hyi]; rfl
                      have hyib : (y.id == id) = false := beq_eq_false_iff_ne.2 hyi
                      go_wp2
                      go_roundw
                      case rel => exact ⟨j + 1, by omega, by go_num, by rw [HF2.out] <;> first | rfl | simp [*], HB5⟩
                      case measure => simp [intOf]; omega
                  · have HF2 : Hid (foundD (S1.take (j + 1)) id dd = true) := by show _ = _; rw [HFS.out, Bool.true_or]
                    go_wp2
                    go_roundw
                    case rel => exact ⟨j + 1, by omega, by go_num, by rw [HF2.out] <;> first | rfl | simp [*], HB5⟩
                    case measure => simp [intOf]; omega
                · obtain rfl : j = p := by omega
                  have HTK : Hid (S1.take j = S1) := List.take_of_length_le (Nat.le_of_eq HPL.out)
                  rw [HTK.out, HFD1.out]
                  have Kx1_145 := Lib.hid (old_below Kx1_133.out HBI.out (row_lt Kx1_133.out))
                  have Kx2_146 := Lib.hid (old_below Kx2_134.out HBI.out (row_lt Kx2_134.out))
                  have Ko_147 := Lib.hid (old_below Ko_135.out HBI.out (row_lt Ko_135.out))
                  have Kw_148 := Lib.hid (old_below Kw_136.out HBI.out (row_lt Kw_136.out))
                  have Kn1_149 := Lib.hid (old_below Kn1_137.out HBI.out (row_lt Kn1_137.out))
                  have Kn2_150 := Lib.hid (old_below Kn2_138.out HBI.out (row_lt Kn2_138.out))
                  have Ts1_151 := Lib.hid (Ts1_139.out.below HBI.out)
                  have Ts2_152 := Lib.hid (Ts2_140.out.below HBI.out)
                  have Ts9_153 := Lib.hid (Ts9_141.out.below HBI.out)
                  have Tt1_154 := Lib.hid (Tt1_142.out.below HBI.out)
                  have Tt2_155 := Lib.hid (Tt2_143.out.below HBI.out)
                  have B_156 := Lib.hid (B_144.out.trans ((HBI.out).mono B_144.out.size))
                  clear Kx1_133 Kx2_134 Ko_135 Kw_136 Kn1_137 Kn2_138 Ts1_139 Ts2_140 Ts9_141 Tt1_142 Tt2_143 B_144
                  have HOT1 := Lib.hid Tt1_154.out.one
                  have HOT2 : Hid ((Value.slice A2 j c2).oneCell' = true) := rfl
                  cases ff
                  · have hdz : dd = 0 := HFD2.out rfl
                    subst hdz
                    go_upto_region 45 with (fail)
                    apply wp_region_relyG [2, 3] (OldT wr 2 g1 27 #[.int .u64 (kn : Int), s1] #[.int .u64 ((kn : Int) + 1), tc0] 3 g2 29 #[.int .u64 (kn : Int), s2] #[.int .u64 ((kn : Int) + 1), .slice A2 j c2]) (RL [Is (.agg #[.int .u64 ((kn : Int) + 1), tc0]), Is (.agg #[.int .u64 ((kn : Int) + 1), .slice A2 j c2]), Any, Any]) [false, false, false, false, false, false, false, false, false, false, false, false, false, false, false, false, false, false, false, false, false, false, false, false, false, false, false, false, false, false, false, false, false, false, false, false, false, false, false, false, false, false, false, false, false, false, false, false, false, false, false, false, false, false, false, false, false, false, false, false, false, false, false, false, false, false, false, false, false, false, false, false, false, false, false, false, false, false, false, false, false, false, false, false, false, false, false, false, false, false, false, false, false, false, false, false, false, false, false, false, false, false, false, false, false, false, false, false, false, false, false, false, false, false, false, false, false, false, false, false, false, false, false, false, false, false, false, false, false, false, false, false, false, false, false, false, false, false, false, false, false, false, false, false, false, false, false, false, false, false, false, false, false, false, false, false, false, false, false, false, false, false, false, false, false, false, false, false, false, false, false, false, false, false, false, false, false, false, false, false, false, false, false, false, false, false, true, true, false]
                    · kernel_rfl
                    · kernel_rfl
                    · kernel_rfl
                    · refine ⟨?_, ?_, ?_, ?_, trivial⟩
                      · intro L ev w' hC hL hx K hK
                        have e10 : ev (.tmp 10) = _ := hx.base 10 (by kernel_rfl)
                        have HK := Lib.hid hK
                        have HC := Lib.hid hC
                        have HL := Lib.hid hL
                        have HX := Lib.hid hx
                        have hc := hx.cst
                        skip
                        clear hx hK hC hL
                        have q1 : ev (.tmp 10) = .pointer (some ⟨gn1, 0, none⟩) := e10
                        have hld := run_loadVar_row (P := Try.prog) w' gn1 27 27 #[.int .u64 ((kn : Int) + 1), tc0] (0, 0) _ (HC.out.keep Kn1_149.out (Ne.symm NE_x1_n1.out) (Ne.symm NE_x2_n1.out)) Try.underlying27 rfl (by kernel_rfl)
                        unfold Run
                        rw [rely_load 27 _ rfl q1 hld]
                        exact HK.out _ _ (.inl ⟨Below.refl _ _, by decide⟩) rfl
                      · intro L ev w' hC hL hx K hK
                        have e11 : ev (.tmp 11) = _ := hx.base 11 (by kernel_rfl)
                        have HK := Lib.hid hK
                        have HC := Lib.hid hC
                        have HL := Lib.hid hL
                        have HX := Lib.hid hx
                        have hc := hx.cst
                        skip
                        clear hx hK hC hL
                        have q1 : ev (.tmp 11) = .pointer (some ⟨gn2, 0, none⟩) := e11
                        have hld := run_loadVar_row (P := Try.prog) w' gn2 29 29 #[.int .u64 ((kn : Int) + 1), .slice A2 j c2] (0, 0) _ (HC.out.keep Kn2_150.out (Ne.symm NE_x1_n2.out) (Ne.symm NE_x2_n2.out)) Try.underlying29 rfl (by kernel_rfl)
                        unfold Run
                        rw [rely_load 29 _ rfl q1 hld]
                        exact HK.out _ _ (.inl ⟨Below.refl _ _, by decide⟩) rfl
                      · intro L ev w' hC hL hx K hK
                        have e5 : ev (.tmp 5) = _ := hx.base 5 (by kernel_rfl)
                        have e186 := hx.held 0 _ rfl (by kernel_rfl)
                        change ev (.tmp 186) = _ at e186
                        have HK := Lib.hid hK
                        have HC := Lib.hid hC
                        have HL := Lib.hid hL
                        have HX := Lib.hid hx
                        have hc := hx.cst
                        skip
                        clear hx hK hC hL
                        have qv : ev (.tmp 186) = .agg #[.int .u64 ((kn : Int) + 1), tc0] := e186
                        have nst : L 2 = false := HL.out
                        have qp : ev (.tmp 5) = .pointer (some ⟨g1, 0, none⟩) := e5
                        have hgh := HC.out.old1 nst
                        have hnv := HC.out.store1 nst rfl NE_x1_x2.out (by decide)
                        have hst := run_storeVar_row (P := Try.prog) w' g1 27 27 #[.int .u64 (kn : Int), s1] #[.int .u64 ((kn : Int) + 1), tc0] hgh (by kernel_rfl) rfl (wh_one HOT1.out)
                        unfold Run
                        rw [rely_store 27 _ _ rfl qp qv hst]
                        refine HK.out _ _ (.inr ⟨hnv, fun j hj hlj u hr => ?_⟩) trivial
                        rcases j with _ | _ | _ | _ | j
                        · exact hr
                        · exact hr
                        · exact absurd rfl hj
                        · exact trivial
                        · exact trivial
                      · intro L ev w' hC hL hx K hK
                        have e6 : ev (.tmp 6) = _ := hx.base 6 (by kernel_rfl)
                        have e187 := hx.held 1 _ rfl (by kernel_rfl)
                        change ev (.tmp 187) = _ at e187
                        have HK := Lib.hid hK
                        have HC := Lib.hid hC
                        have HL := Lib.hid hL
                        have HX := Lib.hid hx
                        have hc := hx.cst
                        skip
                        clear hx hK hC hL
                        have qv : ev (.tmp 187) = .agg #[.int .u64 ((kn : Int) + 1), .slice A2 j c2] := e187
                        have nst : L 3 = false := HL.out
                        have qp : ev (.tmp 6) = .pointer (some ⟨g2, 0, none⟩) := e6
                        have hgh := HC.out.old2 nst
                        have hnv := HC.out.store2 nst rfl NE_x1_x2.out (by decide)
                        have hst := run_storeVar_row (P := Try.prog) w' g2 29 29 #[.int .u64 (kn : Int), s2] #[.int .u64 ((kn : Int) + 1), .slice A2 j c2] hgh (by kernel_rfl) rfl (wh_one HOT2.out)
                        unfold Run
                        rw [rely_store 29 _ _ rfl qp qv hst]
                        refine HK.out _ _ (.inr ⟨hnv, fun j hj hlj u hr => ?_⟩) trivial
                        rcases j with _ | _ | _ | _ | j
                        · exact hr
                        · exact hr
                        · exact trivial
                        · exact absurd rfl hj
                        · exact trivial
                    · exact rl_mono ⟨is_mono _, is_mono _, any_mono, any_mono, trivial⟩
                    · exact fun L L' w' h1 hg => hg.agree (h1 2 (by simp)) (h1 3 (by simp))
                    · exact fun L w' w'' hb hg => hg.below hb
                    · exact OldT.start Kx1_145.out Kx2_146.out
                    · simp
                    intro us wr hG hH
                    obtain ⟨-, -, -, -, -⟩ := hH
                    simp only [fillM]
                    obtain ⟨hG9, hvn1, hvn2⟩ := hG
                    have HVN1 : Hid (wr.heap[g1]? = some (.cells #[.int .u64 ((kn : Int) + 1), tc0] 27 (0, 0))) := hvn1
                    have HVN2 : Hid (wr.heap[g2]? = some (.cells #[.int .u64 ((kn : Int) + 1), .slice A2 j c2] 29 (0, 0))) := hvn2
                    have HG9 := Lib.hid hG9
                    clear hG9 hvn1 hvn2
                    generalize us 186 = v186
                    generalize us 187 = v187
                    have HT1 := Lib.hid (ts_gro2 Tt1_154.out HG9.out Kx1_145.out Kx2_146.out (by decide) (by decide))
                    have HT2 := Lib.hid (ts_gro2 Tt2_155.out HG9.out Kx1_145.out Kx2_146.out (by decide) (by decide))
                    have HBF := Lib.hid (B_156.out.trans (HG9.out.below HGE.out B_156.out.size))
                    go_wp2
                    go_roundw
                    case rel => exact ⟨i + 1, kn + 1, S1, _, _, by omega, by go_num, by omega, HVN1, HVN2, HT1, HT2, HRN, HOSN, HBF⟩
                    case measure => simp [intOf]; omega
                  · go_upto_region 45 with (fail)
                    apply wp_region_relyG [2, 3] (OldT wr 2 g1 27 #[.int .u64 (kn : Int), s1] #[.int .u64 ((kn : Int) + 1), tc0] 3 g2 29 #[.int .u64 (kn : Int), s2] #[.int .u64 ((kn : Int) + 1), .slice A2 j c2]) (RL [Is (.agg #[.int .u64 ((kn : Int) + 1), tc0]), Is (.agg #[.int .u64 ((kn : Int) + 1), .slice A2 j c2]), Any, Any]) [false, false, false, false, false, false, false, false, false, false, false, false, false, false, false, false, false, false, false, false, false, false, false, false, false, false, false, false, false, false, false, false, false, false, false, false, false, false, false, false, false, false, false, false, false, false, false, false, false, false, false, false, false, false, false, false, false, false, false, false, false, false, false, false, false, false, false, false, false, false, false, false, false, false, false, false, false, false, false, false, false, false, false, false, false, false, false, false, false, false, false, false, false, false, false, false, false, false, false, false, false, false, false, false, false, false, false, false, false, false, false, false, false, false, false, false, false, false, false, false, false, false, false, false, false, false, false, false, false, false, false, false, false, false, false, false, false, false, false, false, false, false, false, false, false, false, false, false, false, false, false, false, false, false, false, false, false, false, false, false, false, false, false, false, false, false, false, false, false, false, false, false, false, false, false, false, false, false, false, false, false, false, false, false, false, false, true, true, false]
                    · kernel_rfl
                    · kernel_rfl
                    · kernel_rfl
                    · refine ⟨?_, ?_, ?_, ?_, trivial⟩
                      · intro L ev w' hC hL hx K hK
                        have e10 : ev (.tmp 10) = _ := hx.base 10 (by kernel_rfl)
                        have HK := Lib.hid hK
                        have HC := Lib.hid hC
                        have HL := Lib.hid hL
                        have HX := Lib.hid hx
                        have hc := hx.cst
                        skip
                        clear hx hK hC hL
                        have q1 : ev (.tmp 10) = .pointer (some ⟨gn1, 0, none⟩) := e10
                        have hld := run_loadVar_row (P := Try.prog) w' gn1 27 27 #[.int .u64 ((kn : Int) + 1), tc0] (0, 0) _ (HC.out.keep Kn1_149.out (Ne.symm NE_x1_n1.out) (Ne.symm NE_x2_n1.out)) Try.underlying27 rfl (by kernel_rfl)
                        unfold Run
                        rw [rely_load 27 _ rfl q1 hld]
                        exact HK.out _ _ (.inl ⟨Below.refl _ _, by decide⟩) rfl
                      · intro L ev w' hC hL hx K hK
                        have e11 : ev (.tmp 11) = _ := hx.base 11 (by kernel_rfl)
                        have HK := Lib.hid hK
                        have HC := Lib.hid hC
                        have HL := Lib.hid hL
                        have HX := Lib.hid hx
                        have hc := hx.cst
                        skip
                        clear hx hK hC hL
                        have q1 : ev (.tmp 11) = .pointer (some ⟨gn2, 0, none⟩) := e11
                        have hld := run_loadVar_row (P := Try.prog) w' gn2 29 29 #[.int .u64 ((kn : Int) + 1), .slice A2 j c2] (0, 0) _ (HC.out.keep Kn2_150.out (Ne.symm NE_x1_n2.out) (Ne.symm NE_x2_n2.out)) Try.underlying29 rfl (by kernel_rfl)
                        unfold Run
                        rw [rely_load 29 _ rfl q1 hld]
                        exact HK.out _ _ (.inl ⟨Below.refl _ _, by decide⟩) rfl
                      · intro L ev w' hC hL hx K hK
                        have e5 : ev (.tmp 5) = _ := hx.base 5 (by kernel_rfl)
                        have e186 := hx.held 0 _ rfl (by kernel_rfl)
                        change ev (.tmp 186) = _ at e186
                        have HK := Lib.hid hK
                        have HC := Lib.hid hC
                        have HL := Lib.hid hL
                        have HX := Lib.hid hx
                        have hc := hx.cst
                        skip
                        clear hx hK hC hL
                        have qv : ev (.tmp 186) = .agg #[.int .u64 ((kn : Int) + 1), tc0] := e186
                        have nst : L 2 = false := HL.out
                        have qp : ev (.tmp 5) = .pointer (some ⟨g1, 0, none⟩) := e5
                        have hgh := HC.out.old1 nst
                        have hnv := HC.out.store1 nst rfl NE_x1_x2.out (by decide)
                        have hst := run_storeVar_row (P := Try.prog) w' g1 27 27 #[.int .u64 (kn : Int), s1] #[.int .u64 ((kn : Int) + 1), tc0] hgh (by kernel_rfl) rfl (wh_one HOT1.out)
                        unfold Run
                        rw [rely_store 27 _ _ rfl qp qv hst]
                        refine HK.out _ _ (.inr ⟨hnv, fun j hj hlj u hr => ?_⟩) trivial
                        rcases j with _ | _ | _ | _ | j
                        · exact hr
                        · exact hr
                        · exact absurd rfl hj
                        · exact trivial
                        · exact trivial
                      · intro L ev w' hC hL hx K hK
                        have e6 : ev (.tmp 6) = _ := hx.base 6 (by kernel_rfl)
                        have e187 := hx.held 1 _ rfl (by kernel_rfl)
                        change ev (.tmp 187) = _ at e187
                        have HK := Lib.hid hK
                        have HC := Lib.hid hC
                        have HL := Lib.hid hL
                        have HX := Lib.hid hx
                        have hc := hx.cst
                        skip
                        clear hx hK hC hL
                        have qv : ev (.tmp 187) = .agg #[.int .u64 ((kn : Int) + 1), .slice A2 j c2] := e187
                        have nst : L 3 = false := HL.out
                        have qp : ev (.tmp 6) = .pointer (some ⟨g2, 0, none⟩) := e6
                        have hgh := HC.out.old2 nst
                        have hnv := HC.out.store2 nst rfl NE_x1_x2.out (by decide)
                        have hst := run_storeVar_row (P := Try.prog) w' g2 29 29 #[.int .u64 (kn : Int), s2] #[.int .u64 ((kn : Int) + 1), .slice A2 j c2] hgh (by kernel_rfl) rfl (wh_one HOT2.out)
                        unfold Run
                        rw [rely_store 29 _ _ rfl qp qv hst]
                        refine HK.out _ _ (.inr ⟨hnv, fun j hj hlj u hr => ?_⟩) trivial
                        rcases j with _ | _ | _ | _ | j
                        · exact hr
                        · exact hr
                        · exact trivial
                        · exact absurd rfl hj
                        · exact trivial
                    · exact rl_mono ⟨is_mono _, is_mono _, any_mono, any_mono, trivial⟩
                    · exact fun L L' w' h1 hg => hg.agree (h1 2 (by simp)) (h1 3 (by simp))
                    · exact fun L w' w'' hb hg => hg.below hb
                    · exact OldT.start Kx1_145.out Kx2_146.out
                    · simp
                    intro us wr hG hH
                    obtain ⟨-, -, -, -, -⟩ := hH
                    simp only [fillM]
                    obtain ⟨hG9, hvn1, hvn2⟩ := hG
                    have HVN1 : Hid (wr.heap[g1]? = some (.cells #[.int .u64 ((kn : Int) + 1), tc0] 27 (0, 0))) := hvn1
                    have HVN2 : Hid (wr.heap[g2]? = some (.cells #[.int .u64 ((kn : Int) + 1), .slice A2 j c2] 29 (0, 0))) := hvn2
                    have HG9 := Lib.hid hG9
                    clear hG9 hvn1 hvn2
                    generalize us 186 = v186
                    generalize us 187 = v187
                    have HT1 := Lib.hid (ts_gro2 Tt1_154.out HG9.out Kx1_145.out Kx2_146.out (by decide) (by decide))
                    have HT2 := Lib.hid (ts_gro2 Tt2_155.out HG9.out Kx1_145.out Kx2_146.out (by decide) (by decide))
                    have HBF := Lib.hid (B_156.out.trans (HG9.out.below HGE.out B_156.out.size))
                    go_wp2
                    go_roundw
                    case rel => exact ⟨i + 1, kn + 1, S1, _, _, by omega, by go_num, by omega, HVN1, HVN2, HT1, HT2, HRN, HOSN, HBF⟩
                    case measure => simp [intOf]; omega
    · obtain rfl : i = m := by omega
      go_wp2
      go_ret
      exact ⟨rfl, BW.out⟩
end Go.Proofs.Ytljochpomgjjeaa
