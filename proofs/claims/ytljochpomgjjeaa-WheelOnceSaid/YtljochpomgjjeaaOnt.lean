/-
  WheelOnce's tick: what is due is told just once, and then left out of the map.
-/
import Derived.Test.YtljochpomgjjeaaOnm
import Derived.Maps.AppendAt
namespace Go.Proofs.Ytljochpomgjjeaa
open Go.RowKit Go.Maps

/-- a map of another's own, block M: whole numbers by ints -/
abbrev OwnU (M n : Nat) (D : DataW Unit) (w : World) : Prop := w.ownsMap Try.prog 3 (plainElem Try.prog 22) M n D
abbrev RangeU (M r n : Nat) (D : DataW Unit) (left : Lit → Bool) (cnt : Nat) (w : World) : Prop := w.ranges Try.prog 3 (plainElem Try.prog 22) M r n D left cnt
theorem OwnU.of {M n : Nat} {D : DataW Unit} {w w' : World} (h : OwnU M n D w) (hh : w'.heap[M]? = w.heap[M]?) : OwnU M n D w' := by
  obtain ⟨es, clock, h1, h2⟩ := h
  exact ⟨es, clock, hh.trans h1, h2⟩
theorem OwnU.below {M n b : Nat} {D : DataW Unit} {w w' : World} (h : OwnU M n D w) (hb : Below b w w') (hB : w.heap.size ≤ b := by first | exact Nat.le_refl _ | simp) : OwnU M n D w' := h.of (hb.block M (Nat.lt_of_lt_of_le (World.ownsMap.lt h) hB))
theorem OwnU.nocells {M n : Nat} {D : DataW Unit} {w : World} (h : OwnU M n D w) : ∀ C t fr, w.heap[M]? ≠ some (.cells C t fr) := by
  obtain ⟨es, clock, h1, _⟩ := h
  intro C t fr e
  rw [h1] at e
  cases e
theorem OwnU.set {M n N : Nat} {D : DataW Unit} {w : World} {C : Array Value} {t : TypeId} {fr : Nat × Nat} (h : OwnU M n D w) (hN : w.heap[N]? = some (.cells C t fr)) (cs : Array Value) : OwnU M n D (w.setRow N cs) :=
  h.of (setRow_other w N M cs fun e => h.nocells C t fr (by rw [e]; exact hN))
theorem RangeU.nocells {M r n cnt : Nat} {D : DataW Unit} {left : Lit → Bool} {w : World} (h : RangeU M r n D left cnt w) : ∀ C t fr, w.heap[r]? ≠ some (.cells C t fr) := by
  obtain ⟨es, clock, since, seen, c0, h1, h2, h3, h4, h5, h6⟩ := h
  exact fun C t fr e => by rw [h5] at e; cases e
theorem intlaw : Keyed Try.prog 3 := int_keyed Try.underlying3
theorem key_int {k : Int} (h : I64 k) : keyOf Try.prog 3 (.int .i64 k) = some (KI k) := keyOf_int_mk Try.underlying3 (by
  obtain ⟨h1, h2⟩ := h
  simp [Lit.wf, IntKind.min, IntKind.max, IntKind.signed, IntKind.bits]
  omega)
theorem wf_u64 {a : Nat} (h : a < 18446744073709551616) : (Lit.int .u64 (a : Int)).wf = true := by
  simp [Lit.wf, IntKind.min, IntKind.max, IntKind.signed, IntKind.bits]
  omega
theorem zero_u64 (w : World) : (zeroValue 22).run Try.prog w = .ok (.int .u64 0) w := by kernel_rfl
theorem lk_eq {D : DataW Unit} {kl : Lit} {zd : DataW Unit} {c u : Int} (h : D.atKey kl zd = .lit (.int .u64 c)) (hk : ∀ zd, D.atKey kl zd = .lit (.int .u64 u)) : c = u := by
  rw [hk] at h
  injection h with h
  injection h with _ h
  exact h.symm
/-- rows stand while a block that is no row turns -/
theorem tl_turn {α : Type} {e : TypeId} {f : α → Array Value} {w w' : World} {v : Value} {K : List α} {M : Nat} (h : TlT e f w v K) (hg : ∀ C t fr, w.heap[M]? ≠ some (.cells C t fr)) (hk : ∀ j, j < w.heap.size → j ≠ M → w'.heap[j]? = w.heap[j]?) : TlT e f w' v K :=
  h.keep fun g E hE => hk g (row_lt hE) fun q => hg _ _ _ (by rw [← q]; exact hE)
theorem row_turn {w w' : World} {M g : Nat} {C : Array Value} {t : TypeId} {fr : Nat × Nat} (h : w.heap[g]? = some (.cells C t fr)) (hg : ∀ C t fr, w.heap[M]? ≠ some (.cells C t fr)) (hk : ∀ j, j < w.heap.size → j ≠ M → w'.heap[j]? = w.heap[j]?) : w'.heap[g]? = some (.cells C t fr) :=
  (hk g (row_lt h) fun q => hg _ _ _ (by rw [← q]; exact h)).trans h
theorem gb_of {M : Nat} {a b : World} (h : Below a.heap.size a b) : a.grownBy b (some M) := ⟨h.os, h.tape, h.output, h.size, fun i hi _ => h.block i hi⟩
theorem gb_row {M : Nat} {a b : World} (h : a.grownBy b (some M)) {g : Nat} (hg : a.heap.size ≤ g) (cs : Array Value) : a.grownBy (b.setRow g cs) (some M) :=
  ⟨h.os, h.tape, h.output, by simp [World.setRow]; exact h.size, fun i hi hne => (setRow_other b g i cs (by omega)).trans (h.block i hi hne)⟩
theorem gb_next {M r : Nat} {a b c : World} (h : a.grownBy b (some M)) (k : b.grownBy c (some r)) (hr : a.heap.size ≤ r) : a.grownBy c (some M) := h.andThen k fun j e => .inl (by cases e; exact hr)
set_option maxRecDepth 100000 in
set_option maxHeartbeats 16000000 in
theorem oncetick_any (v : Value) (n M c0 : Nat) (T : List Tm) (D : DataW Unit) (w : World) (hv : WhT w v n T) (hR : rightW n T = true) (hT : okT T) (hn : n < 4611686018427387904) (hM : OwnU M c0 D w) (hK : Keeps D T) (hI : Sized D T) :
    Calls Try.prog 18 #[v, .map (some M)] w fun e w' => ∃ v' D', e = .returned v' ∧ WhT w' v' (n + 1) (T.filter (notDue (n + 1))) ∧ OwnU M c0 D' w' ∧ Keeps D' (T.filter (notDue (n + 1))) ∧ Sized D' (T.filter (notDue (n + 1))) ∧ w.grownBy w' (some M) := by
  obtain ⟨s, rfl, hs1, hts⟩ := hv.form
  have HS1 := Lib.hid hs1
  have HR := Lib.hid hR
  have HOT := Lib.hid hT
  obtain ⟨w1, hw1⟩ : ∃ w1, ((w.alloc (.cells #[.int .u64 (n : Int), s] 27)).alloc (.cells #[.int .u64 0, .slice none 0 0] 27)) = w1 := ⟨_, rfl⟩
  have hb1 : Below w.heap.size w w1 := by rw [← hw1]; exact ((Below.refl _ _).alloc (Nat.le_refl _) _).alloc (by simp) _
  have HX0 : Hid (w1.heap[w.heap.size]? = some (.cells #[.int .u64 (n : Int), s] 27 (0, 0))) := by rw [← hw1]; exact old_alloc (heap_alloc_new w _) _
  have HX1 : Hid (w1.heap[w.heap.size + 1]? = some (.cells #[.int .u64 0, .slice none 0 0] 27 (0, 0))) := by rw [← hw1]; exact new_at1 w _ _
  have HW := Lib.hid hw1
  have HTS := Lib.hid (hts.below hb1)
  have HM1 := Lib.hid (OwnU.below hM hb1)
  have HG1 : Hid (w.grownBy w1 (some M)) := gb_of hb1
  obtain ⟨g, hg⟩ : ∃ g, w.heap.size + 1 = g := ⟨_, rfl⟩
  rw [hg] at HX1
  have HG := Lib.hid hg
  have HGE : Hid (w.heap.size ≤ g) := by show _ ≤ _; omega
  clear hw1 hg hv hts hR hT hM hb1 hs1
  go_enter Try.func18, Try.ntmps18
  go_upto_region 1 with (fail)
  change Code.wp _ _ _ _ ((w.alloc (.cells #[.int .u64 (n : Int), s] 27)).alloc (.cells #[.int .u64 0, .slice none 0 0] 27))
  rw [HW.out, HG.out]
  go_wp2_with (refine wpList_load_row rfl 27 _ rfl w.heap.size rfl 27 #[.int .u64 (n : Int), s] (0, 0) _ HX0.out Try.underlying27 rfl (by kernel_rfl) ?_)
  refine (tick_any _ n T w1 ⟨s, rfl, HTS.out.slt⟩ HR.out HOT.out hn).mono ?_
  rintro e w2 ⟨v2, u2, rfl, hv2, hu2, hb⟩
  obtain ⟨s2, rfl, ho2, ht2⟩ := hv2.form
  have HO2 := Lib.hid ho2
  have HT2 := Lib.hid ht2
  have HU2 := Lib.hid hu2
  have HX12 := Lib.hid (old_below HX1.out hb (row_lt HX1.out))
  have HM2 := Lib.hid (OwnU.below HM1.out hb)
  have HG2 := Lib.hid (HG1.out.trans (gb_of hb))
  clear hv2 hu2 ho2 ht2 hb HX0 HX1 HM1 HG1 HTS
  go_upto_region 2 with (first | (refine wpList_store_new rfl 27 _ _ rfl w2 #[.int .u64 0, .slice none 0 0] #[.int .u64 ((n : Int) + 1), s2] rfl rfl (by kernel_rfl) rfl (wh_one HO2.out) ?_) | go_in)
  have hba : Below w2.heap.size w2 (w2.alloc (.cells #[.int .u64 ((n : Int) + 1), s2] 27)) := (Below.refl _ _).alloc (Nat.le_refl _) _
  have HX3 : Hid ((w2.alloc (.cells #[.int .u64 ((n : Int) + 1), s2] 27)).heap[w2.heap.size]? = some (.cells #[.int .u64 ((n : Int) + 1), s2] 27 (0, 0))) := heap_alloc_new w2 _
  have HY3 := Lib.hid (old_below HX12.out hba (row_lt HX12.out))
  have HT3 := Lib.hid (HT2.out.below hba)
  have HU3 := Lib.hid (HU2.out.below hba)
  have HM3 := Lib.hid (OwnU.below HM2.out hba)
  have HG3 := Lib.hid (HG2.out.trans (gb_of hba))
  have HNE : Hid (w2.heap.size ≠ g) := by have := row_lt HX12.out; show _ ≠ _; omega
  clear hba HX12 HT2 HU2 HM2 HG2
  generalize w2.alloc (.cells #[.int .u64 ((n : Int) + 1), s2] 27) = w3 at HX3 HY3 HT3 HU3 HM3 HG3 ⊢
  generalize w2.heap.size = gn at HX3 HNE ⊢
  have hpw := (rightW_iff.1 HR.out).2.2.1
  have HPW := Lib.hid hpw
  obtain ⟨L, hL⟩ : ∃ L, dueX (n + 1) T = L := ⟨_, rfl⟩
  have HLL := Lib.hid hL
  rw [hL] at HU3
  obtain ⟨A, c, rfl, -, -, hlu, hcu⟩ := HU3.out
  obtain ⟨m, hm⟩ : ∃ m, L.length = m := ⟨_, rfl⟩
  have HM0 := Lib.hid hm
  rw [hm] at hlu HU3 ⊢
  have hcu2 : c ≤ 9223372036854775807 := by unfold maxLen at hcu; omega
  clear hpw hL hm hcu
  go_wp2
  go_loopw [18] (fun t18 wr => ∃ (j : Nat) (D2 : DataW Unit), j ≤ m ∧ t18 = .int .i64 (j : Int) ∧ Hid (OwnU M c0 D2 wr) ∧ Hid (Sized D2 (goneT (L.take j) T)) ∧ Hid (Keeps D2 (goneT (L.take j) T)) ∧ Hid (InT wr (.slice A m c) L) ∧ Hid (TsT wr s2 (T.filter (notDue (n + 1)))) ∧ Hid (wr.heap[gn]? = some (.cells #[.int .u64 ((n : Int) + 1), s2] 27 (0, 0))) ∧ Hid (wr.heap[g]? = some (.cells #[.int .u64 0, .slice none 0 0] 27 (0, 0))) ∧ Hid (w.grownBy wr (some M))) (fun t18 _ => m - (intOf t18).toNat)
  case atStart => exact ⟨0, D, Nat.zero_le _, rfl, HM3, Lib.hid (by rw [List.take_zero, gone_nil]; exact hI), Lib.hid (by rw [List.take_zero, gone_nil]; exact hK), HU3, HT3, HX3, HY3, HG3⟩
  case round =>
    clear HM3 HU3 HT3 HX3 HY3 HG3
    obtain ⟨j, D2, hj, rfl, HMI, HII, HKI, HUI, HTI, HXI, HYI, HGI⟩ := hrel
    by_cases hlt : j < m
    · obtain ⟨z, hz⟩ : ∃ z, L[j]? = some z := ⟨_, List.getElem?_eq_getElem (by rw [HM0.out]; exact hlt)⟩
      obtain ⟨t, ht, hti, htd⟩ := due_in (n := n + 1) (j := j) (z := z) HPW.out (by rw [HLL.out]; exact hz)
      rw [HLL.out] at ht
      have hzi : I64 z := by rw [← hti]; exact (HOT.out t (List.mem_filter.1 ht).1).1
      have hka := (HKI.out.all t ht).2
      rw [hti, htd] at hka
      have HKA : Hid (∀ zd, D2.atKey (KI z) zd = .lit (.int .u64 ((n : Int) + 1))) := hka
      have HKS : Hid (Keeps (D2.del (KI z)) (goneT (L.take (j + 1)) T)) := by
        show Keeps _ _
        rw [gone_snoc hz]
        exact HKI.out.del z
      have HIS : Hid (Sized (D2.del (KI z)) (goneT (L.take (j + 1)) T)) := by
        show Sized _ _
        rw [gone_snoc hz]
        exact HII.out.del HKI.out (HPW.out.sublist List.filter_sublist) z
      have HKY : Hid (keyOf Try.prog 3 (.int .i64 z) = some (KI z)) := key_int hzi
      obtain ⟨A1, c1, e1, hrt, -⟩ := HUI.out
      injection e1 with e1 e2 e3
      subst e1 e3
      obtain ⟨ad, rfl, hua⟩ := el_one1 inE hrt.rd hz (v := .int .i64 z) rfl
      have hc0 := hua wr (Below.refl _ _)
      clear hz ht hti htd hzi hka hrt hua e2
      obtain ⟨x0, x1⟩ := two_cells HXI.out
      go_upto_region 7 with (first | (at_lookup; refine wpList_lookup_own_int _ rfl _ _ 55 rfl 3 22 .u64 intlaw Try.underlying55 Try.underlying22 (zero_u64 _) M c0 _ rfl HMI.out _ _ rfl HKY.out ?_; intro cc hat hwc; cases (lk_eq hat HKA.out); clear hat hwc) | go_in)
      clear hc0 x0 x1
      go_upto_region 8 with (first | (at_delete; refine wpList_delete_own _ rfl _ _ 55 3 rfl 22 intlaw Try.underlying55 _ M c0 _ rfl HMI.out _ _ rfl HKY.out ?_; intro w16 hown hturn) | go_in)
      go_frame
      have HMJ : Hid (OwnU M c0 (D2.del (KI z)) w16) := hown
      have hkp : ∀ j, j < wr.heap.size → j ≠ M → w16.heap[j]? = wr.heap[j]? := fun j hj hne => hturn.grown.block j hj (by simpa using hne)
      have HUJ := Lib.hid (tl_turn HUI.out HMI.out.nocells hkp)
      have HTJ := Lib.hid (tl_turn HTI.out HMI.out.nocells hkp)
      have HXJ := Lib.hid (row_turn HXI.out HMI.out.nocells hkp)
      have HYJ := Lib.hid (row_turn HYI.out HMI.out.nocells hkp)
      have HGJ := Lib.hid (HGI.out.trans hturn.grown)
      clear hown hturn hkp
      go_wp2
      go_roundw
      case rel => exact ⟨j + 1, _, by omega, by go_num, HMJ, HIS, HKS, HUJ, HTJ, HXJ, HYJ, HGJ⟩
      case measure => simp [intOf]; omega
    · obtain rfl : j = m := by omega
      have hkf := HKI.out
      rw [List.take_of_length_le (Nat.le_of_eq HM0.out), ← HLL.out, gone_due HPW.out] at hkf
      have HKF := Lib.hid hkf
      have hif := HII.out
      rw [List.take_of_length_le (Nat.le_of_eq HM0.out), ← HLL.out, gone_due HPW.out] at hif
      have HIF := Lib.hid hif
      have HRN := Lib.hid (right_tick HR.out hn)
      clear hkf hif
      go_wp2_with (first | (at_range; refine wpList_range_own _ rfl _ 55 rfl 3 22 intlaw Try.underlying55 _ M c0 _ rfl HMI.out ?_; intro w0 hrg0 hg0 hs0) | go_in)
      go_frame
      have hb0 : Below wr.heap.size wr w0 := (Below.refl wr.heap.size wr).grown hg0 (Nat.le_refl _) (fun g hg => by cases hg)
      have HRG0 : Hid (RangeU M wr.heap.size c0 D2 (has D2) (Maps.size D2) w0) := hrg0
      have HT0 := Lib.hid (HTI.out.below hb0)
      have HX0 := Lib.hid (old_below HXI.out hb0 (row_lt HXI.out))
      have HY0 := Lib.hid (old_below HYI.out hb0 (row_lt HYI.out))
      have HG0 := Lib.hid (HGI.out.trans (gb_of hb0))
      have HNJ : Hid (w.heap.size ≤ wr.heap.size) := HGI.out.size
      generalize wr.heap.size = J at HRG0 HNJ ⊢
      clear hb0 hrg0 hg0 hs0 HMI HKI HUI HTI HXI HYI HGI
      go_loopw [10] (fun t10 wi => ∃ (left : Lit → Bool) (cnt : Nat), Hid (RangeU M J c0 D2 left cnt wi) ∧ Hid (TsT wi s2 (T.filter (notDue (n + 1)))) ∧ Hid (wi.heap[gn]? = some (.cells #[.int .u64 ((n : Int) + 1), s2] 27 (0, 0))) ∧ Hid (wi.heap[g]? = some (.cells #[.int .u64 0, .slice none 0 0] 27 (0, 0))) ∧ Hid (w.grownBy wi (some M))) (fun _ wi => wi.rangeLeft M J)
      case atStart => exact ⟨_, _, HRG0, HT0, HX0, HY0, HG0⟩
      case round =>
        obtain ⟨left, cnt, HRG, HTI, HXI, HYI, HGI⟩ := hrel
        clear HRG0 HT0 HX0 HY0 HG0
        go_wp2_with (first | (at_next; refine wpList_next_ranges_ii _ rfl _ rfl 3 22 .i64 .u64 intlaw Try.underlying3 Try.underlying22 M J c0 _ _ _ rfl HRG.out ?_ ?_) | go_in)
        · intro _ hl0
          clear hl0
          have HMF : Hid (OwnU M c0 D2 _) := World.ranges.owns HRG.out
          rename World => wf
          have HTF : Hid (TsT (wf.setRow g #[.int .u64 ((n : Int) + 1), s2]) s2 (T.filter (notDue (n + 1)))) := HTI.out.setRow HYI.out (by decide) _
          have HMG := Lib.hid (OwnU.set HMF.out HYI.out #[.int .u64 ((n : Int) + 1), s2])
          have HGG := Lib.hid (gb_row HGI.out HGE.out #[.int .u64 ((n : Int) + 1), s2])
          go_wp2_with (first | (refine wpList_load_row rfl 27 _ rfl gn rfl 27 #[.int .u64 ((n : Int) + 1), s2] (0, 0) _ HXI.out Try.underlying27 rfl (by kernel_rfl) ?_) | (refine wpList_store_row rfl 27 _ _ rfl g #[.int .u64 ((n : Int) + 1), s2] rfl rfl 27 #[.int .u64 0, .slice none 0 0] HYI.out (by kernel_rfl) rfl (wh_one HO2.out) ?_))
          refine ret_one (g := g) rfl rfl (setRow_heap _ _ _ _ _ _ HYI.out) Try.underlying27 rfl (by kernel_rfl) rfl ?_
          exact ⟨_, D2, rfl, ⟨s2, rfl, HTF.out⟩, HMG.out, HKF.out, HIF.out, HGG.out⟩
        · intro x2 c3 wj cnt1 hwx hwc hlx hat hrg1 hltc hg1 hs1 hen
          obtain ⟨k2, u2, ek, hat2, hu2⟩ := HKF.out.later HRN.out (has_true_of_atKey hat)
          obtain rfl : c3 = (u2 : Int) := lk_eq (hat .nil) hat2
          have HRJ : Hid (RangeU M J c0 D2 (fun y => left y && !y.sameKey (KI x2)) cnt1 wj) := hrg1
          have HLT := Lib.hid hltc
          have hnj : ∀ j, j < wr.heap.size → j ≠ J → wj.heap[j]? = wr.heap[j]? := fun j hj hne => hg1.block j hj (by simpa using hne)
          have HTJ := Lib.hid (tl_turn HTI.out (RangeU.nocells HRG.out) hnj)
          have HXJ := Lib.hid (row_turn HXI.out (RangeU.nocells HRG.out) hnj)
          have HYJ := Lib.hid (row_turn HYI.out (RangeU.nocells HRG.out) hnj)
          have HGJ := Lib.hid (gb_next HGI.out hg1 HNJ.out)
          have hle : ¬ (u2 : Int) ≤ (n : Int) + 1 := by omega
          clear hnj hrg1 hltc hg1 hs1 hlx hwx hwc hat hat2 ek hu2
          obtain ⟨x0, x1⟩ := two_cells HXJ.out
          go_wp2
          go_roundw
          case rel => exact ⟨_, _, HRJ, HTJ, HXJ, HYJ, HGJ⟩
          case measure => rw [World.ranges.left_eq HRJ.out, World.ranges.left_eq HRG.out]; exact HLT.out
end Go.Proofs.Ytljochpomgjjeaa
